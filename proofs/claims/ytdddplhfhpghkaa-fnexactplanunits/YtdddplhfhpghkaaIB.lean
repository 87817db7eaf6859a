import Derived.Test.YtdddplhfhpghkaaIA
namespace Go.Proofs.Ytdddplhfhpghkaa.sri
open Go.ChangeShapes Go.WideShapes Go.ChangeAt Go.RowKit Go.Deep
set_option linter.unusedVariables false
set_option linter.unusedSimpArgs false

theorem made_row (w : World) (cap : Nat) (hc : cap ≤ 1000000) : (w.alloc (.cells (madeCells (Value.int .i64 0).cells cap) 3)).ownsRow w.heap.size 3 1 (.slice (some ⟨w.heap.size, 0, none⟩) 0 cap) ([] : List Nat).length (([] : List Nat).map iV) :=
  World.ownsRow_made w _ cap (Nat.le_refl _) (by unfold maxLen; omega) (by rw [size_madeCells]; simp)

theorem make_run (n : Nat) (hn : n ≤ 1000000) (w : World) : (Instr.makeSlice 54 (.int .i64 0) (.int .i64 (n : Int))).run Try.prog w = .ok (.slice (some ⟨w.heap.size, 0, none⟩) 0 n) (w.alloc (.cells (madeCells (Value.int .i64 0).cells n) 3)) := by
  obtain ⟨i, hi, hz, hs, hb⟩ := info_parts infoQ
  have hr := run_make (P := Try.prog) w 54 3 i _ Try.underlying54 hi hz .i64 .i64 0 n (by omega) (by omega) (by rw [hb]; omega) (by omega)
  simp only [Int.toNat_natCast, Int.toNat_zero, hs, Nat.mul_one] at hr
  exact hr

def slLen : Value → Nat | .slice _ n _ => n | _ => 0

theorem one_str (w : World) {l : Nat} {u : Nat} (h : iV l = .int .i64 (u : Int)) : ∀ j v, ([l].map iV)[j]? = some v → (w.alloc (.cells #[.int .i64 (u : Int)] 3)).cell? ((⟨w.heap.size, 0, none⟩ : Addr).add j) = some v := by
  rw [List.map_singleton, h]
  exact one_new w _ 3

theorem drop_at {R : List Nat} {i : Nat} (h : i < R.length) : R.drop i = xAt R i :: R.drop (i + 1) := by
  rw [List.drop_eq_getElem_cons h]
  congr 1
  simp [xAt, h]

theorem mrg_zero {R : List Nat} {i : Nat} (h : i < R.length) : mrg (([] : List Nat).length + (R.length - i)) [] (R.drop i) = xAt R i :: mrg (([] : List Nat).length + (R.length - (i + 1))) [] (R.drop (i + 1)) := by
  rw [drop_at h, show ([] : List Nat).length + (R.length - i) = (([] : List Nat).length + (R.length - (i + 1))) + 1 by simp; omega, mrg]

theorem mrg_less {R l : List Nat} {y : Nat} {i : Nat} (h : i < R.length) (hb : decide (xAt R i < y) = true) : mrg ((y :: l).length + (R.length - i)) (y :: l) (R.drop i) = xAt R i :: mrg ((y :: l).length + (R.length - (i + 1))) (y :: l) (R.drop (i + 1)) := by
  rw [drop_at h, show (y :: l).length + (R.length - i) = ((y :: l).length + (R.length - (i + 1))) + 1 by simp; omega, mrg, if_pos hb]

theorem mrg_not {R l : List Nat} {y : Nat} {i : Nat} (h : i < R.length) (hb : decide (xAt R i < y) = false) : mrg ((y :: l).length + (R.length - i)) (y :: l) (R.drop i) = y :: mrg (l.length + (R.length - i)) l (R.drop i) := by
  rw [drop_at h, show (y :: l).length + (R.length - i) = (l.length + (R.length - i)) + 1 by simp; omega, mrg, if_neg (by simp [hb])]

abbrev FV : Value := .func (.func 59) #[] #[]

set_option maxRecDepth 100000 in
set_option maxHeartbeats 1000000 in
theorem merged_any (L R : List Nat) (vl vr : Value) (w : World) (hL : StrR w vl L) (hR : StrR w vr R) (hn : L.length + R.length ≤ 1000) :
    Calls Try.prog 83 #[vl, vr, FV] w fun e w' => ∃ v', e = .returned v' ∧ OwnS w.heap.size w' v' (mrg (L.length + R.length) L R) ∧ Below w.heap.size w w' := by
  obtain ⟨bl, ol0, cl0, rfl, l1, l2, hlc⟩ := hL
  obtain ⟨br, orr, cr, rfl, r1, r2, hrc⟩ := hR
  unfold maxLen at l2 r2
  have HRC : Hid (∀ i, i < R.length → w.cell? ⟨br, orr + i, none⟩ = some (iV (xAt R i))) := fun i h => hrc i _ (xAt_some h)
  have HLC : Hid (∀ i x, L[i]? = some x → w.cell? ⟨bl, ol0 + i, none⟩ = some (iV x)) := hlc
  have hmk : ∀ w : World, (Instr.makeSlice 54 (.int .i64 0) (.int .i64 ((L.length : Int) + (R.length : Int)))).run Try.prog w = .ok (.slice (some ⟨w.heap.size, 0, none⟩) 0 (L.length + R.length)) (w.alloc (.cells (madeCells (Value.int .i64 0).cells (L.length + R.length)) 3)) := fun w => by
    have := make_run (L.length + R.length) (by omega) w
    rwa [Int.natCast_add] at this
  have HMR : Hid ((w.alloc (.cells (madeCells (Value.int .i64 0).cells (L.length + R.length)) 3)).ownsRow w.heap.size 3 1 (.slice (some ⟨w.heap.size, 0, none⟩) 0 (L.length + R.length)) ([] : List Nat).length (([] : List Nat).map iV)) := made_row w (L.length + R.length) (by omega)
  obtain ⟨T, hT⟩ : ∃ T, mrg (L.length + R.length) L R = T := ⟨_, rfl⟩
  rw [hT]
  have HT : Hid (mrg (L.length + R.length) L R = T) := hT
  have hTl : T.length = L.length + R.length := by rw [← hT, mrg_len]
  clear hlc hrc hT
  go_enter Try.func83, Try.ntmps83
  go_wp2
  clear hmk
  go_loopw [0, 7, 18] (fun l a x wr => ∃ (i : Nat) (Lr acc : List Nat) (ol cl : Nat), i ≤ R.length ∧ x = .int .i64 (i : Int) ∧ l = .slice (some ⟨bl, ol, none⟩) Lr.length cl ∧ Lr.length ≤ cl ∧ cl ≤ 9223372036854775807 ∧ (∀ j y, Lr[j]? = some y → w.cell? ⟨bl, ol + j, none⟩ = some (iV y)) ∧ wr.ownsRow w.heap.size 3 1 a acc.length (acc.map iV) ∧ a ≠ .slice none 0 0 ∧ T = acc ++ mrg (Lr.length + (R.length - i)) Lr (R.drop i) ∧ Below w.heap.size w wr) (fun _ _ x _ => R.length - (intOf x).toNat)
  case atStart => exact ⟨0, L, [], ol0, cl0, Nat.zero_le _, rfl, rfl, l1, by omega, HLC.out, HMR.out, not_nil _ _ _, by rw [← HT.out]; rfl, (Below.refl _ _).alloc (Nat.le_refl _) _⟩
  case round =>
    obtain ⟨i, Lr, acc, ol, cl, hi, rfl, rfl, hl1, hl2, hcel, hown, hva, hTT, hbel⟩ := hrel
    have HOWN0 : Hid (wr.ownsRow w.heap.size 3 1 u7 acc.length (acc.map iV)) := hown
    have HVA0 : Hid (u7 ≠ .slice none 0 0) := hva
    have HTT0 : Hid (T = acc ++ mrg (Lr.length + (R.length - i)) Lr (R.drop i)) := hTT
    have HCEL0 : Hid (∀ j y, Lr[j]? = some y → w.cell? ⟨bl, ol + j, none⟩ = some (iV y)) := hcel
    have HBQ0 : Hid (Below w.heap.size w wr) := hbel
    clear hown hva hTT hcel
    by_cases h : i < R.length
    · have h' : (i : Int) < (R.length : Int) := by omega
      have cx : wr.cell? ⟨br, orr + i, none⟩ = some (iV (xAt R i)) := (hbel.cell (p := ⟨br, _, none⟩) (World.block_lt_of_cell? _ _ (HRC.out i h))).trans (HRC.out i h)
      obtain ⟨u, hu⟩ : ∃ u : Nat, iV (xAt R i) = .int .i64 (u : Int) := ⟨_, rfl⟩
      rw [hu] at cx
      have HUX : Hid (iV (xAt R i) = .int .i64 (u : Int)) := hu
      have HUL : Hid (u = xAt R i) := by
        show _ = _
        unfold iV at hu
        injection hu with _ hu
        omega
      clear hu
      go_wp2
      go_loopw [0, 7] (fun l a wq => ∃ (Lr acc : List Nat) (ol cl : Nat), l = .slice (some ⟨bl, ol, none⟩) Lr.length cl ∧ Lr.length ≤ cl ∧ cl ≤ 9223372036854775807 ∧ (∀ j y, Lr[j]? = some y → w.cell? ⟨bl, ol + j, none⟩ = some (iV y)) ∧ wq.ownsRow w.heap.size 3 1 a acc.length (acc.map iV) ∧ a ≠ .slice none 0 0 ∧ T = acc ++ mrg (Lr.length + (R.length - i)) Lr (R.drop i) ∧ Below w.heap.size w wq) (fun l _ _ => slLen l)
      case atStart => exact ⟨Lr, acc, ol, cl, rfl, hl1, hl2, HCEL0.out, HOWN0.out, HVA0.out, HTT0.out, HBQ0.out⟩
      case round =>
        clear HOWN0 HVA0 HTT0 HCEL0 HBQ0 hbel cx hl1 hl2
        obtain ⟨Lr, acc, ol, cl, rfl, hl1, hl2, hcel, hown, hva, hTT, hbel⟩ := hrel
        have HOWN : Hid (wr.ownsRow w.heap.size 3 1 u7 acc.length (acc.map iV)) := hown
        have HVA : Hid (u7 ≠ .slice none 0 0) := hva
        have HBQ : Hid (Below w.heap.size w wr) := hbel
        have hacc : acc.length ≤ 1000 := by
          have := congrArg List.length hTT
          rw [List.length_append, mrg_len] at this
          omega
        have HLEN : Hid (Lr.length ≤ cl ∧ cl ≤ 9223372036854775807) := ⟨hl1, hl2⟩
        have HCEL : Hid (∀ j y, Lr[j]? = some y → w.cell? ⟨bl, ol + j, none⟩ = some (iV y)) := hcel
        clear hown hva
        cases Lr with
        | nil =>
          have HTT : Hid (T = acc ++ [xAt R i] ++ mrg (([] : List Nat).length + (R.length - (i + 1))) [] (R.drop (i + 1))) := by show _ = _; rw [hTT, mrg_zero h]; simp
          clear hTT hcel
          go_wp2_with (first
            | (at_builtin; refine app_str _ rfl _ _ rfl w.heap.size _ acc rfl (HOWN.out.alloc _) HVA.out ⟨_, 0, none⟩ 1 1 [xAt R i] rfl rfl (one_str _ HUX.out) (by omega) (by have := HBQ.out.size; simp; omega) ?_; intro v' w' hown' hv' hg'; have hb' := below_grown (HBQ.out.alloc HBQ.out.size _) (HOWN.out.alloc _) hg' (by have := HBQ.out.size; simp; omega); clear hg')
            | go_in)
          go_roundw
          case rel => exact ⟨i + 1, [], acc ++ [xAt R i], ol, cl, by omega, by go_num, rfl, HLEN.out.1, HLEN.out.2, HCEL.out, hown', hv', HTT.out, hb'⟩
          case measure => simp [intOf]; omega
        | cons y l =>
          have cy : wr.cell? ⟨bl, ol, none⟩ = some (iV y) := by
            have c := hcel 0 y rfl
            exact (hbel.cell (p := ⟨bl, _, none⟩) (World.block_lt_of_cell? _ _ c)).trans c
          obtain ⟨z, hz⟩ : ∃ z : Nat, iV y = .int .i64 (z : Int) := ⟨_, rfl⟩
          rw [hz] at cy
          have HZ : Hid (iV y = .int .i64 (z : Int)) := hz
          have hzl : z = y := by
            unfold iV at hz
            injection hz with _ hz
            omega
          have hpos : (0 : Int) < ((y :: l).length : Int) := by rw [List.length_cons]; omega
          have HLS := less_any u z wr
          rw [show decide (u < z) = decide (xAt R i < y) by rw [HUL.out, hzl]] at HLS
          cases hb : decide (xAt R i < y) with
          | true =>
            rw [hb] at HLS
            have HLS' : Hid (Calls Try.prog 59 #[.int .i64 (u : Int), .int .i64 (z : Int)] wr fun e w' => e = .returned (.bool true) ∧ w' = wr) := HLS
            have HTT : Hid (T = acc ++ [xAt R i] ++ mrg ((y :: l).length + (R.length - (i + 1))) (y :: l) (R.drop (i + 1))) := by show _ = _; rw [hTT, mrg_less h hb]; simp
            obtain ⟨LL, hLL⟩ : ∃ LL, y :: l = LL := ⟨_, rfl⟩
            rw [hLL] at HTT HLEN HCEL hpos ⊢
            clear hTT hcel HLS hz hzl hb hLL
            go_wp2_with (first
              | (go_at_call 59; refine HLS'.out.mono ?_; rintro e w' ⟨rfl, rfl⟩)
              | (at_builtin; refine app_str _ rfl _ _ rfl w.heap.size _ acc rfl (HOWN.out.alloc _) HVA.out ⟨_, 0, none⟩ 1 1 [xAt R i] rfl rfl (one_str _ HUX.out) (by omega) (by have := HBQ.out.size; simp; omega) ?_; intro v' w' hown' hv' hg'; have hb' := below_grown (HBQ.out.alloc HBQ.out.size _) (HOWN.out.alloc _) hg' (by have := HBQ.out.size; simp; omega); clear hg')
              | go_in)
            go_roundw
            case rel => exact ⟨i + 1, LL, acc ++ [xAt R i], ol, cl, by omega, by go_num, rfl, HLEN.out.1, HLEN.out.2, HCEL.out, hown', hv', HTT.out, hb'⟩
            case measure => simp [intOf]; omega
          | false =>
            rw [hb] at HLS
            have HLS' : Hid (Calls Try.prog 59 #[.int .i64 (u : Int), .int .i64 (z : Int)] wr fun e w' => e = .returned (.bool false) ∧ w' = wr) := HLS
            have HTT : Hid (T = acc ++ [y] ++ mrg (l.length + (R.length - i)) l (R.drop i)) := by show _ = _; rw [hTT, mrg_not h hb]; simp
            obtain ⟨o1, ho1⟩ : ∃ o1, (if cl = 1 then some (⟨bl, ol, none⟩ : Addr) else some ⟨bl, ol + 1, none⟩) = some ⟨bl, o1, none⟩ := by split <;> exact ⟨_, rfl⟩
            have HC1 : Hid (∀ j x, l[j]? = some x → w.cell? ⟨bl, o1 + j, none⟩ = some (iV x)) := fun j x hx => by
              have hlt := (List.getElem?_eq_some_iff.1 hx).1
              have hne : ¬ cl = 1 := by simp at hl1; omega
              rw [if_neg hne] at ho1
              have e : ol + 1 = o1 := by simpa using ho1
              have := hcel (j + 1) x (by simpa using hx)
              rw [← e, Nat.add_assoc, Nat.add_comm 1 j]
              exact this
            have hl1' : l.length + 1 ≤ cl := by simpa using hl1
            have hone : (1 : Int) ≤ (l.length : Int) + 1 := by omega
            have hlen1 : (y :: l).length = l.length + 1 := rfl
            rw [hlen1] at hpos ⊢
            clear hTT hcel HLS hz hzl hb HCEL HLEN
            go_wp2_with (first
              | (go_at_call 59; refine HLS'.out.mono ?_; rintro e w' ⟨rfl, rfl⟩)
              | (at_builtin; refine app_str _ rfl _ _ rfl w.heap.size _ acc rfl (HOWN.out.alloc _) HVA.out ⟨_, 0, none⟩ 1 1 [y] rfl rfl (one_str _ HZ.out) (by omega) (by have := HBQ.out.size; simp; omega) ?_; intro v' w' hown' hv' hg'; have hb' := below_grown (HBQ.out.alloc HBQ.out.size _) (HOWN.out.alloc _) hg' (by have := HBQ.out.size; simp; omega); clear hg')
              | go_in)
            go_roundw
            case rel => exact ⟨l, acc ++ [y], o1, cl - 1, by rfl, by omega, by omega, HC1.out, hown', hv', HTT.out, hb'⟩
            case measure => simp [slLen]
    · have h' : ¬ (i : Int) < (R.length : Int) := by omega
      obtain rfl : i = R.length := by omega
      have HTT : Hid (T = acc ++ Lr) := by show _ = _; rw [HTT0.out, List.drop_length, mrg_end]
      have HCR : Hid (∀ j u, (Lr.map iV)[j]? = some u → wr.cell? ((⟨bl, ol, none⟩ : Addr).add j) = some u) := row_news fun j x hx => (hbel.cell (p := ⟨bl, _, none⟩) (World.block_lt_of_cell? _ _ (HCEL0.out j x hx))).trans (HCEL0.out j x hx)
      have hsum : acc.length + Lr.length ≤ 1000 := by
        have := congrArg List.length HTT.out
        rw [List.length_append] at this
        omega
      go_wp2_with (first
        | (at_builtin; refine app_str _ rfl _ _ rfl w.heap.size _ acc rfl HOWN0.out HVA0.out ⟨bl, ol, none⟩ Lr.length cl Lr rfl rfl HCR.out (by omega) HBQ0.out.size ?_; intro v' w' hown' hv' hg'; have hb' := below_grown HBQ0.out HOWN0.out hg' HBQ0.out.size; clear hg')
        | go_in)
      go_ret
      exact ⟨_, rfl, by rw [HTT.out]; exact ⟨hown', hv'⟩, hb'⟩

end Go.Proofs.Ytdddplhfhpghkaa.sri
