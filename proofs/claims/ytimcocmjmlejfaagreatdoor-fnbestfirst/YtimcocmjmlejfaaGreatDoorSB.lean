import Derived.Test.YtimcocmjmlejfaaGreatDoorSA
namespace Go.Proofs.YtimcocmjmlejfaaGreatDoor.sv
open Go.ChangeShapes Go.WideShapes Go.ChangeAt Go.RowKit Go.Deep Go.Proofs.YtimcocmjmlejfaaGreatDoor.vr
set_option linter.unusedVariables false
set_option linter.unusedSimpArgs false

abbrev FV (rv : Value) : Value := .func (.func 47) #[rv] #[]

set_option maxRecDepth 100000 in
set_option maxHeartbeats 1000000 in
theorem merged_any {bf : Nat → Nat → Bool} {D : Nat → Prop} {rv : Value} {w0 : World} (hBF : BF 47 rv bf D w0) (L R : List Nat) (vl vr : Value) (w : World) (hL : IntR w vl L) (hR : IntR w vr R) (hdl : ∀ i ∈ L, D i) (hdr : ∀ i ∈ R, D i) (hb0 : Below w0.heap.size w0 w) (hn : L.length + R.length ≤ 5000) :
    Calls Tryz.prog 71 #[vl, vr, FV rv] w fun e w' => ∃ v', e = .returned v' ∧ OwnN w.heap.size w' v' (mrg bf (L.length + R.length) L R) ∧ Below w.heap.size w w' := by
  obtain ⟨bl, ol0, cl0, rfl, l1, l2, hlc⟩ := hL
  obtain ⟨br, orr, cr, rfl, r1, r2, hrc⟩ := hR
  unfold maxLen at l2 r2
  have HRC : Hid (∀ i, i < R.length → w.cell? ⟨br, orr + i, none⟩ = some (iv (xAt R i))) := fun i h => hrc i _ (xAt_some h)
  have HDR : Hid (∀ i, i < R.length → D (xAt R i)) := fun i h => hdr _ (List.mem_of_getElem? (xAt_some h))
  have HLC : Hid (∀ i x, L[i]? = some x → w.cell? ⟨bl, ol0 + i, none⟩ = some (iv x)) := hlc
  have HDL : Hid (∀ i ∈ L, D i) := hdl
  have HBF : Hid (BF 47 rv bf D w0) := hBF
  have HB0 : Hid (Below w0.heap.size w0 w) := hb0
  have hmk : ∀ w : World, (Instr.makeSlice 44 (.int .i64 0) (.int .i64 ((L.length : Int) + (R.length : Int)))).run Tryz.prog w = .ok (.slice (some ⟨w.heap.size, 0, none⟩) 0 (L.length + R.length)) (w.alloc (.cells (madeCells (Value.int .i64 0).cells (L.length + R.length)) 3)) := fun w => by
    have := make_run (L.length + R.length) (by omega) w
    rwa [Int.natCast_add] at this
  have HMR : Hid ((w.alloc (.cells (madeCells (Value.int .i64 0).cells (L.length + R.length)) 3)).ownsRow w.heap.size 3 1 (.slice (some ⟨w.heap.size, 0, none⟩) 0 (L.length + R.length)) ([] : List Nat).length (([] : List Nat).map iv)) := made_row w (L.length + R.length) (by omega)
  obtain ⟨T, hT⟩ : ∃ T, mrg bf (L.length + R.length) L R = T := ⟨_, rfl⟩
  rw [hT]
  have HT : Hid (mrg bf (L.length + R.length) L R = T) := hT
  have hTl : T.length = L.length + R.length := by rw [← hT, mrg_len]
  clear hlc hrc hT hdl hdr hBF hb0
  go_enter Tryz.func71, Tryz.ntmps71
  go_wp2
  clear hmk
  go_loopw [0, 7, 18] (fun l a x wr => ∃ (i : Nat) (Lr acc : List Nat) (ol cl : Nat), i ≤ R.length ∧ x = .int .i64 (i : Int) ∧ l = .slice (some ⟨bl, ol, none⟩) Lr.length cl ∧ Lr.length ≤ cl ∧ cl ≤ 9223372036854775807 ∧ (∀ j y, Lr[j]? = some y → w.cell? ⟨bl, ol + j, none⟩ = some (iv y)) ∧ (∀ y ∈ Lr, D y) ∧ wr.ownsRow w.heap.size 3 1 a acc.length (acc.map iv) ∧ a ≠ .slice none 0 0 ∧ T = acc ++ mrg bf (Lr.length + (R.length - i)) Lr (R.drop i) ∧ Below w.heap.size w wr) (fun _ _ x _ => R.length - (intOf x).toNat)
  case atStart => exact ⟨0, L, [], ol0, cl0, Nat.zero_le _, rfl, rfl, l1, by omega, HLC.out, HDL.out, HMR.out, not_nil _ _ _, by rw [← HT.out]; rfl, (Below.refl _ _).alloc (Nat.le_refl _) _⟩
  case round =>
    obtain ⟨i, Lr, acc, ol, cl, hi, rfl, rfl, hl1, hl2, hcel, hdl, hown, hva, hTT, hbel⟩ := hrel
    have HOWN0 : Hid (wr.ownsRow w.heap.size 3 1 u7 acc.length (acc.map iv)) := hown
    have HVA0 : Hid (u7 ≠ .slice none 0 0) := hva
    have HTT0 : Hid (T = acc ++ mrg bf (Lr.length + (R.length - i)) Lr (R.drop i)) := hTT
    have HCEL0 : Hid (∀ j y, Lr[j]? = some y → w.cell? ⟨bl, ol + j, none⟩ = some (iv y)) := hcel
    have HDL0 : Hid (∀ y ∈ Lr, D y) := hdl
    have HBQ0 : Hid (Below w.heap.size w wr) := hbel
    clear hown hva hTT hcel hdl
    by_cases h : i < R.length
    · have h' : (i : Int) < (R.length : Int) := by omega
      have cx : wr.cell? ⟨br, orr + i, none⟩ = some (.int .i64 (xAt R i : Int)) := (hbel.cell (p := ⟨br, _, none⟩) (World.block_lt_of_cell? _ _ (HRC.out i h))).trans (HRC.out i h)
      go_wp2
      go_loopw [0, 7] (fun l a wq => ∃ (Lr acc : List Nat) (ol cl : Nat), l = .slice (some ⟨bl, ol, none⟩) Lr.length cl ∧ Lr.length ≤ cl ∧ cl ≤ 9223372036854775807 ∧ (∀ j y, Lr[j]? = some y → w.cell? ⟨bl, ol + j, none⟩ = some (iv y)) ∧ (∀ y ∈ Lr, D y) ∧ wq.ownsRow w.heap.size 3 1 a acc.length (acc.map iv) ∧ a ≠ .slice none 0 0 ∧ T = acc ++ mrg bf (Lr.length + (R.length - i)) Lr (R.drop i) ∧ Below w.heap.size w wq) (fun l _ _ => slLen l)
      case atStart => exact ⟨Lr, acc, ol, cl, rfl, hl1, hl2, HCEL0.out, HDL0.out, HOWN0.out, HVA0.out, HTT0.out, HBQ0.out⟩
      case round =>
        clear HOWN0 HVA0 HTT0 HCEL0 HBQ0 HDL0 hbel cx hl1 hl2
        obtain ⟨Lr, acc, ol, cl, rfl, hl1, hl2, hcel, hdl, hown, hva, hTT, hbel⟩ := hrel
        have HOWN : Hid (wr.ownsRow w.heap.size 3 1 u7 acc.length (acc.map iv)) := hown
        have HVA : Hid (u7 ≠ .slice none 0 0) := hva
        have HBQ : Hid (Below w.heap.size w wr) := hbel
        have hacc : acc.length ≤ 5000 := by
          have := congrArg List.length hTT
          rw [List.length_append, mrg_len] at this
          omega
        have HLEN : Hid (Lr.length ≤ cl ∧ cl ≤ 9223372036854775807) := ⟨hl1, hl2⟩
        have HCEL : Hid (∀ j y, Lr[j]? = some y → w.cell? ⟨bl, ol + j, none⟩ = some (iv y)) := hcel
        have HDL1 : Hid (∀ y ∈ Lr, D y) := hdl
        clear hown hva
        cases Lr with
        | nil =>
          have HTT : Hid (T = acc ++ [xAt R i] ++ mrg bf (([] : List Nat).length + (R.length - (i + 1))) [] (R.drop (i + 1))) := by show _ = _; rw [hTT, mrg_zero h]; simp
          clear hTT hcel hdl
          go_wp2_with (first
            | (at_builtin; refine app_int _ rfl _ _ rfl w.heap.size _ acc rfl (HOWN.out.alloc _) HVA.out ⟨_, 0, none⟩ 1 1 [xAt R i] rfl rfl (one_int _ _) (by omega) (by have := HBQ.out.size; simp; omega) ?_; intro v' w' hown' hv' hg'; have hb' := below_grown (HBQ.out.alloc HBQ.out.size _) (HOWN.out.alloc _) hg' (by have := HBQ.out.size; simp; omega); clear hg')
            | go_in)
          go_roundw
          case rel => exact ⟨i + 1, [], acc ++ [xAt R i], ol, cl, by omega, by go_num, rfl, HLEN.out.1, HLEN.out.2, HCEL.out, HDL1.out, hown', hv', HTT.out, hb'⟩
          case measure => simp [intOf]; omega
        | cons y l =>
          have cy : wr.cell? ⟨bl, ol, none⟩ = some (.int .i64 (y : Int)) := by
            have c := hcel 0 y rfl
            exact (hbel.cell (p := ⟨bl, _, none⟩) (World.block_lt_of_cell? _ _ c)).trans c
          have hpos : (0 : Int) < ((y :: l).length : Int) := by rw [List.length_cons]; omega
          have HLS := HBF.out (xAt R i) y wr (HDR.out i h) (hdl y (by simp)) (HB0.out.trans (hbel.mono HB0.out.size))
          cases hb : bf (xAt R i) y with
          | true =>
            rw [hb] at HLS
            have HLS' : Hid (Calls Tryz.prog 47 #[rv, .int .i64 (xAt R i : Int), .int .i64 (y : Int)] wr fun e w' => e = .returned (.bool true) ∧ Below wr.heap.size wr w') := HLS
            have HTT : Hid (T = acc ++ [xAt R i] ++ mrg bf ((y :: l).length + (R.length - (i + 1))) (y :: l) (R.drop (i + 1))) := by show _ = _; rw [hTT, mrg_less h hb]; simp
            obtain ⟨LL, hLL⟩ : ∃ LL, y :: l = LL := ⟨_, rfl⟩
            rw [hLL] at HTT HLEN HCEL HDL1 hpos ⊢
            clear hTT hcel HLS hb hLL hdl
            go_wp2_with (first
              | (go_at_call 47; refine HLS'.out.mono ?_; rintro e w9 ⟨rfl, hb9⟩; have HO9 : Hid (w9.ownsRow w.heap.size 3 1 u7 acc.length (acc.map iv)) := own_below HOWN.out hb9; have HB9 : Hid (Below w.heap.size w w9) := HBQ.out.trans (hb9.mono HBQ.out.size); clear hb9)
              | (at_builtin; refine app_int _ rfl _ _ rfl w.heap.size _ acc rfl (HO9.out.alloc _) HVA.out ⟨_, 0, none⟩ 1 1 [xAt R i] rfl rfl (one_int _ _) (by omega) (by have := HB9.out.size; simp; omega) ?_; intro v' w' hown' hv' hg'; have hb' := below_grown (HB9.out.alloc HB9.out.size _) (HO9.out.alloc _) hg' (by have := HB9.out.size; simp; omega); clear hg')
              | go_in)
            go_roundw
            case rel => exact ⟨i + 1, LL, acc ++ [xAt R i], ol, cl, by omega, by go_num, rfl, HLEN.out.1, HLEN.out.2, HCEL.out, HDL1.out, hown', hv', HTT.out, hb'⟩
            case measure => simp [intOf]; omega
          | false =>
            rw [hb] at HLS
            have HLS' : Hid (Calls Tryz.prog 47 #[rv, .int .i64 (xAt R i : Int), .int .i64 (y : Int)] wr fun e w' => e = .returned (.bool false) ∧ Below wr.heap.size wr w') := HLS
            have HTT : Hid (T = acc ++ [y] ++ mrg bf (l.length + (R.length - i)) l (R.drop i)) := by show _ = _; rw [hTT, mrg_not h hb]; simp
            obtain ⟨o1, ho1⟩ : ∃ o1, (if cl = 1 then some (⟨bl, ol, none⟩ : Addr) else some ⟨bl, ol + 1, none⟩) = some ⟨bl, o1, none⟩ := by split <;> exact ⟨_, rfl⟩
            have HC1 : Hid (∀ j x, l[j]? = some x → w.cell? ⟨bl, o1 + j, none⟩ = some (iv x)) := fun j x hx => by
              have hlt := (List.getElem?_eq_some_iff.1 hx).1
              have hne : ¬ cl = 1 := by simp at hl1; omega
              rw [if_neg hne] at ho1
              have e : ol + 1 = o1 := by simpa using ho1
              have := hcel (j + 1) x (by simpa using hx)
              rw [← e, Nat.add_assoc, Nat.add_comm 1 j]
              exact this
            have HD1 : Hid (∀ z ∈ l, D z) := fun z hz => hdl z (by simp [hz])
            have hl1' : l.length + 1 ≤ cl := by simpa using hl1
            have hone : (1 : Int) ≤ (l.length : Int) + 1 := by omega
            have hlen1 : (y :: l).length = l.length + 1 := rfl
            rw [hlen1] at hpos ⊢
            clear hTT hcel HLS hb HCEL HLEN hdl HDL1
            go_wp2_with (first
              | (go_at_call 47; refine HLS'.out.mono ?_; rintro e w9 ⟨rfl, hb9⟩; have cy9 : w9.cell? ⟨bl, ol, none⟩ = some (.int .i64 (y : Int)) := (hb9.cell (p := ⟨bl, _, none⟩) (World.block_lt_of_cell? _ _ cy)).trans cy; have HO9 : Hid (w9.ownsRow w.heap.size 3 1 u7 acc.length (acc.map iv)) := own_below HOWN.out hb9; have HB9 : Hid (Below w.heap.size w w9) := HBQ.out.trans (hb9.mono HBQ.out.size); clear hb9)
              | (at_builtin; refine app_int _ rfl _ _ rfl w.heap.size _ acc rfl (HO9.out.alloc _) HVA.out ⟨_, 0, none⟩ 1 1 [y] rfl rfl (one_int _ _) (by omega) (by have := HB9.out.size; simp; omega) ?_; intro v' w' hown' hv' hg'; have hb' := below_grown (HB9.out.alloc HB9.out.size _) (HO9.out.alloc _) hg' (by have := HB9.out.size; simp; omega); clear hg')
              | go_in)
            go_roundw
            case rel => exact ⟨l, acc ++ [y], o1, cl - 1, by rfl, by omega, by omega, HC1.out, HD1.out, hown', hv', HTT.out, hb'⟩
            case measure => simp [slLen]
    · have h' : ¬ (i : Int) < (R.length : Int) := by omega
      obtain rfl : i = R.length := by omega
      have HTT : Hid (T = acc ++ Lr) := by show _ = _; rw [HTT0.out, List.drop_length, mrg_end]
      have HCR : Hid (∀ j u, (Lr.map iv)[j]? = some u → wr.cell? ((⟨bl, ol, none⟩ : Addr).add j) = some u) := row_news fun j x hx => (hbel.cell (p := ⟨bl, _, none⟩) (World.block_lt_of_cell? _ _ (HCEL0.out j x hx))).trans (HCEL0.out j x hx)
      have hsum : acc.length + Lr.length ≤ 5000 := by
        have := congrArg List.length HTT.out
        rw [List.length_append] at this
        omega
      go_wp2_with (first
        | (at_builtin; refine app_int _ rfl _ _ rfl w.heap.size _ acc rfl HOWN0.out HVA0.out ⟨bl, ol, none⟩ Lr.length cl Lr rfl rfl HCR.out (by omega) HBQ0.out.size ?_; intro v' w' hown' hv' hg'; have hb' := below_grown HBQ0.out HOWN0.out hg' HBQ0.out.size; clear hg')
        | go_in)
      go_ret
      exact ⟨_, rfl, by rw [HTT.out]; exact ⟨hown', hv'⟩, hb'⟩

end Go.Proofs.YtimcocmjmlejfaaGreatDoor.sv
