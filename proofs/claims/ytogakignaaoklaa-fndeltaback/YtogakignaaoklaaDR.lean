import Derived.Test.YtogakignaaoklaaDQ
import Derived.Laws.CopyOwn
import Derived.Laws.OwnMore
import Derived.Laws.Tables
namespace Go.Proofs.Ytogakignaaoklaa.dl
open Go.ChangeShapes Go.WideShapes Go.ChangeAt Go.RowKit Go.Deep
open bf (Bf Ap num)
set_option linter.unusedVariables false
set_option linter.unusedSimpArgs false

/-! ### impl.ApplyDelta -/

theorem pc_pos {old : List UInt8} {x : Sp} (ho : okS x = true) (hf : fits old x = true) : 1 ≤ (pc old x).length := by
  unfold fits at hf
  unfold pc
  by_cases hk : x.k = 1
  · rw [if_pos hk, decide_eq_true_iff] at hf
    obtain ⟨h0, h1, _⟩ := ok3_one.1 (by have := ho; unfold okS at this; rwa [hk] at this)
    rw [if_pos hk, List.length_take, List.length_drop]
    omega
  · rw [if_neg hk]
    exact ((ok3_two hk).1 ho).2.2.2

theorem copy_run {w : World} (ty : TypeId) (g off rl rc : Nat) (cur : List Value) (hg : w.heap[g]? = some (.cells cur.toArray 5 (0, 0))) (ad : Addr) (m c : Nat) (l : List UInt8) (hl : l.length = m) (hm : m ≤ rl) (hfit : off + m ≤ cur.length)
    (hsrc : ∀ j u, (bf.byteVals l)[j]? = some u → w.cell? (ad.add j) = some u) :
    ∃ w', (Builtin.copy_ #[22, 22] ty #[.slice (some ⟨g, off, none⟩) rl rc, .slice (some ad) m c]).run Try.prog w = .ok (.int .i64 (m : Int)) w' ∧ w'.heap[g]? = some (.cells (cur.take off ++ bf.byteVals l ++ cur.drop (off + m)).toArray 5 (0, 0)) ∧ ∀ B w0, Below B w0 w → B ≤ g → Below B w0 w' := by
  have hlen : (bf.byteVals l).length = m := by rw [bf.byteVals_length, hl]
  have h := run_copy_row (P := Try.prog) w 22 22 ty 5 g off rl rc ad m c cur.toArray 5 (bf.byteVals l) Try.underlying22 (by kernel_rfl) hg (by rw [hlen]; exact (Nat.min_eq_left hm).symm) hsrc (by rw [hlen]; simpa using hfit) (bf.byteVals_one l)
  rw [hlen] at h
  refine ⟨_, h, ?_, fun B w0 hb hB => below_setRow hb hB _⟩
  exact setRow_heap w g _ _ 5 _ hg

set_option maxHeartbeats 4000000 in
set_option maxRecDepth 100000 in
theorem iad_any {oc : Nat} (ob b o c : Nat) (old : List UInt8) (ss : List Sp) (w : World) (hold : By w ob old) (hob : ob < w.heap.size) (hb : Rd w b o ss) (hw : wt ss ≤ 1048576) (hI : ∀ x ∈ ss, I64 x.p ∧ I64 x.n) (on : Nat) (hon : old.length = on) (hon2 : on ≤ 1048576) (hoc : on ≤ oc) :
    Calls Try.prog 7 #[.slice (some ⟨ob, 0, none⟩) on oc, .slice (some ⟨b, o, none⟩) ss.length c] w fun e w' => Ans w w' (adB old ss) (adOk old ss) e ∧ Below w.heap.size w w' := by
  have hn : ss.length ≤ 1048576 := Nat.le_trans (wt_len ss) hw
  have HP : Hid (Calls Try.prog 19 #[.slice (some ⟨ob, 0, none⟩) on oc, .slice (some ⟨b, o, none⟩) ss.length c] w fun e w' => PcR w w' old ss e ∧ Below w.heap.size w w') := pieces_any ob b o c old ss w hold hob hb hw hI on hon hon2 hoc
  clear hold hb hw hI hon
  cases hok : adOk old ss with
  | false =>
    have HP2 : Hid (Calls Try.prog 19 #[.slice (some ⟨ob, 0, none⟩) on oc, .slice (some ⟨b, o, none⟩) ss.length c] w fun e w' => e = .returned (.tuple #[.slice none 0 0, .int .i64 0, .bool false]) ∧ Below w.heap.size w w') := HP.out.mono fun e w' ⟨h1, h2⟩ => ⟨(by
      rcases h1 with h | ⟨h, _⟩
      · exact h.2
      · rw [hok] at h; cases h), h2⟩
    have HE : Hid (adOk old ss = false) := hok
    have HAN : Hid (∀ W : World, Below w.heap.size w W → ∀ g, w.heap.size ≤ g → g < W.heap.size → Ans w W (adB old ss) false (.returned (.tuple #[.slice (some ⟨g, 0, none⟩) 0 0, .bool false]))) := fun W hW g h1 h2 => by
      have := ans_no (old := old) (ss := ss) hok hW h1 h2
      rwa [hok] at this
    clear hok HP
    go_enter Try.func7, Try.ntmps7
    go_wp2_with (go_at_call 19; refine HP2.out.mono ?_; rintro e w1 ⟨rfl, hl1⟩)
    go_ret2
    exact ⟨HAN.out _ (hl1.alloc hl1.size _) _ hl1.size (by rw [World.size_alloc]; omega), hl1.alloc hl1.size _⟩
  | true =>
    have HMX : Hid ((pcL old ss ss.length).length ≤ 1000000) := (adOk_iff.1 hok).2.2
    have HAB : Hid (adB old ss = pcL old ss ss.length) := adB_yes hok
    have HPP : Hid (∀ x ∈ ss, 1 ≤ (pc old x).length) := fun x hx => pc_pos ((adOk_iff.1 hok).2.1 x hx).1 ((adOk_iff.1 hok).2.1 x hx).2
    obtain ⟨N, hN⟩ : ∃ N, (pcL old ss ss.length).length = N := ⟨_, rfl⟩
    have HNN : Hid ((pcL old ss ss.length).length = N) := hN
    have hNb : N ≤ 1000000 := by have := HMX.out; omega
    have HP2 : Hid (Calls Try.prog 19 #[.slice (some ⟨ob, 0, none⟩) on oc, .slice (some ⟨b, o, none⟩) ss.length c] w fun e w' => (∃ va vc vs, e = .returned (.tuple #[.slice va ss.length vc, .int .i64 (N : Int), .bool true]) ∧ w'.ownsRow w.heap.size 22 1 (.slice va ss.length vc) ss.length vs ∧ PVs w old ss vs ss.length) ∧ Below w.heap.size w w') := HP.out.mono fun e w' ⟨h1, h2⟩ => ⟨(by
      rcases h1 with ⟨h, _⟩ | ⟨_, v, vs, rfl, ho, hp⟩
      · rw [hok] at h; cases h
      · obtain ⟨va, vc, rfl⟩ := own_shape ho
        rw [hN]
        exact ⟨va, vc, vs, rfl, ho, hp⟩), h2⟩
    have hmk := run_make_row' (P := Try.prog) 22 5 (.int .u8 0) 1 Try.underlying22 sm.info5 rfl .i64 .i64 N (by omega) (by omega)
    clear hok HP hN
    go_enter Try.func7, Try.ntmps7
    go_wp2_with (go_at_call 19; refine HP2.out.mono ?_; rintro e w1 ⟨⟨va, vc, vs, rfl, hown, hpv⟩, hl1⟩)
    obtain ⟨cur0, hc0, hcl0, _⟩ := World.rowIs_made w1 (.int .u8 0) N 5
    have HO1 : Hid (w1.ownsRow w.heap.size 22 1 (.slice va ss.length vc) ss.length vs) := hown
    have HPV : Hid (PVs w old ss vs ss.length) := hpv
    have HL1 : Hid (Below w.heap.size w w1) := hl1
    have HB0 : Hid (Below w1.heap.size w1 (w1.alloc (.cells (madeCells #[.int .u8 0] N) 5))) := (Below.refl _ _).alloc (Nat.le_refl _) _
    have HC0 : Hid (∃ cur : List Value, (w1.alloc (.cells (madeCells #[.int .u8 0] N) 5)).heap[w1.heap.size]? = some (.cells cur.toArray 5 (0, 0)) ∧ cur.length = N) := ⟨cur0.toList, by simpa using hc0, by simpa using hcl0⟩
    clear hmk hown hpv hl1 hc0 hcl0
    go_loopw [10, 12, 28] (fun r _ x wr => ∃ (i ra off rl : Nat) (cur : List Value), i ≤ ss.length ∧ x = .int .i64 (i : Int) ∧ r = .slice (some ⟨w1.heap.size, ra, none⟩) rl rl ∧ (rl ≠ 0 → ra = off) ∧ off + rl = N ∧ off = (pcL old ss i).length ∧ wr.heap[w1.heap.size]? = some (.cells cur.toArray 5 (0, 0)) ∧ cur.length = N ∧ cur.take off = bf.byteVals (pcL old ss i) ∧ Below w1.heap.size w1 wr) (fun _ _ x _ => ss.length - (intOf x).toNat)
    case atStart =>
      obtain ⟨cur, h1, h2⟩ := HC0.out
      exact ⟨0, 0, 0, N, cur, Nat.zero_le _, rfl, rfl, fun _ => rfl, by omega, rfl, h1, h2, by rw [List.take_zero]; rfl, HB0.out⟩
    case round =>
      clear HC0 HB0
      obtain ⟨i, ra, off, rl, cur, hi, rfl, rfl, hra, hor, hoff, hg, hcl, htk, hbel⟩ := hrel
      have HRA : Hid (rl ≠ 0 → ra = off) := hra
      have HOR : Hid (off + rl = N) := hor
      have HOF : Hid (off = (pcL old ss i).length) := hoff
      have HG : Hid (wr.heap[w1.heap.size]? = some (.cells cur.toArray 5 (0, 0))) := hg
      have HCL : Hid (cur.length = N) := hcl
      have HTK : Hid (cur.take off = bf.byteVals (pcL old ss i)) := htk
      have HBE : Hid (Below w1.heap.size w1 wr) := hbel
      have hrl : rl ≤ 1000000 := by omega
      have hofl : off ≤ 1000000 := by omega
      clear hor hoff hg hcl htk hra
      by_cases hil : i < ss.length
      · have hil' : (i : Int) < (ss.length : Int) := by omega
        have hi0 : (0 : Int) ≤ (i : Int) := by omega
        obtain ⟨x, hx⟩ : ∃ x, ss[i]? = some x := ⟨_, List.getElem?_eq_getElem hil⟩
        obtain ⟨pvv, hpi, pb, po, pcap, rfl, hpb, hpc⟩ := HPV.out.2 i x hil hx
        have HNX : Hid (pcL old ss (i + 1) = pcL old ss i ++ pc old x) := pcL_succ hx
        obtain ⟨G, rfl⟩ : ∃ G, va = some ⟨G, 0, none⟩ := by
          rcases HO1.out.2 with ⟨_, h⟩ | ⟨G, cap, cu, h, _⟩
          · omega
          · simp only [Value.slice.injEq] at h
            exact ⟨G, h.1⟩
        have hGlt : G < w1.heap.size := (HO1.out.lt G rfl).2
        have e0 : w1.cell? ⟨G, i, none⟩ = some (.slice (some ⟨pb, po, none⟩) (pc old x).length pcap) := by
          rw [HO1.out.cellAt i (by omega)]
          exact hpi
        have y0 : wr.cell? ⟨G, i, none⟩ = some (.slice (some ⟨pb, po, none⟩) (pc old x).length pcap) := (hbel.cell (p := ⟨G, i, none⟩) hGlt).trans e0
        have hle : off + (pc old x).length ≤ N := by
          have h1 := pcL_mono old ss (j := i + 1) (ss.length - (i + 1))
          rw [show i + 1 + (ss.length - (i + 1)) = ss.length by omega, HNX.out, List.length_append, ← HOF.out, HNN.out] at h1
          exact h1
        obtain ⟨P, hP⟩ : ∃ P, pc old x = P := ⟨_, rfl⟩
        have hpp := HPP.out x (List.mem_of_getElem? hx)
        rw [hP] at HNX hpc y0 hle hpp
        obtain rfl : ra = off := HRA.out (by have := HOR.out; omega)
        obtain ⟨m, hm⟩ : ∃ m, P.length = m := ⟨_, rfl⟩
        have HM : Hid (P.length = m) := hm
        have hsrc : ∀ j u, (bf.byteVals P)[j]? = some u → wr.cell? ((⟨pb, po, none⟩ : Addr).add j) = some u := fun j u hj => by
          obtain ⟨hj', rfl⟩ := bf.byteVals_get hj
          rw [addr_add]
          exact (hbel.cell (p := ⟨pb, po + j, none⟩) (Nat.lt_of_lt_of_le hpb HL1.out.size)).trans ((HL1.out.cell (p := ⟨pb, po + j, none⟩) hpb).trans (hpc j hj'))
        rw [hm] at y0 hle
        obtain ⟨w2, hr2, hg2, hb2⟩ := copy_run 3 w1.heap.size ra rl rl cur HG.out ⟨pb, po, none⟩ m pcap P hm (by have := HOR.out; omega) (by rw [HCL.out]; exact hle) hsrc
        have HG2 : Hid (w2.heap[w1.heap.size]? = some (.cells (cur.take ra ++ bf.byteVals P ++ cur.drop (ra + m)).toArray 5 (0, 0))) := hg2
        have HB2 : Hid (Below w1.heap.size w1 w2) := hb2 _ _ HBE.out (Nat.le_refl _)
        have hmr : (m : Int) ≤ (rl : Int) := by have := HOR.out; omega
        have hm0 : (0 : Int) ≤ (m : Int) := by omega
        have HFIN : Hid ((cur.take ra ++ bf.byteVals P ++ cur.drop (ra + m)).length = N ∧ (cur.take ra ++ bf.byteVals P ++ cur.drop (ra + m)).take (ra + m) = bf.byteVals (pcL old ss (i + 1)) ∧ ra + m = (pcL old ss (i + 1)).length) := by
          have hc := HCL.out
          have ht : (cur.take ra).length = ra := by rw [List.length_take]; omega
          have hb' : (bf.byteVals P).length = m := by rw [bf.byteVals_length, hm]
          refine ⟨?_, ?_, ?_⟩
          · rw [List.length_append, List.length_append, ht, hb', List.length_drop]; omega
          · rw [List.take_append_of_le_length (by rw [List.length_append, ht, hb']; exact Nat.le_refl _), List.take_of_length_le (by rw [List.length_append, ht, hb']; exact Nat.le_refl _), HTK.out, HNX.out]
            unfold bf.byteVals
            rw [List.map_append]
          · rw [HNX.out, List.length_append, HOF.out, HM.out]
        clear hg2 hb2 hpc hsrc hpi hx hP hm e0 hbel
        go_wp2
        go_roundw
        case rel =>
          obtain ⟨f1, f2, f3⟩ := HFIN.out
          have h9 := HOR.out
          by_cases hrm : rl = m
          · exact ⟨i + 1, ra, ra + m, rl - m, _, by omega, by go_num, by rw [if_pos hrm], fun h => absurd (by omega) h, by omega, f3, HG2.out, f1, f2, HB2.out⟩
          · exact ⟨i + 1, ra + m, ra + m, rl - m, _, by omega, by go_num, by rw [if_neg hrm], fun _ => rfl, by omega, f3, HG2.out, f1, f2, HB2.out⟩
        case measure => simp [intOf] <;> omega
      · have hil' : ¬ (i : Int) < (ss.length : Int) := by omega
        obtain rfl : i = ss.length := by omega
        have HF : Hid (Bf w.heap.size wr w1.heap.size N (pcL old ss ss.length)) := by
          have hc := HCL.out
          have ho : off = N := by rw [HOF.out, HNN.out]
          have ht := HTK.out
          rw [List.take_of_length_le (by omega)] at ht
          have hcell : ∀ j, wr.cell? ⟨w1.heap.size, j, none⟩ = cur[j]? := fun j => by
            unfold World.cell?
            simp only [HG.out]
            simp
          refine ⟨HL1.out.size, Nat.lt_of_not_le (fun h => by have := HG.out; rw [Array.getElem?_eq_none h] at this; cases this), fun j hj => ?_, fun j hj => ⟨?_, ?_⟩, by rw [HNN.out]; exact Nat.le_refl _, by unfold maxLen; omega⟩
          · rw [hcell, ht, bf.byteVals_at hj]
          · rw [hcell, List.getElem?_eq_getElem (by omega)]; rfl
          · unfold World.frozen?
            simp only [HG.out]
            simp
        clear hbel
        go_wp2
        go_ret2
        exact ⟨⟨_, _, _, rfl, by rw [HAB.out]; exact ⟨HNN.out.symm, HF.out⟩⟩, HL1.out.trans (HBE.out.mono HL1.out.size)⟩

end Go.Proofs.Ytogakignaaoklaa.dl
