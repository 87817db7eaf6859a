import Derived.Test.YtlolkckbpcfnbaaDoorRA
import Derived.Test.YtlolkckbpcfnbaaDoorRE
import Derived.Sort.OwnSorted
namespace Go.Proofs.YtlolkckbpcfnbaaDoor.sv
open Go.ChangeShapes Go.WideShapes Go.ChangeAt Go.RowKit Go.Deep
set_option linter.unusedVariables false
set_option linter.unusedSimpArgs false

/-! ### Texts that came in are marked; texts that were answered are held -/

theorem grown_set {w w' : World} {b : Nat} (h : w.grownBy w' (some b)) (i : Nat) (x : Value) : w.grownBy (w'.setCell ⟨b, i, none⟩ x) (some b) :=
  ⟨h.os, h.tape, h.output, by simpa using h.size, fun k hk hne => by
    rw [← h.block k hk hne]
    simp only [World.setCell]
    rw [Array.getElem?_modify]
    split
    · next e => exact absurd (by simp [e]) hne
    · rfl⟩

theorem grown_below {w w' w'' : World} {b : Nat} (h : w.grownBy w' (some b)) (hb : Below w'.heap.size w' w'') : w.grownBy w'' (some b) :=
  ⟨hb.os.trans h.os, hb.tape.trans h.tape, hb.output.trans h.output, Nat.le_trans h.size hb.size, fun k hk hne => (hb.block k (Nat.lt_of_lt_of_le hk h.size)).trans (h.block k hk hne)⟩

theorem grown_refl (w : World) (r : Option Nat) : w.grownBy w r := ⟨rfl, rfl, rfl, Nat.le_refl _, fun _ _ _ => rfl⟩

set_option maxRecDepth 100000 in
set_option maxHeartbeats 1000000 in
theorem markX_any (bb off n c k0 : Nat) (w : World) (hM : sr.MkR w bb off n k0 0) (h0 : 0 < k0) (hn : k0 + n ≤ 9000000) :
    Calls Tryd.prog 13 #[.slice (some ⟨bb, off, none⟩) n c, .int .i64 (k0 : Int)] w fun e w' => e = .returned (.int .i64 ((k0 + n : Nat) : Int)) ∧ w.grownBy w' (some bb) := by
  go_enter Tryd.func13, Tryd.ntmps13
  go_wp2
  go_loopw [1, 5] (fun a x wr => ∃ (i : Nat), i ≤ n ∧ x = .int .i64 (i : Int) ∧ a = .int .i64 ((k0 + i : Nat) : Int) ∧ sr.MkR wr bb off n k0 i ∧ w.grownBy wr (some bb)) (fun _ x _ => n - (intOf x).toNat)
  case atStart => exact ⟨0, Nat.zero_le _, rfl, rfl, hM, grown_refl _ _⟩
  case round =>
    clear hM
    obtain ⟨i, hi, rfl, rfl, hM, hbel⟩ := hrel
    by_cases h : i < n
    · have h' : (i : Int) < (n : Int) := by omega
      have HMT : Hid (Calls Tryd.prog 23 #[.int .i64 ((k0 + i : Nat) : Int)] wr fun e w' => e = .returned (.string (sr.mark (k0 + i))) ∧ Below wr.heap.size wr w') := sr.mark_any (k0 + i) (by omega) (by omega) wr
      obtain ⟨s, hs⟩ : ∃ s, sr.mark (k0 + i) = s := ⟨_, rfl⟩
      obtain ⟨K, hK⟩ : ∃ K : Nat, k0 + i = K := ⟨_, rfl⟩
      rw [hs, hK] at HMT
      have HKK : Hid (k0 + i = K) := hK
      have HSS : Hid (sr.mark (k0 + i) = s) := hs
      have HMM : Hid (sr.MkR wr bb off n k0 i) := hM
      have HBB : Hid (w.grownBy wr (some bb)) := hbel
      rw [hK]
      have hKb : K ≤ 9000000 := by omega
      clear hs hK hM hbel
      go_wp2_with (go_at_call 23; refine HMT.out.mono ?_; rintro e w1 ⟨rfl, hb1⟩; obtain ⟨x, hx, hfx⟩ := (HMM.out.below hb1).cell i h)
      go_roundw
      case rel =>
        refine ⟨i + 1, by omega, by go_num, by rw [← Nat.add_assoc, HKK.out]; go_num, ?_, ?_⟩
        · have := (HMM.out.below hb1).step h
          rw [HSS.out] at this
          exact this
        · exact grown_set (grown_below HBB.out hb1) _ _
      case measure => simp [intOf]; omega
    · have h' : ¬ (i : Int) < (n : Int) := by omega
      obtain rfl : i = n := by omega
      go_wp2
      go_ret
      exact ⟨rfl, hbel⟩

def FMA (xs : List (List UInt8)) : List ByteArray := xs.map fun x => ⟨x.toArray⟩

theorem ssF {w : World} {v : Value} {xs : List (List UInt8)} (h : sr.StrR w v xs) : ∃ a c, v = .slice a xs.length c ∧ st.Ss w a xs.length (FMA xs) := by
  obtain ⟨bb, off, cap, rfl, _, _, hc⟩ := h
  refine ⟨_, cap, rfl, .inr ⟨bb, off, rfl, fun i hi => ?_⟩⟩
  rw [hc i _ (sr.xAt_some hi), sr.strL]
  congr 2
  simp [st.atS, FMA, sr.xAt, hi]

theorem own_marks {base : Nat} {w : World} {v : Value} {xs : List (List UInt8)} (h : sr.OwnS base w v xs) : ∃ g c, v = .slice (some ⟨g, 0, none⟩) xs.length c ∧ base ≤ g ∧ g < w.heap.size ∧ sr.MkR w g 0 xs.length 1 0 ∧ st.Ss w (some ⟨g, 0, none⟩) xs.length (FMA xs) := by
  have hrow := h.row
  obtain ⟨⟨hl, h1⟩, hv⟩ := h
  rcases h1 with ⟨e, _⟩ | ⟨g, cap, cur, rfl, hb, hg, hcs⟩
  · exact absurd e hv
  obtain ⟨a, c, e, hs⟩ := ssF hrow
  injection e with e1 e2 e3
  subst e1
  refine ⟨g, cap, rfl, hb, (Array.getElem?_eq_some_iff.1 hg).1, ⟨⟨cur, hg, ?_⟩, fun j hj => by omega⟩, hs⟩
  obtain ⟨k1, k2, k3, _⟩ := hcs
  omega

theorem mk_grown {w w' : World} {g off n k i b : Nat} (h : sr.MkR w g off n k i) (hg : w.grownBy w' (some b)) (hne : g ≠ b) : sr.MkR w' g off n k i := by
  obtain ⟨⟨cs, hc, hs⟩, hm⟩ := h
  have hlt := (Array.getElem?_eq_some_iff.1 hc).1
  have hb : w'.heap[g]? = w.heap[g]? := hg.block g hlt (fun e => hne (Option.some.inj e))
  exact ⟨⟨cs, hb.trans hc, hs⟩, fun j hj => (World.cell?_of_block (a := ⟨g, off + j, none⟩) hb).trans (hm j hj)⟩

theorem ss_grown {w w' : World} {g n b : Nat} {l : List ByteArray} (h : st.Ss w (some ⟨g, 0, none⟩) n l) (hlt : g < w.heap.size) (hg : w.grownBy w' (some b)) (hne : g ≠ b) : st.Ss w' (some ⟨g, 0, none⟩) n l := by
  have hb : w'.heap[g]? = w.heap[g]? := hg.block g hlt (fun e => hne (Option.some.inj e))
  rcases h with h | ⟨bb, off, e, hc⟩
  · exact .inl h
  · obtain ⟨rfl, rfl⟩ : g = bb ∧ 0 = off := by simpa using e
    exact .inr ⟨g, 0, rfl, fun i hi => (World.cell?_of_block (a := ⟨g, 0 + i, none⟩) hb).trans (hc i hi)⟩

theorem grow_below {B b : Nat} {w w1 w2 : World} (h : Below B w w1) (hg : w1.grownBy w2 (some b)) (hB : B ≤ w1.heap.size) (hb : B ≤ b) : Below B w w2 := h.grown hg hB (fun k hk => by cases hk; exact hb)

theorem row_mk {w w' : World} {b n : Nat} {f : Nat → Value} (h : w.rowIs b 9 n f) (hb : Below w.heap.size w w') : sr.MkR w' b 0 n 1 0 := by
  obtain ⟨cs, hc, hs⟩ : ∃ cs, w.heap[b]? = some (.cells cs 9 (0, 0)) ∧ n ≤ cs.size := by
    obtain ⟨cs, hc, hs⟩ := h
    exact ⟨cs, hc, by omega⟩
  exact ⟨⟨cs, (hb.block b (Array.getElem?_eq_some_iff.1 hc).1).trans hc, by omega⟩, fun j hj => by omega⟩

end Go.Proofs.YtlolkckbpcfnbaaDoor.sv
