import Derived.Test.YtlolkckbpcfnbaaDoorRFB
import Derived.Test.YtlolkckbpcfnbaaDoorRT
import Derived.Test.YtlolkckbpcfnbaaDoorTL
import Derived.Maps.Own
import Derived.Maps.OwnOps
import Derived.Maps.OwnSet
import Derived.Handy
import Derived.RangeFuncCalls
import Derived.RangeFuncLeaves
import Derived.Shelf.Abstract
import Derived.Shelf.RegionOpen
import Derived.WalkKit
import Derived.OwnWalkIn
import Derived.TacticsInMore
import Derived.LoopNIn
import Derived.LoopIn
namespace Go.Proofs.YtlolkckbpcfnbaaDoor.rf
open Go.RowKit Go.Shelf Go.Proofs.YtlolkckbpcfnbaaDoor.rt Go.Maps
attribute [local go_sem] Oper.semAt_some
set_option linter.unusedVariables false
set_option linter.unusedSimpArgs false

/-! ### References: the program's words -/

/-- The words in these bytes. -/
def pcs (d : ByteArray) : List ByteArray := (List.range (d.size - 12)).map fun i => d.extract i (i + 13)
def PW (E : Nat → tt.En) : Nat → List ByteArray
  | 0 => []
  | k + 1 => PW E k ++ pcs (E k).data

theorem pcs_len (d : ByteArray) : (pcs d).length = d.size - 12 := by simp [pcs]
theorem pcs_take {d : ByteArray} {m : Nat} (h : m < d.size - 12) : (pcs d).take (m + 1) = (pcs d).take m ++ [d.extract m (m + 13)] := by
  unfold pcs
  rw [List.take_add_one]
  simp [h]
theorem PW_split {E : Nat → tt.En} {i : Nat} : ∀ {N : Nat}, i < N → ∃ R, PW E N = PW E i ++ (pcs (E i).data ++ R)
  | N + 1, h => by
    rcases Nat.lt_or_ge i N with h' | h'
    · obtain ⟨R, hR⟩ := PW_split (E := E) h'
      exact ⟨R ++ pcs (E N).data, by rw [PW, hR]; simp⟩
    · obtain rfl : i = N := by omega
      exact ⟨[], by simp [PW]⟩

theorem mem_pcs {d x : ByteArray} : x ∈ pcs d ↔ ∃ i, i + 13 ≤ d.size ∧ x = d.extract i (i + 13) := by
  unfold pcs
  simp only [List.mem_map, List.mem_range]
  constructor
  · rintro ⟨i, hi, rfl⟩
    exact ⟨i, by omega, rfl⟩
  · rintro ⟨i, hi, rfl⟩
    exact ⟨i, by omega, rfl⟩
theorem mem_PW {E : Nat → tt.En} {x : ByteArray} : ∀ {N : Nat}, x ∈ PW E N ↔ ∃ k, k < N ∧ x ∈ pcs (E k).data
  | 0 => by simp [PW]
  | N + 1 => by
    rw [PW, List.mem_append, mem_PW]
    constructor
    · rintro (⟨k, hk, h⟩ | h)
      · exact ⟨k, by omega, h⟩
      · exact ⟨N, by omega, h⟩
    · rintro ⟨k, hk, h⟩
      rcases Nat.lt_or_ge k N with h' | h'
      · exact .inl ⟨k, h', h⟩
      · obtain rfl : k = N := by omega
        exact .inr h

/-- Where a word stands, it is one of the pieces. -/
theorem inE_PW {E : Nat → tt.En} {N : Nat} {p : List UInt8} (hp : p.length = 13) : InE E N p ↔ ∃ x ∈ PW E N, x.data.toList = p := by
  constructor
  · rintro ⟨k, hk, i, hi, e⟩
    rw [hp] at hi e
    refine ⟨(E k).data.extract i (i + 13), mem_PW.2 ⟨k, hk, mem_pcs.2 ⟨i, by simpa using hi, rfl⟩⟩, by rw [ext_at]; exact e⟩
  · rintro ⟨x, hx, e⟩
    obtain ⟨k, hk, h⟩ := mem_PW.1 hx
    obtain ⟨i, hi, rfl⟩ := mem_pcs.1 h
    rw [ext_at] at e
    exact ⟨k, hk, i, by rw [hp]; simpa using hi, by rw [hp]; exact e⟩

/-- Cells stay as they are. -/
def KC (W W' : World) : Prop := W.heap.size ≤ W'.heap.size ∧ ∀ (j : Nat) cs t f, W.heap[j]? = some (.cells cs t f) → W'.heap[j]? = some (.cells cs t f)

theorem KC.cell {W W' : World} {b o : Nat} {v : Value} (h : KC W W') (hc : W.cell? ⟨b, o, none⟩ = some v) : W'.cell? ⟨b, o, none⟩ = some v := by
  obtain ⟨cs, t, f, hb⟩ : ∃ cs t f, W.heap[b]? = some (.cells cs t f) := by
    unfold World.cell? at hc
    simp only at hc
    split at hc
    · next cs t f e => exact ⟨_, _, _, e⟩
    all_goals simp at hc
  exact (World.cell?_of_block (a := ⟨b, o, none⟩) ((h.2 b cs t f hb).trans hb.symm)).trans hc
theorem KC.trans {A B C : World} (h : KC A B) (k : KC B C) : KC A C := ⟨Nat.le_trans h.1 k.1, fun j cs t f e => k.2 j cs t f (h.2 j cs t f e)⟩
theorem KC.en {W W' : World} {b o n : Nat} {E : Nat → tt.En} (h : KC W W') (hE : tt.EnR W b o n E) : tt.EnR W' b o n E := fun i hi => by
  obtain ⟨h0, h1, h2, h3⟩ := hE i hi
  exact ⟨h.cell h0, h.cell h1, h.cell h2, h.cell h3⟩

set_option maxRecDepth 100000 in
set_option maxHeartbeats 2000000 in
theorem words_hands (n tb : Nat) (E : Nat → tt.En) (b o N cap : Nat) (w : World) (hn : 1 ≤ n) (ht : w.cell? ⟨tb, 0, none⟩ = some (.slice (some ⟨b, o, none⟩) N cap)) (hE : tt.EnR w b o N E) (hS : tt.SmE N E) (hN : N ≤ 1048576) :
    Hands n Tryd.prog 54 #[.pointer (some ⟨tb, 0, none⟩)] KC (fun _ => False) (PW E N) w := by
  intro l J Jx W hW hJ hJx hY h0
  have hc0 : W.cell? ⟨tb, 0, none⟩ = some (.slice (some ⟨b, o, none⟩) N cap) := (hW.cell (p := ⟨tb, 0, none⟩) (World.block_lt_of_cell? _ _ ht)).trans ht
  have hE0 := hE.below hW
  have HS : Hid (tt.SmE N E) := hS
  clear hS
  refine callsIn_of_wp Tryd.func54 rfl trivial ?_ rfl
  simp only [Tryd.ntmps54, List.size_toArray, List.length_cons, List.length_nil, Nat.reduceAdd, Nat.reduceSub, Array.replicate_succ, Array.replicate_zero, List.push_toArray, List.append_toArray, List.nil_append, List.cons_append]
  gi_wp2
  gi_loopw [8] (fun y wr => ∃ i : Nat, i ≤ N ∧ y = .int .i64 (i : Int) ∧ tt.EnR wr b o N E ∧ J (PW E i) wr) (fun y _ => N - (intOf y).toNat)
  case atStart => exact ⟨0, Nat.zero_le _, rfl, hE0, h0⟩
  case round =>
    obtain ⟨i, hi, rfl, hEw, hJw⟩ := hrel
    have HEW : Hid (tt.EnR wr b o N E) := hEw
    have HJW : Hid (J (PW E i) wr) := hJw
    clear hJw
    by_cases hil : i < N
    · have hil' : (i : Int) < (N : Int) := by omega
      have hi0 : (0 : Int) ≤ (i : Int) := by omega
      obtain ⟨e0, e1, e2, e3⟩ := hEw i hil
      have hds := (HS.out i hil).2
      obtain ⟨R, hR⟩ := PW_split (E := E) hil
      have HPW : Hid (PW E N = PW E i ++ (pcs (E i).data ++ R)) := hR
      have HPX : Hid (PW E (i + 1) = PW E i ++ pcs (E i).data) := rfl
      obtain ⟨d, hd⟩ : ∃ d, (E i).data = d := ⟨_, rfl⟩
      obtain ⟨d0, hd0⟩ : ∃ d, (E i).path = d := ⟨_, rfl⟩
      obtain ⟨d1, hd1⟩ : ∃ d, (E i).kind = d := ⟨_, rfl⟩
      obtain ⟨d3, hd3⟩ : ∃ d, (E i).exec = d := ⟨_, rfl⟩
      rw [hd] at e2 hds HPW HPX
      rw [hd0] at e0
      rw [hd1] at e1
      rw [hd3] at e3
      clear hR hd hd0 hd1 hd3 hEw
      obtain ⟨wo, rfl⟩ : ∃ wo, wo = wr := ⟨_, rfl⟩
      gi_wp2
      gi_loopw [5] (fun y wr => ∃ m : Nat, m ≤ d.size - 12 ∧ y = .int .i64 ((m + 13 : Nat) : Int) ∧ tt.EnR wr b o N E ∧ wr.cell? ⟨wo.heap.size, 2, none⟩ = some (.string d) ∧ J (PW E i ++ (pcs d).take m) wr) (fun y _ => d.size + 14 - (intOf y).toNat)
      case atStart =>
        refine ⟨0, Nat.zero_le _, rfl, HEW.out.below ((Below.refl _ _).alloc (Nat.le_refl _) _), by simp [go_sem], ?_⟩
        rw [List.take_zero, List.append_nil]
        exact hJ _ _ _ none HJW.out (World.grownBy_alloc _ _ _) (fun r e => by cases e)
      case round =>
        obtain ⟨m, hm, rfl, hEr, hbx, hJr⟩ := hrel
        have HER : Hid (tt.EnR wr b o N E) := hEr
        clear hEr
        by_cases hml : m < d.size - 12
        · have hml' : (m : Int) + 13 ≤ (d.size : Int) := by omega
          have hm0 : (0 : Int) ≤ (m : Int) := by omega
          have hm1 : (m : Int) ≤ (m : Int) + 13 := by omega
          have hw1 : IntKind.i64.wrap (m : Int) = (m : Int) := by rw [IntKind.wrap_i64]; omega
          have HTK : Hid ((pcs d).take (m + 1) = (pcs d).take m ++ [d.extract m (m + 13)]) := pcs_take hml
          obtain ⟨fn, tmps, assign, body, hy, hR⟩ := hY (PW E i ++ (pcs d).take m) (d.extract m (m + 13)) wr hJr ⟨(pcs d).drop (m + 1) ++ R, by rw [HPW.out, List.append_assoc (PW E i), ← HTK.out, List.append_assoc, ← List.append_assoc ((pcs d).take (m + 1)), List.take_append_drop]⟩
          gi_wp2
          refine hR.mono ?_
          rintro e W3 (⟨rfl, hJ3, hk3⟩ | ⟨rfl, hJx3⟩)
          · have hE3 := hk3.en HER.out
            have hb3 := hk3.cell hbx
            gi_wp2
            go_roundw
            case rel => exact ⟨m + 1, by omega, by go_num, hE3, hb3, by rw [HTK.out, ← List.append_assoc]; exact hJ3⟩
            case measure => simp [intOf]; omega
          · gi_wp2
            refine bodyPost_ret (results_none rfl _ _ _) rfl ?_
            exact ⟨⟨_, rfl⟩, .inr ⟨_, ⟨(pcs d).drop (m + 1) ++ R, by rw [HPW.out, List.append_assoc (PW E i), ← HTK.out, List.append_assoc, ← List.append_assoc ((pcs d).take (m + 1)), List.take_append_drop]⟩, hJx3⟩⟩
        · have hml' : ¬ (m : Int) + 13 ≤ (d.size : Int) := by omega
          have HJN : Hid (J (PW E (i + 1)) wr) := by
            have h := hJr
            rw [List.take_of_length_le (by rw [pcs_len]; omega), ← HPX.out] at h
            exact h
          clear hJr
          gi_wp2
          go_roundw
          case rel => exact ⟨i + 1, by omega, by go_num, HER.out, HJN.out⟩
          case measure => simp [intOf]; omega
    · have hil' : ¬ (i : Int) < (N : Int) := by omega
      obtain rfl : i = N := by omega
      gi_wp2
      go_end0
      exact ⟨⟨_, rfl⟩, .inl HJW.out⟩

end Go.Proofs.YtlolkckbpcfnbaaDoor.rf
