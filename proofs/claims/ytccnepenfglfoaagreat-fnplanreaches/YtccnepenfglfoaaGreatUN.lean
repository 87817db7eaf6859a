import Derived.Test.YtccnepenfglfoaaGreatNA
import Derived.Test.YtccnepenfglfoaaGreatYA
import Derived.Deep.QuietTactic
import Derived.BigQuiet
import Derived.Deep.RegionHeld3
import Derived.Maps.AppendAt
import Derived.Handy
import Derived.Lib.Hide
namespace Go.Proofs.YtccnepenfglfoaaGreat.un
open Go.ChangeShapes Go.WideShapes Go.ChangeAt Go.RowKit Go.Deep Go.Maps
set_option linter.unusedVariables false
set_option linter.unusedSimpArgs false

/-! ### Units: the plain model; lists of names, ascending lists, of both sides -/

def atB (l : List ByteArray) (i : Nat) : ByteArray := l[i]?.getD ByteArray.empty
theorem atB_some {l : List ByteArray} {i : Nat} {x : ByteArray} (h : l[i]? = some x) : atB l i = x := by unfold atB; rw [h]; rfl
def ltB (l : List ByteArray) (i : Nat) : Bool := decide (i = 0) || Op.bytesLess (atB l (i - 1)).toList (atB l i).toList
def ascN (l : List ByteArray) (n : Nat) : Bool := (List.range n).all fun i => ltB l i
/-- Ascending texts. -/
def asB (l : List ByteArray) : Bool := ascN l l.length
theorem ascN_succ {l : List ByteArray} {k : Nat} (h : ascN l k = true) (hk : ltB l k = true) : ascN l (k + 1) = true := by
  unfold ascN at h ⊢
  rw [List.range_succ, List.all_append, h]
  simpa using hk
theorem ascN_no {l : List ByteArray} {k n : Nat} (hn : k < n) (hk : ltB l k = false) : ascN l n = false := by
  unfold ascN
  rw [List.all_eq_false]
  exact ⟨k, List.mem_range.2 hn, by rw [hk]; decide⟩
theorem ltB_succ {l : List ByteArray} {K : Nat} {x y : ByteArray} (hx : l[K + 1]? = some x) (hy : l[K]? = some y) : ltB l (K + 1) = Op.bytesLess y.toList x.toList := by
  unfold ltB
  rw [Nat.add_sub_cancel, atB_some hx, atB_some hy]
  simp

def nB (l : List ByteArray) : Bool := l.all nm.nameB

/-- A unit as it should be. -/
def unB (u : ty.Un) : Bool := nm.nameB u.fName && (asB u.fAfter && (decide (u.fAfter.length ≤ 20) && (nB u.fAfter && (asB u.fNeeds && (decide (u.fNeeds.length ≤ 20) && (nB u.fNeeds && decide (u.fExec.size ≤ 4000)))))))
def usB (us : List ty.Un) : Bool := decide (us.length ≤ 100) && (asB (us.map fun u => u.fName) && us.all unB)

theorem all_bad {α : Type} {f : α → Bool} {l : List α} {i : Nat} {x : α} (hx : l[i]? = some x) (h : f x = false) : l.all f = false := by
  cases e : l.all f with
  | false => rfl
  | true => rw [List.all_eq_true.1 e x (List.mem_of_getElem? hx)] at h; cases h
theorem all_step {α : Type} {f : α → Bool} {l : List α} {i : Nat} {x : α} (hx : l[i]? = some x) (h : ∀ y ∈ l.take i, f y = true) (hn : f x = true) : ∀ y ∈ l.take (i + 1), f y = true := by
  intro y hy
  rw [List.take_add_one, hx] at hy
  rcases List.mem_append.1 hy with hy | hy
  · exact h y hy
  · have : y = x := by simpa using hy
    rw [this]; exact hn
theorem all_end {α : Type} {f : α → Bool} {l : List α} (h : ∀ y ∈ l.take l.length, f y = true) : l.all f = true := by
  rw [List.take_length] at h
  exact List.all_eq_true.2 h

set_option maxRecDepth 100000 in
set_option maxHeartbeats 1000000 in
theorem sasc_any (a : Option Addr) (c : Nat) (l : List ByteArray) (w : World) (hb : ty.SrcS none w a l) (hn : l.length ≤ 1048576) :
    Calls Tryz.prog 27 #[.slice a l.length c] w fun e w' => e = .returned (.bool (asB l && decide (l.length ≤ 20))) ∧ ∃ q, w' = w.drewN q := by
  have HB : Hid (ty.SrcS none w a l) := hb
  clear hb
  go_enter Tryz.func27, Tryz.ntmps27
  go_wp2
  go_loopw [3] (fun v wr => ∃ i : Nat, v = .int .i64 ((i + 1 : Nat) : Int) ∧ (i < l.length ∨ i = 0) ∧ ascN l (i + 1) = true ∧ ∃ q, wr = w.drewN q) (fun v _ => l.length + 1 - (intOf v).toNat)
  case atStart => exact ⟨0, rfl, .inr rfl, by simp [ascN, ltB], 0, rfl⟩
  case round =>
    obtain ⟨K, rfl, hK, hA, q, rfl⟩ := hrel
    have HAS : Hid (ascN l (K + 1) = true) := hA
    clear hA
    by_cases hil : K + 1 < l.length
    · have hil' : (K : Int) + 1 < (l.length : Int) := by omega
      obtain ⟨x, hx⟩ : ∃ x, l[K + 1]? = some x := ⟨_, List.getElem?_eq_getElem hil⟩
      obtain ⟨y, hy⟩ : ∃ y, l[K]? = some y := ⟨_, List.getElem?_eq_getElem (by omega)⟩
      rcases HB.out with ⟨_, h⟩ | ⟨b, o, rfl, _, hc⟩
      · rw [h] at hil; simp at hil
      have k0 := hc (K + 1) x hx
      have k1 := hc K y hy
      have g1 : (0 : Int) ≤ (K : Int) + 1 := by omega
      have g3 : (0 : Int) ≤ (K : Int) := by omega
      have g4 : (K : Int) < (l.length : Int) := by omega
      have g6 : IntKind.i64.wrap (K : Int) = (K : Int) := by rw [IntKind.wrap_i64]; omega
      have hlt := ltB_succ hx hy
      clear hc HB
      cases hl : Op.bytesLess y.toList x.toList with
      | true =>
        have HX2 : Hid (ascN l (K + 1 + 1) = true) := ascN_succ HAS.out (hlt.trans hl)
        clear hlt hx hy
        go_wp2
        go_quiet (fail)
        go_wp2
        go_roundw
        case rel => exact ⟨K + 1, by go_num, .inl hil, HX2.out, _, rfl⟩
        case measure => simp [intOf]; omega
      | false =>
        have HR : Hid (asB l = false) := ascN_no hil (hlt.trans hl)
        clear hlt hx hy
        go_wp2
        go_quiet (fail)
        go_wp2
        go_ret
        exact ⟨ret_bool (by rw [HR.out]; rfl), q + nq, by first | rfl | exact World.drewN_drewN _ _ _ | simp [World.drewN_drewN]⟩
    · have hil' : ¬ (K : Int) + 1 < (l.length : Int) := by omega
      have HR : Hid (asB l = true) := by
        show _ = _
        unfold asB
        rcases Nat.eq_zero_or_pos l.length with h | h
        · rw [h]; rfl
        · rw [show l.length = K + 1 by omega]; exact HAS.out
      go_wp2
      go_ret
      exact ⟨ret_bool (by rw [HR.out, Bool.true_and]; first | rfl | (rw [Bool.eq_iff_iff]; simp; omega)), q, rfl⟩

set_option maxRecDepth 100000 in
set_option maxHeartbeats 1000000 in
theorem snames_any (a : Option Addr) (c : Nat) (l : List ByteArray) (w : World) (hb : ty.SrcS none w a l) (hn : ty.wtS l ≤ 1048576) :
    Calls Tryz.prog 28 #[.slice a l.length c] w fun e w' => e = .returned (.bool (nB l && decide (l.length ≤ 2000))) ∧ w' = w := by
  have hl := ty.wtS_len l
  have HW : Hid (∀ x ∈ l, x.size ≤ 1048576) := fun x hx => by have := ty.wtS_mem hx; omega
  have HB : Hid (ty.SrcS none w a l) := hb
  clear hb
  go_enter Tryz.func28, Tryz.ntmps28
  go_wp2
  go_loop [3] (fun v => ∃ i : Nat, i ≤ l.length ∧ v = .int .i64 (i : Int) ∧ ∀ y ∈ l.take i, nm.nameB y = true) (fun v => l.length - (intOf v).toNat)
  case atStart => exact ⟨0, Nat.zero_le _, rfl, by simp⟩
  case round =>
    obtain ⟨i, hi, rfl, hA⟩ := hrel
    have HAL : Hid (∀ y ∈ l.take i, nm.nameB y = true) := hA
    clear hA
    by_cases hil : i < l.length
    · have hil' : (i : Int) < (l.length : Int) := by omega
      obtain ⟨x, hx⟩ : ∃ x, l[i]? = some x := ⟨_, List.getElem?_eq_getElem hil⟩
      rcases HB.out with ⟨_, h⟩ | ⟨b, o, rfl, _, hc⟩
      · rw [h] at hil; simp at hil
      have k0 := hc i x hx
      have HX : Hid (l[i]? = some x) := hx
      have HNM : Hid (∀ W, Calls Tryz.prog 26 #[.string x] W fun e w' => e = .returned (.bool (nm.nameB x)) ∧ w' = W) := fun W => nm.spec_any x (HW.out x (List.mem_of_getElem? hx)) W
      clear hc hx HB
      cases hnb : nm.nameB x with
      | false =>
        rw [hnb] at HNM
        have HR : Hid (nB l = false) := all_bad HX.out hnb
        clear hnb
        go_wp2_with (go_at_call 26; refine (HNM.out _).mono ?_; rintro e w2 ⟨rfl, hw2⟩; obtain rfl := hw2.symm; clear hw2)
        go_ret
        exact ⟨ret_bool (by rw [HR.out]; rfl), rfl⟩
      | true =>
        rw [hnb] at HNM
        have HT : Hid (nm.nameB x = true) := hnb
        clear hnb
        go_wp2_with (go_at_call 26; refine (HNM.out _).mono ?_; rintro e w2 ⟨rfl, hw2⟩; obtain rfl := hw2.symm; clear hw2)
        go_round
        case rel => exact ⟨i + 1, by omega, by go_num, all_step HX.out HAL.out HT.out⟩
        case measure => simp [intOf]; omega
    · have hil' : ¬ (i : Int) < (l.length : Int) := by omega
      obtain rfl : i = l.length := by omega
      have HR : Hid (nB l = true) := all_end HAL.out
      go_wp2
      go_ret
      exact ⟨ret_bool (by rw [HR.out, Bool.true_and]; first | rfl | (rw [Bool.eq_iff_iff]; simp; omega)), rfl⟩

set_option maxRecDepth 100000 in
set_option maxHeartbeats 1000000 in
theorem inames_any (a : Option Addr) (c : Nat) (l : List ByteArray) (w : World) (hb : ty.SrcS none w a l) (hn : ty.wtS l ≤ 1048576) :
    Calls Tryz.prog 71 #[.slice a l.length c] w fun e w' => e = .returned (.bool (nB l)) ∧ w' = w := by
  have hl := ty.wtS_len l
  have HW : Hid (∀ x ∈ l, x.size ≤ 1048576) := fun x hx => by have := ty.wtS_mem hx; omega
  have HB : Hid (ty.SrcS none w a l) := hb
  clear hb
  go_enter Tryz.func71, Tryz.ntmps71
  go_wp2
  go_loopw [4, 7] (fun _ x wr => ∃ i : Nat, i ≤ l.length ∧ x = .int .i64 (i : Int) ∧ (∀ y ∈ l.take i, nm.nameB y = true) ∧ wr = w) (fun _ x _ => l.length - (intOf x).toNat)
  case atStart => exact ⟨0, Nat.zero_le _, rfl, by simp, rfl⟩
  case round =>
    obtain ⟨i, hi, rfl, hA, rfl⟩ := hrel
    have HAL : Hid (∀ y ∈ l.take i, nm.nameB y = true) := hA
    clear hA
    by_cases hil : i < l.length
    · have hil' : (i : Int) < (l.length : Int) := by omega
      have hi0 : (0 : Int) ≤ (i : Int) := by omega
      obtain ⟨x, hx⟩ : ∃ x, l[i]? = some x := ⟨_, List.getElem?_eq_getElem hil⟩
      rcases HB.out with ⟨_, h⟩ | ⟨b, o, rfl, _, hc⟩
      · rw [h] at hil; simp at hil
      have k0 := hc i x hx
      have HX : Hid (l[i]? = some x) := hx
      have HNM : Hid (∀ W, Calls Tryz.prog 55 #[.string x] W fun e w' => e = .returned (.bool (nm.nameB x)) ∧ w' = W) := fun W => nm.impl_any x (HW.out x (List.mem_of_getElem? hx)) W
      clear hc hx HB
      cases hnb : nm.nameB x with
      | false =>
        rw [hnb] at HNM
        have HR : Hid (nB l = false) := all_bad HX.out hnb
        clear hnb
        go_wp2_with (go_at_call 55; refine (HNM.out _).mono ?_; rintro e w2 ⟨rfl, hw2⟩; obtain rfl := hw2.symm; clear hw2)
        go_ret
        exact ⟨ret_bool (by rw [HR.out]), rfl⟩
      | true =>
        rw [hnb] at HNM
        have HT : Hid (nm.nameB x = true) := hnb
        clear hnb
        go_wp2_with (go_at_call 55; refine (HNM.out _).mono ?_; rintro e w2 ⟨rfl, hw2⟩; obtain rfl := hw2.symm; clear hw2)
        go_roundw
        case rel => exact ⟨i + 1, by omega, by go_num, all_step HX.out HAL.out HT.out, by first | rfl | trivial⟩
        case measure => simp [intOf]; omega
    · have hil' : ¬ (i : Int) < (l.length : Int) := by omega
      obtain rfl : i = l.length := by omega
      have HR : Hid (nB l = true) := all_end HAL.out
      go_wp2
      go_ret
      exact ⟨ret_bool (by rw [HR.out]), rfl⟩

theorem nan_any (x : ByteArray) (w : World) :
    Calls Tryz.prog 77 #[.string x] w fun e w' => e = .returned (.bool false) ∧ w' = w := by
  go_enter Tryz.func77, Tryz.ntmps77
  go_wp2
  go_ret
  exact ⟨by first | rfl | simp, rfl⟩

theorem less_any (x y : ByteArray) (w : World) :
    Calls Tryz.prog 73 #[.string x, .string y] w fun e w' => e = .returned (.bool (Op.bytesLess x.toList y.toList)) ∧ w' = w := by
  obtain ⟨r, hr⟩ : ∃ r, Op.bytesLess x.toList y.toList = r := ⟨_, rfl⟩
  go_enter Tryz.func73, Tryz.ntmps73
  go_wp2_with (go_at_call 77; refine (nan_any _ _).mono ?_; rintro e w' ⟨rfl, rfl⟩)
  go_ret
  exact ⟨by first | rfl | simp [hr], rfl⟩

set_option maxRecDepth 100000 in
set_option maxHeartbeats 1000000 in
theorem iasc_any (a : Option Addr) (c : Nat) (l : List ByteArray) (w : World) (hb : ty.SrcS none w a l) (hn : l.length ≤ 1048576) :
    Calls Tryz.prog 72 #[.slice a l.length c, .func (.func 73) #[] #[]] w fun e w' => e = .returned (.bool (asB l)) ∧ Below w.heap.size w w' := by
  have HB : Hid (ty.SrcS none w a l) := hb
  clear hb
  go_enter Tryz.func72, Tryz.ntmps72
  go_wp2
  go_loopw [5, 8] (fun _ v wr => ∃ i : Nat, i ≤ l.length ∧ v = .int .i64 (i : Int) ∧ ascN l i = true ∧ Below w.heap.size w wr) (fun _ v _ => l.length - (intOf v).toNat)
  case atStart => exact ⟨0, Nat.zero_le _, rfl, rfl, Below.refl _ _⟩
  case round =>
    obtain ⟨i, hi, rfl, hAs, hbel⟩ := hrel
    have HAS : Hid (ascN l i = true) := hAs
    have HBE : Hid (Below w.heap.size w wr) := hbel
    clear hAs
    by_cases hil : i < l.length
    · have hil' : (i : Int) < (l.length : Int) := by omega
      obtain ⟨x, hx⟩ : ∃ x, l[i]? = some x := ⟨_, List.getElem?_eq_getElem hil⟩
      rcases HB.out.below hbel with ⟨_, h⟩ | ⟨b, o, rfl, _, hc⟩
      · rw [h] at hil; simp at hil
      cases i with
      | zero =>
        have HX2 : Hid (ascN l 1 = true) := ascN_succ HAS.out rfl
        clear hc HB hx hbel
        go_wp2_with fail
        go_quiet (fail)
        go_wp2
        go_roundw
        case rel => exact ⟨1, by omega, by go_num, HX2.out, below_drewN HBE.out _⟩
        case measure => simp [intOf]; omega
      | succ K =>
        obtain ⟨y, hy⟩ : ∃ y, l[K]? = some y := ⟨_, List.getElem?_eq_getElem (by omega)⟩
        have k0 := hc (K + 1) x hx
        have k1 := hc K y hy
        have HK : Hid (wr.cell? ⟨b, o + (K + 1), none⟩ = some (.string x) ∧ wr.cell? ⟨b, o + K, none⟩ = some (.string y)) := ⟨k0, k1⟩
        have g1 : (0 : Int) ≤ (K : Int) + 1 := by omega
        have g2 : (K : Int) + 1 < (l.length : Int) := by omega
        have g3 : (0 : Int) ≤ (K : Int) := by omega
        have g4 : (K : Int) < (l.length : Int) := by omega
        have g5 : (0 : Int) < (K : Int) + 1 := by omega
        have g6 : IntKind.i64.wrap (K : Int) = (K : Int) := by rw [IntKind.wrap_i64]; omega
        have hlt := ltB_succ hx hy
        have HLE := fun W => less_any y x W
        clear hc HB
        cases hl : Op.bytesLess y.toList x.toList with
        | true =>
          have HX2 : Hid (ascN l (K + 1 + 1) = true) := ascN_succ HAS.out (hlt.trans hl)
          rw [hl] at HLE
          have HLE : Hid (∀ W, Calls Tryz.prog 73 #[.string y, .string x] W fun e w' => e = .returned (.bool true) ∧ w' = W) := HLE
          clear hlt hx hy hl hbel
          go_wp2_with fail
          go_region_held3 (fun W => W.cell? ⟨b, o + (K + 1), none⟩ = some (.string x) ∧ W.cell? ⟨b, o + K, none⟩ = some (.string y))
            (first | exact HK.out | go_keep)
            (((go_at_call 73; refine (HLE.out _).mono ?_; rintro e w2 ⟨rfl, hw2⟩; obtain rfl := hw2.symm; clear hw2)))
          go_wp2_with fail
          go_roundw
          case rel => exact ⟨K + 1 + 1, by omega, by go_num, HX2.out, HBE.out.drew⟩
          case measure => simp [intOf]; omega
        | false =>
          have HR : Hid (asB l = false) := ascN_no hil (hlt.trans hl)
          rw [hl] at HLE
          have HLE : Hid (∀ W, Calls Tryz.prog 73 #[.string y, .string x] W fun e w' => e = .returned (.bool false) ∧ w' = W) := HLE
          clear hlt hx hy hl hbel
          go_wp2_with fail
          go_region_held3 (fun W => W.cell? ⟨b, o + (K + 1), none⟩ = some (.string x) ∧ W.cell? ⟨b, o + K, none⟩ = some (.string y))
            (first | exact HK.out | go_keep)
            (((go_at_call 73; refine (HLE.out _).mono ?_; rintro e w2 ⟨rfl, hw2⟩; obtain rfl := hw2.symm; clear hw2)))
          go_wp2_with fail
          go_ret
          exact ⟨ret_bool (by rw [HR.out]), HBE.out.drew⟩
    · have hil' : ¬ (i : Int) < (l.length : Int) := by omega
      obtain rfl : i = l.length := by omega
      have HR : Hid (asB l = true) := HAS.out
      go_wp2
      go_ret
      exact ⟨ret_bool (by rw [HR.out]), HBE.out⟩

end Go.Proofs.YtccnepenfglfoaaGreat.un
