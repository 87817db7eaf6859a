import Derived.Test.YtfibjbpipldhaahRows
import Derived.Test.YtfibjbpipldhaahL
import Derived.Test.YtfibjbpipldhaahS
import Derived.Test.YtfibjbpipldhaahM
import Derived.Maps.Own
import Derived.Maps.OwnOps
import Derived.Maps.OwnSet
import Derived.Maps.Views
namespace Go.Proofs.Ytfibjbpipldhaah.ch
open Go.ChangeShapes Go.WideShapes Go.ChangeAt Go.RowKit Go.Deep Go.Maps
set_option linter.unusedVariables false

def same (l : List ByteArray) (k i : Nat) : Bool := (st.atS l k).toList == (st.atS l i).toList
/-- A text that is among those ahead of it. -/
def dup (l : List ByteArray) (i : Nat) : Bool := (List.range i).any fun k => same l k i
def clTo (l : List ByteArray) (n : Nat) : Option Nat := (List.range n).find? fun i => dup l i
def clS (l : List ByteArray) (n : Nat) : ByteArray := if n ≤ 2000 then match clTo l n with | some i => st.atS l i | none => ⟨#[]⟩ else ⟨#[]⟩
def clB (l : List ByteArray) (n : Nat) : Bool := decide (n ≤ 2000) && (clTo l n).isSome

theorem clTo_succ (l : List ByteArray) (k : Nat) : clTo l (k + 1) = match clTo l k with | some j => some j | none => if dup l k then some k else none := by
  unfold clTo
  rw [List.range_succ, List.find?_append]
  cases (List.range k).find? fun i => dup l i with
  | some j => rfl
  | none => simp [List.find?_cons]; split <;> simp_all

theorem clTo_grow {l : List ByteArray} {k i : Nat} (h : clTo l k = some i) : ∀ m, clTo l (k + m) = some i := by
  intro m
  induction m with
  | zero => exact h
  | succ m ih => rw [← Nat.add_assoc, clTo_succ, ih]

theorem clTo_hit {l : List ByteArray} {k n : Nat} (hk : k < n) (h0 : clTo l k = none) (hd : dup l k = true) : clTo l n = some k := by
  have h1 : clTo l (k + 1) = some k := by rw [clTo_succ, h0]; simp [hd]
  have := clTo_grow h1 (n - (k + 1))
  rwa [show k + 1 + (n - (k + 1)) = n by omega] at this

theorem clTo_miss {l : List ByteArray} {k : Nat} (h0 : clTo l k = none) (hd : dup l k = false) : clTo l (k + 1) = none := by
  rw [clTo_succ, h0]; simp [hd]

theorem ret_sb {a b : ByteArray} {c d : Bool} (h : a = b) (h2 : c = d) : Ending.returned (.tuple #[.string a, .bool c]) = .returned (.tuple #[.string b, .bool d]) := by rw [h, h2]

theorem hit {l : List ByteArray} {k n : Nat} (hn : n ≤ 2000) (hk : k < n) (h0 : clTo l k = none) (hd : dup l k = true) :
    Ending.returned (.tuple #[.string (st.atS l k), .bool true]) = .returned (.tuple #[.string (clS l n), .bool (clB l n)]) := by
  have h := clTo_hit hk h0 hd
  exact ret_sb (by simp [clS, hn, h]) (by simp [clB, hn, h])

theorem miss {l : List ByteArray} {n : Nat} (h0 : clTo l n = none) :
    Ending.returned (.tuple #[.string ⟨#[]⟩, .bool false]) = .returned (.tuple #[.string (clS l n), .bool (clB l n)]) :=
  ret_sb (by simp [clS, h0]) (by simp [clB, h0])

theorem big {l : List ByteArray} {n : Nat} (h0 : 2000 < n) :
    Ending.returned (.tuple #[.string ⟨#[]⟩, .bool false]) = .returned (.tuple #[.string (clS l n), .bool (clB l n)]) :=
  ret_sb (by simp [clS]; omega) (by simp [clB]; omega)

/-- Not among the first j ahead of it. -/
def dupTo (l : List ByteArray) (i j : Nat) : Bool := (List.range j).any fun k => same l k i
theorem dupTo_succ (l : List ByteArray) (i j : Nat) : dupTo l i (j + 1) = (dupTo l i j || same l j i) := by simp [dupTo, List.range_succ]
theorem dup_of {l : List ByteArray} {i j : Nat} (hj : j < i) (h : same l j i = true) : dup l i = true := by
  unfold dup
  rw [List.any_eq_true]
  exact ⟨j, by simpa using hj, h⟩

theorem spec_any (a : Option Addr) (n cap : Nat) (l : List ByteArray) (w : World) (hb : st.Ss w a n l) (hn : n ≤ 1099511627776) :
    Calls Try.prog 8 #[.slice a n cap] w fun e w' => e = .returned (.tuple #[.string (clS l n), .bool (clB l n)]) ∧ ∃ q, w' = w.drewN q := by
  by_cases hbig : 2000 < n
  · have h1 : (0 : Int) < (n : Int) := by omega
    have h2 : ¬ (n : Int) ≤ 2000 := by omega
    go_enter Try.func8, Try.ntmps8
    go_wp2
    go_loopw [4] (fun i wr => i = .int .i64 0 ∧ wr = w) (fun i _ => 0)
    case atStart => exact ⟨rfl, rfl⟩
    case round =>
      obtain ⟨rfl, rfl⟩ := hrel
      go_wp2
      go_ret2
      exact ⟨big hbig, 0, rfl⟩
  · have hle : (n : Int) ≤ 2000 := by omega
    go_enter Try.func8, Try.ntmps8
    go_wp2
    go_loopw [4, 5] (fun i _ wr => ∃ k : Nat, k ≤ n ∧ i = .int .i64 k ∧ clTo l k = none ∧ ∃ q, wr = w.drewN q) (fun i _ _ => n - (intOf i).toNat)
    case atStart => exact ⟨0, Nat.zero_le _, rfl, rfl, 0, rfl⟩
    case round =>
      obtain ⟨k, hk, rfl, hno, q, rfl⟩ := hrel
      have HN : Hid (clTo l k = none) := hno
      clear hno
      by_cases hlt : k < n
      · rcases hb with rfl | ⟨b, off, rfl, hc⟩
        · omega
        have hki : (k : Int) < (n : Int) := by omega
        go_wp2
        go_loopw [5] (fun j wr => ∃ m : Nat, m ≤ k ∧ j = .int .i64 m ∧ dupTo l k m = false ∧ ∃ q, wr = w.drewN q) (fun j _ => k - (intOf j).toNat)
        case atStart => exact ⟨0, Nat.zero_le _, rfl, rfl, q, rfl⟩
        case round =>
          obtain ⟨m, hm, rfl, hd, q2, rfl⟩ := hrel
          have HD : Hid (dupTo l k m = false) := hd
          clear hd
          by_cases hmk : m < k
          · have hc1 := hc m (by omega)
            have hc2 := hc k hlt
            have hmi : (m : Int) < (n : Int) := by omega
            by_cases he : ((st.atS l m).toList == (st.atS l k).toList) = true
            · have HE : Hid (dup l k = true) := dup_of hmk he
              go_wp2
              go_quiet (fail)
              go_wp2
              go_ret2
              exact ⟨hit (by omega) hlt HN.out HE.out, _, rfl⟩
            · have he' : ((st.atS l m).toList == (st.atS l k).toList) = false := by simpa using he
              have HE : Hid (dupTo l k (m + 1) = false) := by
                show dupTo l k (m + 1) = false
                rw [dupTo_succ, HD.out]
                exact he'
              clear he
              go_wp2
              go_quiet (fail)
              go_wp2
              go_roundw
              case rel => exact ⟨m + 1, by omega, by go_num, HE.out, _, rfl⟩
              case measure => simp [intOf]; omega
          · obtain rfl : m = k := by omega
            go_wp2
            go_roundw
            case rel => exact ⟨m + 1, by omega, by go_num, clTo_miss HN.out HD.out, _, rfl⟩
            case measure => simp [intOf]; omega
      · obtain rfl : k = n := by omega
        have hki : ¬ (k : Int) < (k : Int) := by omega
        go_wp2
        go_ret2
        exact ⟨miss HN.out, q, rfl⟩

theorem law9 : Keyed Try.prog 9 := string_keyed Try.underlying9
theorem zero2 (w : World) : (zeroValue 2).run Try.prog w = .ok (.int .i64 0) w := by kernel_rfl

theorem mkMap (n : Nat) (hn : n ≤ 2000) (w : World) : (Instr.makeMap 31 (some (.int .i64 (n : Int)))).run Try.prog w = .ok (.map (some w.heap.size)) (w.alloc (.map #[] 0)) := by
  unfold Instr.makeMap
  simp [asInt, asIntOf, go_sem]

def litS (s : ByteArray) : Lit := .string s.data.toList
def tmD (l : List ByteArray) : Nat → DataW Unit
  | 0 => .map []
  | k + 1 => (tmD l k).put (litS (st.atS l k)) (.lit (.int .i64 1))

theorem tmD_map (l : List ByteArray) (k : Nat) : IsMap (tmD l k) := by
  induction k with
  | zero => exact isMap_empty
  | succ k ih => exact ih.put _ _

theorem litS_same {l : List ByteArray} {j i : Nat} : litS (st.atS l j) = litS (st.atS l i) ↔ same l j i = true := by
  unfold litS same
  simp [ByteArray.toList_eq]

theorem tmD_at (l : List ByteArray) (i : Nat) : ∀ k, (tmD l k).atKey (litS (st.atS l i)) (.lit (.int .i64 0)) = .lit (.int .i64 (if dupTo l i k then 1 else 0)) := by
  intro k
  induction k with
  | zero => rfl
  | succ k ih =>
    rw [dupTo_succ]
    by_cases he : same l k i = true
    · have e := litS_same.2 he
      rw [he]
      simp only [Bool.or_true, if_true]
      show ((tmD l k).put (litS (st.atS l k)) _).atKey _ _ = _
      rw [e]
      exact atKey_put_same (tmD_map l k) (show WideAt.IsKeyLit (litS (st.atS l i)) from trivial) _ _
    · have hne : litS (st.atS l i) ≠ litS (st.atS l k) := fun h => he (litS_same.1 h.symm)
      have he' : same l k i = false := by simpa using he
      rw [he', Bool.or_false, ← ih]
      exact atKey_put_other hne _ _

theorem tmD_c {l : List ByteArray} {k : Nat} {b : Bool} {c : Int} (hd : Hid (dup l k = b)) (h : (tmD l k).atKey (litS (st.atS l k)) (.lit (.int .i64 0)) = .lit (.int .i64 c)) : c = if b then 1 else 0 := by
  have := tmD_at l k k
  rw [h] at this
  have e : dupTo l k k = b := hd.out
  rw [e] at this
  simpa using this

theorem impl_any (a : Option Addr) (n cap : Nat) (l : List ByteArray) (w : World) (hb : st.Ss w a n l) (hn : n ≤ 1099511627776) (hs : ∀ i, i < n → (st.atS l i).size ≤ 1048576) :
    Calls Try.prog 10 #[.slice a n cap] w fun e w' => e = .returned (.tuple #[.string (clS l n), .bool (clB l n)]) ∧ Below w.heap.size w w' := by
  by_cases hbig : 2000 < n
  · have h2 : (2000 : Int) < (n : Int) := by omega
    go_enter Try.func10, Try.ntmps10
    go_wp2
    go_ret2
    exact ⟨big hbig, Below.refl _ _⟩
  · have hle : ¬ (2000 : Int) < (n : Int) := by omega
    have hmk := mkMap n (by omega)
    go_enter Try.func10, Try.ntmps10
    go_wp2
    clear hmk
    go_loopw [6, 15] (fun _ i wr => ∃ k : Nat, k ≤ n ∧ i = .int .i64 k ∧ clTo l k = none ∧ wr.ownsMap Try.prog 9 (plainElem Try.prog 2) w.heap.size k (tmD l k) ∧ Below w.heap.size w wr) (fun _ i _ => n - (intOf i).toNat)
    case atStart => exact ⟨0, Nat.zero_le _, rfl, rfl, World.ownsMap_made _ _ _ _, (Below.refl _ _).alloc (Nat.le_refl _) _⟩
    case round =>
      obtain ⟨k, hk, rfl, hno, hown, hbel⟩ := hrel
      have HN : Hid (clTo l k = none) := hno
      clear hno
      by_cases hlt : k < n
      · rcases hb with rfl | ⟨b, off, rfl, hc⟩
        · omega
        have hck : wr.cell? ⟨b, off + k, none⟩ = some (.string (st.atS l k)) := (hbel.cell (World.block_lt_of_cell? _ _ (hc k hlt))).trans (hc k hlt)
        have hki : (k : Int) < (n : Int) := by omega
        have hsk := hs k hlt
        have hkey : keyOf Try.prog 9 (.string (st.atS l k)) = some (litS (st.atS l k)) := WideMaps.keyOf_string_mk Try.underlying9 (by unfold maxLen; omega)
        cases hd : dup l k with
        | true =>
          have HD : Hid (dup l k = true) := hd
          clear hd
          go_wp2_with (first
            | (at_lookup; refine wpList_lookup_own_int _ rfl _ _ 31 rfl 9 2 .i64 law9 Try.underlying31 Try.underlying2 (zero2 _) w.heap.size k (tmD l k) rfl hown _ _ rfl hkey ?_; intro c hat hwc; obtain rfl := tmD_c HD hat; clear hat hwc)
            | (go_at_call 15; refine (cl.clone_any _ _ ?_).mono ?_; omega; rintro e w2 ⟨rfl, hl2⟩)
            | go_in)
          go_ret2
          exact ⟨hit (by omega) hlt HN.out HD.out, hbel.trans (hl2.mono hbel.size)⟩
        | false =>
          have HD : Hid (dup l k = false) := hd
          clear hd
          go_wp2_with (first
            | (at_lookup; refine wpList_lookup_own_int _ rfl _ _ 31 rfl 9 2 .i64 law9 Try.underlying31 Try.underlying2 (zero2 _) w.heap.size k (tmD l k) rfl hown _ _ rfl hkey ?_; intro c hat hwc; obtain rfl := tmD_c HD hat; clear hat hwc)
            | (at_mapUpdate; refine wpList_mapUpdate_own _ rfl _ _ _ 31 rfl 9 2 law9 Try.underlying31 _ w.heap.size k _ rfl hown (by unfold maxLen; omega) _ _ _ rfl rfl hkey (.lit (.int .i64 1)) [] (plainElem_int Try.underlying2 (by decide)) ?_; intro w1 hown1 hg1)
            | go_in)
          go_roundw
          case rel => exact ⟨k + 1, by omega, by go_num, clTo_miss HN.out HD.out, hown1, hbel.grown hg1 hbel.size (fun j hj => by cases hj; exact Nat.le_refl _)⟩
          case measure => simp [intOf]; omega
      · obtain rfl : k = n := by omega
        have hki : ¬ (k : Int) < (k : Int) := by omega
        go_wp2
        go_ret2
        exact ⟨miss HN.out, hbel⟩

end Go.Proofs.Ytfibjbpipldhaah.ch
