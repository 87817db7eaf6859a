import Derived.Test.YtgpfnldoiaigdaaCH
namespace Go.Proofs.Ytgpfnldoiaigdaa.cd
open Go.ChangeShapes Go.WideShapes Go.ChangeAt Go.RowKit Go.Deep Go.Maps
set_option linter.unusedVariables false
set_option linter.unusedSimpArgs false

set_option maxRecDepth 100000 in
set_option maxHeartbeats 1000000 in
theorem sholds_any (E : Nat → Cn) (b n cap : Nat) (hcap : n ≤ cap ∧ cap ≤ 1099511627776) (hn : n ≤ 1048576) (hs : ∀ i, i < n → (E i).name.size ≤ 1048576) (l : List ByteArray) (a : Option Addr) (m cp : Nat) (hm : m ≤ 1048576) (w : World) (hX : XsB w b n E) (hL : st.Ss w a m l) :
    Calls Try.prog 6 #[.slice (some ⟨b, 0, none⟩) n cap, .slice a m cp] w fun e w' => e = .returned (.bool (okAll E n && (decide (m ≤ 2000) && hE (fun x => decide (0 < cnt l m x)) E 61 0))) ∧ Below w.heap.size w w' := by
  have HO : Hid (∀ W, W = w → Calls Try.prog 13 #[.slice (some ⟨b, 0, none⟩) n cap] W fun e w' => e = .returned (.bool (okAll E n)) ∧ w' = W) := fun W h => by subst h; exact sok_any E b n cap hcap hn hs W hX
  cases hok : okAll E n with
  | false =>
    rw [hok] at HO
    clear hX hok
    go_enter Try.func6, Try.ntmps6
    go_wp2_with (go_at_call 13; refine (HO.out _ rfl).mono ?_; rintro e wx ⟨rfl, hw⟩; obtain rfl := hw.symm; clear hw)
    go_ret
    exact ⟨rfl, Below.refl _ _⟩
  | true =>
    rw [hok] at HO
    have hn0 : 0 < n ∧ n ≤ 300 := by
      unfold okAll at hok
      simp only [Bool.and_eq_true, decide_eq_true_eq] at hok
      exact hok.1
    have HH0 := sh_any E b n (by omega) hs l a m cp hm 61 0 n cap w hX hL hn0.1 (by omega) hcap.1 hcap.2 (by rw [okAll_eq hn0.1 hn0.2] at hok; exact hok)
    rw [Nat.zero_mul] at HH0
    have HH : Hid (Calls Try.prog 14 #[.slice (some ⟨b, 0, none⟩) n cap, .slice a m cp] w fun e w' => e = .returned (.bool (hE (fun x => decide (0 < cnt l m x)) E 61 0)) ∧ Below w.heap.size w w') := HH0
    clear hX hok HH0
    by_cases h2 : m ≤ 2000
    · have h2' : (m : Int) ≤ 2000 := by omega
      rw [decide_eq_true h2]
      go_enter Try.func6, Try.ntmps6
      go_wp2_with (first
        | (go_at_call 13; refine (HO.out _ rfl).mono ?_; rintro e wx ⟨rfl, hw⟩; obtain rfl := hw.symm; clear hw)
        | (go_at_call 14; refine HH.out.mono ?_; rintro e w1 ⟨rfl, hl1⟩))
      go_ret
      exact ⟨rfl, hl1⟩
    · have h2' : ¬ (m : Int) ≤ 2000 := by omega
      rw [decide_eq_false h2]
      go_enter Try.func6, Try.ntmps6
      go_wp2_with (go_at_call 13; refine (HO.out _ rfl).mono ?_; rintro e wx ⟨rfl, hw⟩; obtain rfl := hw.symm; clear hw)
      go_ret
      exact ⟨rfl, Below.refl _ _⟩

/-- Texts, with less left. -/
theorem szL_any (a : Option Addr) (n cap : Nat) (l : List ByteArray) (L : Int) (h0 : 0 ≤ L) (h1 : L ≤ 1048576) (w : World) (hb : st.Ss w a n l) (hn : n ≤ maxLen) (hs : ∀ i, i < n → (st.atS l i).size ≤ maxLen) :
    Calls Try.prog 5 #[.slice a n cap, .int .i64 L] w fun e w' => ∃ r : Int, e = .returned (.int .i64 r) ∧ (0 ≤ r → n ≤ 1048576 ∧ ∀ i, i < n → (st.atS l i).size ≤ 1048576) ∧ w' = w := by
  unfold maxLen at hn hs
  by_cases hbig : L < (n : Int)
  · go_enter Try.func5, Try.ntmps5
    go_wp2
    go_ret
    exact ⟨-1, rfl, fun h => by omega, rfl⟩
  · go_enter Try.func5, Try.ntmps5
    go_wp2
    go_loop [1, 5] (fun x i => ∃ k : Nat, ∃ r : Int, k ≤ n ∧ i = .int .i64 k ∧ x = .int .i64 r ∧ 0 ≤ r ∧ r ≤ 1048576 ∧ ∀ i, i < k → (st.atS l i).size ≤ 1048576) (fun _ i => n - (intOf i).toNat)
    case atStart => exact ⟨0, _, Nat.zero_le _, rfl, rfl, by omega, by omega, fun i hi => by omega⟩
    case round =>
      obtain ⟨k, r, hk, rfl, rfl, h0, h1, hall⟩ := hrel
      have HA : Hid (∀ i, i < k → (st.atS l i).size ≤ 1048576) := hall
      clear hall
      by_cases hlt : k < n
      · rcases hb with rfl | ⟨b, off, rfl, hc⟩
        · omega
        have hck := hc k hlt
        have hsk := hs k hlt
        by_cases hr : r - ((st.atS l k).size : Int) < 0
        · go_wp2
          go_ret
          exact ⟨-1, rfl, fun h => by omega, rfl⟩
        · go_wp2
          go_round
          case rel => exact ⟨k + 1, r - ((st.atS l k).size : Int), by omega, by go_num, by go_num, by omega, by omega, fun i hi => by
            rcases Nat.lt_or_ge i k with h | h
            · exact HA.out i h
            · obtain rfl : i = k := by omega
              omega⟩
          case measure => simp [intOf]; omega
      · obtain rfl : k = n := by omega
        go_wp2
        go_ret
        exact ⟨r, rfl, fun _ => ⟨by omega, HA.out⟩, rfl⟩

end Go.Proofs.Ytgpfnldoiaigdaa.cd
