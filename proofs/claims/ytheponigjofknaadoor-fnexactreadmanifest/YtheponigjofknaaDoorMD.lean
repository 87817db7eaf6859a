import Derived.Test.YtheponigjofknaaDoorMC
import Derived.Test.YtheponigjofknaaDoorMB
namespace Go.Proofs.YtheponigjofknaaDoor.mt
open Go.ChangeShapes Go.WideShapes Go.ChangeAt Go.RowKit Go.Deep Go.Maps
set_option linter.unusedVariables false
set_option linter.unusedSimpArgs false

theorem iadr_any (l : List ByteArray) (a : Option Addr) (n cap : Nat) (w : World) (hb : st.Ss w a n l) (hn : n ≤ 1048576) (hs : ∀ i, i < n → (st.atS l i).size ≤ 1048576) (hT : wd.TabB w) :
    Calls Tryd.prog 68 #[.slice a n cap] w fun e w' => e = .returned (.bool (adA l n && asA l n)) ∧ Below w.heap.size w w' := by
  have HS : Hid (∀ i, i < n → (st.atS l i).size ≤ 1048576) := hs
  have HB : Hid (st.Ss w a n l) := hb
  have HLV := wd.lv_any w hT
  have HAC : Hid (∀ W, Below w.heap.size w W → Calls Tryd.prog 83 #[.slice a n cap, .func (.func 84) #[] #[]] W fun e w' => e = .returned (.bool (asA l n)) ∧ Below W.heap.size W w') := fun W h => asc_any l a n cap W (hb.below h) hn
  clear hs hb hT
  go_enter Tryd.func68, Tryd.ntmps68
  go_wp2_with (first | (go_at_call 66; refine HLV.mono ?_; rintro e w1 ⟨rfl, hown, B1⟩; refine Hid.out ?_) | go_in)
  refine Lib.hid ?_
  have HIA : Hid (∀ j, j < n → Calls Tryd.prog 67 #[.string (st.atS l j), .map (some w.heap.size)] w1 fun e w' => e = .returned (.bool (wd.aokB (st.atS l j))) ∧ w' = w1) := fun j hj => wd.isadr_any _ (HS.out j hj) _ w1 hown
  clear hown HLV
  go_wp2_with fail
  go_loopw [5, 9] (fun _ v wr => ∃ i : Nat, i ≤ n ∧ v = .int .i64 (i : Int) ∧ adA l i = true ∧ wr = w1) (fun _ v _ => n - (intOf v).toNat)
  case atStart => exact ⟨0, Nat.zero_le _, rfl, rfl, rfl⟩
  case round =>
    obtain ⟨i, hi, rfl, hA, rfl⟩ := hrel
    have HAD : Hid (adA l i = true) := hA
    clear hA
    by_cases hil : i < n
    · have hil' : (i : Int) < (n : Int) := by omega
      obtain ⟨b, o, rfl, hc⟩ : ∃ b o, a = some ⟨b, o, none⟩ ∧ ∀ j, j < n → w.cell? ⟨b, o + j, none⟩ = some (.string (st.atS l j)) := by
        rcases HB.out with h | ⟨b, o, e, h⟩
        · omega
        · exact ⟨b, o, e, h⟩
      have k0 : wr.cell? ⟨b, o + i, none⟩ = some (.string (st.atS l i)) := (B1.cell (World.block_lt_of_cell? _ _ (hc i hil))).trans (hc i hil)
      have HI := HIA.out i hil
      obtain ⟨x, hx⟩ : ∃ x, st.atS l i = x := ⟨_, rfl⟩
      cases hok : wd.aokB (st.atS l i) with
      | false =>
        have HR : Hid (adA l n = false) := adA_no hil hok
        rw [hok, hx] at HI
        rw [hx] at k0
        clear hok hx hc HIA
        go_wp2_with (first | (go_at_call 67; refine HI.mono ?_; rintro e w2 ⟨rfl, rfl⟩) | go_in)
        go_ret
        exact ⟨ret_bool (by rw [HR.out]; rfl), B1⟩
      | true =>
        have HX : Hid (adA l (i + 1) = true) := adA_succ HAD.out hok
        rw [hok, hx] at HI
        rw [hx] at k0
        clear hok hx hc HIA
        go_wp2_with (first | (go_at_call 67; refine HI.mono ?_; rintro e w2 ⟨rfl, rfl⟩) | go_in)
        go_roundw
        case rel => exact ⟨i + 1, by omega, by go_num, HX.out, by first | rfl | trivial⟩
        case measure => simp [intOf]; omega
    · obtain rfl : i = n := by omega
      go_wp2_with (first | (go_at_call 83; refine (HAC.out _ B1).mono ?_; rintro e w2 ⟨rfl, hl2⟩) | go_in)
      go_ret
      exact ⟨ret_bool (by rw [HAD.out, Bool.true_and]), B1.trans (hl2.mono B1.size)⟩

/-- At most 300 ascending addresses. -/
def rfB (l : List ByteArray) (n : Nat) : Bool := decide (n ≤ 300) && (adA l n && asA l n)

theorem refs_any (l : List ByteArray) (a : Option Addr) (n cap : Nat) (w : World) (hb : st.Ss w a n l) (hn : n ≤ 1048576) (hs : ∀ i, i < n → (st.atS l i).size ≤ 1048576) (hT : wd.TabB w) :
    Calls Tryd.prog 47 #[.slice a n cap] w fun e w' => e = .returned (.bool (rfB l n)) ∧ Below w.heap.size w w' := by
  have HI := iadr_any l a n cap w hb hn hs hT
  clear hb hs hT
  go_enter Tryd.func47, Tryd.ntmps47
  by_cases h3 : n ≤ 300
  · have h3' : ¬ (300 : Int) < (n : Int) := by omega
    have hd : decide (n ≤ 300) = true := decide_eq_true h3
    go_wp2_with (first | (go_at_call 68; refine HI.mono ?_; rintro e w2 ⟨rfl, hl2⟩) | go_in)
    go_ret
    exact ⟨ret_bool (by unfold rfB; rw [hd, Bool.true_and]), hl2⟩
  · have h3' : (300 : Int) < (n : Int) := by omega
    have hd : decide (n ≤ 300) = false := decide_eq_false h3
    go_wp2
    go_ret
    exact ⟨ret_bool (by unfold rfB; rw [hd, Bool.false_and]), Below.refl _ _⟩

def szB (z : Int) : Bool := decide (0 ≤ z) && decide (z ≤ 1000000)

theorem size_any (z : Int) (w : World) : Calls Tryd.prog 46 #[.int .i64 z] w fun e w' => e = .returned (.bool (szB z)) ∧ w' = w := by
  go_enter Tryd.func46, Tryd.ntmps46
  by_cases h0 : z < 0
  · have hB : szB z = false := by unfold szB; simp; omega
    go_wp2
    go_ret
    exact ⟨ret_bool (by first | rfl | rw [hB] | (simp; omega)), rfl⟩
  · by_cases h1 : 1000000 < z
    · have hB : szB z = false := by unfold szB; simp; omega
      go_wp2
      go_ret
      exact ⟨ret_bool (by first | rfl | rw [hB] | (simp; omega)), rfl⟩
    · have hB : szB z = true := by unfold szB; simp; omega
      go_wp2
      go_ret
      exact ⟨ret_bool (by first | rfl | rw [hB] | (simp; omega)), rfl⟩

end Go.Proofs.YtheponigjofknaaDoor.mt
