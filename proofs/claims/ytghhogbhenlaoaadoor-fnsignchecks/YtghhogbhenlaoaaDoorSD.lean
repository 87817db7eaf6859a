import Derived.Test.YtghhogbhenlaoaaDoorDU
namespace Go.Proofs.YtghhogbhenlaoaaDoor.sg
open Go.ChangeShapes Go.WideShapes Go.ChangeAt Go.RowKit Go.Deep
set_option linter.unusedVariables false

def numOk (v : Value) : Bool := match v with
  | .int .u64 z => decide (0 ≤ z ∧ z < 18446744073709551616)
  | _ => false

theorem num_drawn {w w' : World} {arr : Array Value} {c x m : Nat} {t : TypeId} (h : (w.alloc (.cells arr t)).grownBy w' (some c)) (hc : c < w.heap.size) (hok : arr.all numOk = true) (hm : arr.size = m) (hx : x < m) : ∃ y : Nat, y < 18446744073709551616 ∧ w'.cell? ⟨w.heap.size, x, none⟩ = some (.int .u64 (y : Int)) := by
  subst hm
  have h1 := (Array.all_eq_true.1 hok) x hx
  have hcell := World.cell?_alloc_new w arr t x
  rw [Array.getElem?_eq_getElem hx] at hcell
  have hk : w'.cell? ⟨w.heap.size, x, none⟩ = some arr[x] := h.cell hcell (fun e => by have := Option.some.inj e; simp at this; omega)
  generalize arr[x] = v at h1 hk
  cases v with
  | int k z =>
    cases k <;> simp [numOk] at h1
    exact ⟨z.toNat, by omega, by rw [hk, Int.toNat_of_nonneg h1.1]⟩
  | _ => simp [numOk] at h1

theorem prime_can {w : World} {c : Nat} {a : Option Addr} {n cap : Nat} (hc : dr.Can w c a n cap) (hcw : c < w.heap.size) :
    Calls Tryd.prog 14 #[.pointer (some ⟨c, 0, none⟩)] w fun e w' => ∃ X : Nat, e = .returned (.int .u64 (X : Int)) ∧ X < 18446744073709551616 ∧ dr.Draws w w' c a n cap := by
  go_enter Tryd.func14, Tryd.ntmps14
  go_wp2_with (go_at_call 15; refine (dr.below_can (hc.draws ((hc.refl).alloc hc hcw _)) 10 (by decide) (by decide)).mono ?_; rintro e w1 ⟨x, rfl, hx, d1⟩; have D1 := ((hc.refl).alloc hc hcw _).trans d1; obtain ⟨y, hy, hcy⟩ := num_drawn (m := 10) d1.grown hcw (by decide +kernel) rfl hx; clear d1; have hx' : (x : Int) < 10 := (by omega); have HY : Hid (y < 18446744073709551616) := hy; clear hy)
  go_ret
  exact ⟨y, rfl, HY.out, D1⟩

theorem drawKey (a : Option Addr) (n cap : Nat) (w : World) (hb : dr.CodeB w a n) (hn : n ≤ 1048576) (hlt : ∀ x, a = some x → 0 < n → x.block < w.heap.size) :
    Calls Tryd.prog 5 #[.slice a n cap] w fun e w' => (∃ X Y Z : Nat, e = .returned (.tuple #[.int .u64 (X : Int), .int .u64 (Y : Int), .int .u64 (Z : Int)]) ∧ X < 18446744073709551616 ∧ Y < 18446744073709551616 ∧ Z < 18446744073709551616) ∧ Below w.heap.size w w' := by
  go_enter Tryd.func5, Tryd.ntmps5
  go_wp2_with (go_at_call 13; refine (dr.new_any a n cap w hb hn).mono ?_; rintro e w0 ⟨rfl, h0, rfl⟩; refine Hid.out ?_)
  refine Lib.hid ?_
  have C0 := dr.new_can (cap := cap) hb hn hlt h0
  have F := fun {w' : World} (d : dr.Draws (w.alloc (.cells #[.slice a n cap, .int .i64 0, .int .i64 h0] 60)) w' w.heap.size a n cap) => ((Below.refl _ w).alloc (Nat.le_refl _) _).trans (dr.below_of_grown d.grown (Nat.le_refl _) (by simp))
  have S := fun {w' : World} (d : dr.Draws (w.alloc (.cells #[.slice a n cap, .int .i64 0, .int .i64 h0] 60)) w' w.heap.size a n cap) => (show w.heap.size < w'.heap.size by have := d.grown.size; simp at this; omega)
  go_wp2_with (go_at_call 14; refine (prime_can C0 (by simp)).mono ?_; rintro e w1 ⟨X, rfl, hX, d1⟩; refine Hid.out ?_)
  refine Lib.hid ?_
  have HX : Hid (X < 18446744073709551616) := hX
  clear hX
  go_wp2_with (go_at_call 14; refine (prime_can (C0.draws d1) (S d1)).mono ?_; rintro e w2 ⟨Y, rfl, hY, d2⟩; refine Hid.out ?_)
  refine Lib.hid ?_
  have D2 := d1.trans d2
  have HY : Hid (Y < 18446744073709551616) := hY
  have s2 := S D2
  clear hY d1 d2
  go_wp2_with (go_at_call 15; refine (dr.below_can (C0.draws (D2.alloc C0 (by simp) _)) 10 (by decide) (by decide)).mono ?_; rintro e w3 ⟨x3, rfl, hx3, d3⟩; have D3 := (D2.alloc C0 (by simp) _).trans d3; obtain ⟨y, hy, hcy⟩ := num_drawn (m := 10) d3.grown s2 (by decide +kernel) rfl hx3; clear d3; have hx' : (x3 : Int) < 10 := (by omega); have HZ : Hid (y < 18446744073709551616) := hy; clear hy; refine Hid.out ?_)
  refine Lib.hid ?_
  clear D2 s2
  go_wp2_with (go_at_call 16; refine (dr.once_can (C0.draws D3) 6 (by decide) (by decide)).mono ?_; rintro e w4 ⟨b4, rfl, d4⟩; have D4 := D3.trans d4; clear d4 D3; cases b4)
  · go_ret3
    exact ⟨⟨X, Y, y, rfl, HX.out, HY.out, HZ.out⟩, F D4⟩
  · obtain ⟨X2, e2, l2⟩ := dr.u64_nat ((X : Int) + 2)
    go_wp2
    go_ret3
    exact ⟨⟨X2, Y, y, by rw [← e2]; rfl, l2, HY.out, HZ.out⟩, F D4⟩

end Go.Proofs.YtghhogbhenlaoaaDoor.sg
