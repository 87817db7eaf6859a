import Derived.Test.YtdddplhfhpghkaaSL
namespace Go.Proofs.Ytdddplhfhpghkaa.hp
open Go.ChangeShapes Go.WideShapes Go.ChangeAt Go.RowKit Go.Deep Go.Maps
open fa (Us uNo nds aw aws nAt names_any RdN)
open fw (ndA ndA_some bhL Ua ua_of soA soB)
set_option linter.unusedVariables false
set_option linter.unusedSimpArgs false

/-! ### impl.StartOrder -/

theorem rdn_ib {base : Nat} {w : World} {g o cap : Nat} {l : List Nat} (h : fi.Ib base w g o cap l) : RdN w (.slice (some ⟨g, o, none⟩) l.length cap) l := ⟨_, _, rfl, fun i x hx => ⟨g, o, rfl, by
  obtain ⟨hi, rfl⟩ := List.getElem?_eq_some_iff.1 hx
  exact h.cells i hi⟩⟩

set_option maxRecDepth 100000 in
set_option maxHeartbeats 8000000 in
theorem iso_any (md : Option Nat) (a : Option Addr) (c : Nat) (us : List ty.Un) (w : World) (hb : ty.SrcUn md w a us) (hw : ty.wtUn us ≤ 1048576) :
    Calls Try.prog 16 #[.slice a us.length c] w fun e w' => (∃ v, e = .returned (.tuple #[v, .bool (soB us)]) ∧ sr.OwnS w.heap.size w' v (soA us)) ∧ Below w.heap.size w w' := by
  have HUO := Lib.hid (un.iunits_any a c us w hb.any hw)
  cases hu : un.usB us with
  | false =>
    rw [hu] at HUO
    have HA : Hid (soA us = [] ∧ soB us = false) := ⟨by unfold soA; rw [if_neg (by rw [hu]; decide)], by unfold soB; rw [if_neg (by rw [hu]; decide)]⟩
    rw [HA.out.1, HA.out.2]
    go_enter Try.func16, Try.ntmps16
    go_wp2_with (go_at_call 30; refine HUO.out.mono ?_; rintro e w1 ⟨rfl, hl1⟩)
    go_ret2
    exact ⟨⟨_, rfl, sr.OwnS.mono (base := w1.heap.size) ⟨sr.own_zero w1, sr.not_nil _ _ _⟩ hl1.size⟩, hl1.alloc hl1.size _⟩
  | true =>
    rw [hu] at HUO
    have hU := ua_of hu
    have HSN : Hid (∀ W, Below w.heap.size w W → Calls Try.prog 39 #[.slice a us.length c] W fun e w' => SnR us W w' e ∧ Below W.heap.size W w') := fun W h => snum_any md a c us W (hb.below h) hU
    have HNM : Hid (∀ (L : List Nat) (v : Value) (W : World), Below w.heap.size w W → RdN W v L → (∀ x ∈ L, x < us.length) → L.length ≤ 1000 → Calls Try.prog 34 #[.slice a us.length c, v] W fun e w' => (∃ v', e = .returned v' ∧ sr.OwnS W.heap.size w' v' (L.map (nAt us))) ∧ Below W.heap.size W w') := fun L v W h h1 h2 h3 => names_any md a c us L v W (hb.below h) hw hU.few h1 h2 h3
    have HDN : Hid (∀ (O : List Nat) (f : Nat → Nat), Iv us O f [] → soA us = O.map (nAt us) ∧ soB us = decide (O.length = us.length)) := fun O f h => h.done hU hu
    have hn1 := hU.few
    obtain ⟨n, hnn⟩ : ∃ n, us.length = n := ⟨_, rfl⟩
    have HN : Hid (us.length = n) := hnn
    rw [hnn] at HUO HSN HNM HDN hn1 ⊢
    clear hb hw hu hU hnn
    go_enter Try.func16, Try.ntmps16
    go_wp2_with (go_at_call 30; refine HUO.out.mono ?_; rintro e w1 ⟨rfl, hl1⟩; refine Hid.out ?_)
    refine Lib.hid ?_
    have HS1 := Lib.hid (HSN.out w1 hl1)
    have HB1 := Lib.hid hl1
    clear hl1 HUO
    go_wp2_with (go_at_call 39; refine HS1.out.mono ?_; rintro e w2 ⟨⟨O, f, g, o, cap, rfl, hib, hiv⟩, hl2⟩; refine Hid.out ?_)
    refine Lib.hid ?_
    have hol := hiv.olen
    have HB2 := Lib.hid (HB1.out.trans (hl2.mono HB1.out.size))
    have HN2 := Lib.hid (HNM.out O _ w2 HB2.out (rdn_ib hib) (by have := hiv.lt; rw [HN.out] at this; exact this) (by rw [HN.out] at hol; omega))
    have HE := Lib.hid (HDN.out O f hiv)
    have hdd : ((O.length : Int) == (n : Int)) = decide (O.length = n) := by rw [Bool.eq_iff_iff, beq_iff_eq, decide_eq_true_eq]; omega
    clear hib hiv hl2 hol HS1
    go_wp2_with (go_at_call 34; refine HN2.out.mono ?_; rintro e w3 ⟨⟨v3, rfl, ho3⟩, hl3⟩)
    go_ret2
    rw [HE.out.1, HE.out.2]
    exact ⟨⟨_, by first | rfl | (simp; exact hdd), ho3.mono HB2.out.size⟩, HB2.out.trans (hl3.mono HB2.out.size)⟩

theorem soA_small (us : List ty.Un) : (soA us).length ≤ 1000000 := by
  unfold soA
  split
  · next h => have := fw.soN_len us us.length; have := (ua_of h).few; omega
  · simp
end Go.Proofs.Ytdddplhfhpghkaa.hp
