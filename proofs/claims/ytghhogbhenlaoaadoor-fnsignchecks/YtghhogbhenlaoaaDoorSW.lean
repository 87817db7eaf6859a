import Derived.Test.YtghhogbhenlaoaaDoorWC
import Derived.Test.YtghhogbhenlaoaaDoorNA
import Derived.Lib.Hide
namespace Go.Proofs.YtghhogbhenlaoaaDoor.sg
open Go.ChangeShapes Go.WideShapes Go.ChangeAt Go.RowKit Go.Deep
set_option linter.unusedVariables false

theorem tab_block {w : World} (h : wd.TabB w) : wd.Tab w := fun i hi => by
  obtain ⟨t, fr, hb⟩ := h
  have hi' : i < wd.LET.length := hi
  simp only [World.cell?, hb]
  show wd.LETC[i]? = _
  simp [wd.LETC, wd.letU, List.getElem?_eq_getElem hi']

/-- A key's text. -/
def ktA (s : ByteArray) (n e : Nat) : ByteArray := if nm.nameB s then s ++ ⟨#[58]⟩ ++ wd.wordA n ++ ⟨#[58]⟩ ++ wd.wordA e else ⟨#[]⟩

theorem ikt_any (s : ByteArray) (n e : Nat) (hs : s.size ≤ 1048576) (hn : n < 18446744073709551616) (he : e < 18446744073709551616) (w : World) (hT : wd.TabB w) :
    Calls Tryd.prog 12 #[.string s, .int .u64 (n : Int), .int .u64 (e : Int)] w fun en w' => en = .returned (.string (ktA s n e)) ∧ Below w.heap.size w w' := by
  go_enter Tryd.func12, Tryd.ntmps12
  have cn := fun W => nm.impl_any s hs W
  cases hN : nm.nameB s <;> rw [hN] at cn
  · have hk : ktA s n e = ⟨#[]⟩ := by unfold ktA; rw [hN]; rfl
    clear hn he
    go_wp2_with (first | (go_at_call 27; refine (cn _).mono ?_; rintro en w1 ⟨rfl, rfl⟩) | go_in)
    go_ret
    exact ⟨by rw [hk]; rfl, Below.refl _ _⟩
  · have hk : ktA s n e = s ++ ⟨#[58]⟩ ++ wd.wordA n ++ ⟨#[58]⟩ ++ wd.wordA e := by unfold ktA; rw [hN]; rfl
    have c1 := fun W (h : Below w.heap.size w W) => wd.impl_any n hn W (tab_block (hT.below h))
    have c2 := fun W (h : Below w.heap.size w W) => wd.impl_any e he W (tab_block (hT.below h))
    have z1 := wd.wordA_size n
    have z2 := wd.wordA_size e
    have F1 : Hid True := trivial
    clear hn he
    go_wp2_with (first
      | (go_at_call 27; refine (cn _).mono ?_; rintro en w1 ⟨rfl, rfl⟩)
      | (go_at_call 28; have := F1.out; refine (c1 _ (Below.refl _ _)).mono ?_; rintro en w2 ⟨rfl, B2⟩; clear F1)
      | (go_at_call 28; refine (c2 _ B2).mono ?_; rintro en w3 ⟨rfl, hl3⟩; have B3 := B2.trans (hl3.mono B2.size); clear hl3)
      | go_in)
    go_ret
    exact ⟨by rw [hk]; rfl, B3⟩

end Go.Proofs.YtghhogbhenlaoaaDoor.sg
