import Derived.Test.YtihjdggmmmlpkaaDoorPB
namespace Go.Proofs.YtihjdggmmmlpkaaDoor.pf
open Go.ChangeShapes Go.WideShapes Go.ChangeAt Go.RowKit Go.Deep Go.Maps
set_option linter.unusedVariables false
set_option linter.unusedSimpArgs false

/-! ### Profiles: each part small -/

structure SzB (ps : List Pr) : Prop where
  len : ps.length ≤ 1048576
  name : ∀ x ∈ ps, x.name.size ≤ 1048576
  gens : ∀ x ∈ ps, x.gens.length ≤ 1048576
  path : ∀ x ∈ ps, ∀ g ∈ x.gens, g.p.size ≤ 1048576

set_option maxHeartbeats 2000000 in
set_option maxRecDepth 100000 in
theorem ixP_gen (ps : List Pr) (a : Option Addr) (cap mb vb : Nat) (w : World) (hR : SrcP w a ps) (hn : ps.length ≤ 1048576) (hw : SzB ps) (hL : LV w mb) (hv : w.cell? ⟨vb, 0, none⟩ = some (.map (some mb))) :
    Calls Tryd.prog 48 #[.slice a ps.length cap, .func (.func 20) #[] #[.pointer (some ⟨vb, 0, none⟩)]] w fun e w' => (∃ r : Int, e = .returned (.int .i64 r) ∧ (0 ≤ r ∧ Bad ps ∨ r = -1 ∧ ¬ Bad ps)) ∧ Below w.heap.size w w' := by
  have HR : Hid (SrcP w a ps) := hR
  have HC : Hid (∀ (x : Pr) (a' : Option Addr) (c' : Nat) W, x ∈ ps → Below w.heap.size w W → SrcG W a' x.gens → Calls Tryd.prog 20 #[.agg #[.string x.name, .int .i64 x.now, .slice a' x.gens.length c'], .pointer (some ⟨vb, 0, none⟩)] W fun e w' => e = .returned (.bool (!pOkB x)) ∧ Below W.heap.size W w') := fun x a' c' W hx hW hs => p2_any x a' c' mb vb W hs (hw.gens x hx) (hw.name x hx) (hw.path x hx) (hL.below hW) ((hW.cell (p := ⟨vb, 0, none⟩) (World.block_lt_of_cell? _ _ hv)).trans hv)
  clear hR hL hv hw
  obtain ⟨n, hnn⟩ : ∃ n, ps.length = n := ⟨_, rfl⟩
  have HNN : Hid (ps.length = n) := hnn
  rw [hnn] at hn ⊢
  clear hnn
  go_enter Tryd.func48, Tryd.ntmps48
  go_wp2
  go_loopw [5, 8] (fun _ y wr => ∃ i : Nat, i ≤ n ∧ y = .int .i64 (i : Int) ∧ (∀ (j : Nat) (y : Pr), j < i → ps[j]? = some y → POk y) ∧ Below w.heap.size w wr) (fun _ y _ => n - (intOf y).toNat)
  case atStart => exact ⟨0, Nat.zero_le _, rfl, fun j y h => by omega, Below.refl _ _⟩
  case round =>
    obtain ⟨i, hi, rfl, h1, hbel⟩ := hrel
    have H1 : Hid (∀ (j : Nat) (y : Pr), j < i → ps[j]? = some y → POk y) := h1
    have HBE : Hid (Below w.heap.size w wr) := hbel
    clear h1
    by_cases hin : i < n
    · have hin' : (i : Int) < (n : Int) := by omega
      have hi0 : (0 : Int) ≤ (i : Int) := by omega
      obtain ⟨x, hx⟩ : ∃ x, ps[i]? = some x := ⟨_, List.getElem?_eq_getElem (by rw [HNN.out]; exact hin)⟩
      rcases HR.out with h | ⟨b, o, rfl, hc⟩
      · have := HNN.out; rw [h] at this; simp at this; omega
      obtain ⟨a', c', q0, q1, q2, hs⟩ := (hc i x hx).below hbel
      have HX : Hid (ps[i]? = some x) := hx
      have HCM : Hid (Calls Tryd.prog 20 #[.agg #[.string x.name, .int .i64 x.now, .slice a' x.gens.length c'], .pointer (some ⟨vb, 0, none⟩)] wr fun e w' => e = .returned (.bool (!pOkB x)) ∧ Below wr.heap.size wr w') := HC.out x a' c' wr (List.mem_of_getElem? hx) hbel hs
      obtain ⟨z, hz⟩ : ∃ z, x.now = z := ⟨_, rfl⟩
      obtain ⟨A, hA⟩ : ∃ z, x.name = z := ⟨_, rfl⟩
      obtain ⟨m, hm⟩ : ∃ z, x.gens.length = z := ⟨_, rfl⟩
      rw [hA] at q0
      rw [hz] at q1
      rw [hm] at q2
      rw [hA, hz, hm] at HCM
      clear hA hz hm hbel hc hx hs
      cases hp : pOkB x with
      | false =>
        rw [hp, Bool.not_false] at HCM
        have HF : Hid (Bad ps) := ⟨i, x, HX.out, fun h => by rw [pOkB_yes h] at hp; cases hp⟩
        clear hp
        go_wp2_with (go_at_call 20; refine HCM.out.mono ?_; rintro e w1 ⟨rfl, hl1⟩)
        go_ret
        exact ⟨⟨_, rfl, .inl ⟨hi0, HF.out⟩⟩, HBE.out.trans (hl1.mono HBE.out.size)⟩
      | true =>
        rw [hp, Bool.not_true] at HCM
        have HN : Hid (∀ (j : Nat) (y : Pr), j < i + 1 → ps[j]? = some y → POk y) := fun j y hj hy => by
          rcases Nat.lt_or_ge j i with h | h
          · exact H1.out j y h hy
          · obtain rfl : j = i := by omega
            rw [HX.out] at hy
            cases hy
            exact pOkB_iff.1 hp
        clear hp
        go_wp2_with (go_at_call 20; refine HCM.out.mono ?_; rintro e w1 ⟨rfl, hl1⟩)
        go_roundw
        case rel => exact ⟨i + 1, by omega, by go_num, HN.out, HBE.out.trans (hl1.mono HBE.out.size)⟩
        case measure => simp [intOf] <;> omega
    · have hin' : ¬ (i : Int) < (n : Int) := by omega
      have HF : Hid (¬ Bad ps) := fun ⟨j, y, hy, hn⟩ => hn (H1.out j y (by have := (List.getElem?_eq_some_iff.1 hy).1; have := HNN.out; omega) hy)
      clear hbel
      go_wp2
      go_ret
      exact ⟨⟨_, rfl, .inr ⟨rfl, HF.out⟩⟩, HBE.out⟩

set_option maxRecDepth 100000 in
theorem conP_gen (ps : List Pr) (a : Option Addr) (cap mb vb : Nat) (w : World) (hR : SrcP w a ps) (hn : ps.length ≤ 1048576) (hw : SzB ps) (hL : LV w mb) (hv : w.cell? ⟨vb, 0, none⟩ = some (.map (some mb))) :
    Calls Tryd.prog 19 #[.slice a ps.length cap, .func (.func 20) #[] #[.pointer (some ⟨vb, 0, none⟩)]] w fun e w' => e = .returned (.bool (badB ps)) ∧ Below w.heap.size w w' := by
  have HC : Hid (∀ W : World, W = w → Calls Tryd.prog 48 #[.slice a ps.length cap, .func (.func 20) #[] #[.pointer (some ⟨vb, 0, none⟩)]] W fun e w' => (∃ r : Int, e = .returned (.int .i64 r) ∧ (0 ≤ r ∧ Bad ps ∨ r = -1 ∧ ¬ Bad ps)) ∧ Below w.heap.size w w') := fun W hW => by subst hW; exact ixP_gen ps a cap mb vb W hR hn hw hL hv
  clear hR hL hv hw
  generalize ps.length = n at *
  go_enter Tryd.func19, Tryd.ntmps19
  go_wp2_with (go_at_call 48; refine (HC.out _ rfl).mono ?_; rintro e w1 ⟨⟨r, rfl, hr⟩, hl1⟩)
  go_ret
  refine ⟨?_, hl1⟩
  rcases hr with ⟨h1, h2⟩ | ⟨h1, h2⟩
  · rw [badB_yes h2]
    simp [h1]
  · rw [badB_no h2]
    subst h1
    simp

set_option maxHeartbeats 2000000 in
set_option maxRecDepth 100000 in
theorem ips_gen (ps : List Pr) (a : Option Addr) (cap : Nat) (w : World) (hR : SrcP w a ps) (hw : SzB ps) (hT : wd.TabB w) :
    Calls Tryd.prog 5 #[.slice a ps.length cap] w fun e w' => e = .returned (.bool (psB ps)) ∧ Below w.heap.size w w' := by
  have hn : ps.length ≤ 1048576 := hw.len
  have HAS : Hid (∀ W, Below w.heap.size w W → Calls Tryd.prog 16 #[.slice a ps.length cap, .func (.func 17) #[] #[]] W fun e w' => e = .returned (.bool (adjPB ps)) ∧ Below W.heap.size W w') := fun W hb => ascP_any ps a cap W (hR.below hb) hn
  have HCO : Hid (∀ W mb vb, Below w.heap.size w W → LV W mb → W.cell? ⟨vb, 0, none⟩ = some (.map (some mb)) → Calls Tryd.prog 19 #[.slice a ps.length cap, .func (.func 20) #[] #[.pointer (some ⟨vb, 0, none⟩)]] W fun e w' => e = .returned (.bool (badB ps)) ∧ Below W.heap.size W w') := fun W mb vb hb hL hv => conP_gen ps a cap mb vb W (hR.below hb) hn hw hL hv
  have HT : Hid (wd.TabB w) := hT
  clear hR hT hw
  obtain ⟨n, hnn⟩ : ∃ n, ps.length = n := ⟨_, rfl⟩
  have HNN : Hid (ps.length = n) := hnn
  rw [hnn] at hn HAS HCO ⊢
  clear hnn
  by_cases h2 : 20 < n
  · have h2' : (20 : Int) < (n : Int) := by omega
    have HF : Hid (psB ps = false) := psB_no fun h => by have := h.few; rw [HNN.out] at this; omega
    go_enter Tryd.func5, Tryd.ntmps5
    go_wp2
    go_ret
    exact ⟨by rw [HF.out]; first | done | rfl, Below.refl _ _⟩
  have h2' : ¬ (20 : Int) < (n : Int) := by omega
  cases h3 : adjPB ps with
  | false =>
    rw [h3] at HAS
    have HF : Hid (psB ps = false) := psB_no fun h => by rw [adjPB_yes h.asc] at h3; cases h3
    clear h3
    go_enter Tryd.func5, Tryd.ntmps5
    go_wp2_with (go_at_call 16; refine (HAS.out _ (Below.refl _ _)).mono ?_; rintro e w2 ⟨rfl, hl2⟩)
    go_ret
    exact ⟨by rw [HF.out]; first | done | rfl, hl2⟩
  | true =>
    rw [h3] at HAS
    have HV : Hid (psB ps = !badB ps) := by
      show _ = _
      by_cases hb : Bad ps
      · rw [badB_yes hb, psB_no (fun h => by obtain ⟨i, x, hx, hn⟩ := hb; exact hn (h.each i x hx))]; rfl
      · rw [badB_no hb, psB_yes ⟨by rw [HNN.out]; omega, adjPB_iff.1 h3, fun i x hx => Classical.byContradiction fun h => hb ⟨i, x, hx, h⟩⟩]; rfl
    obtain ⟨r, hr⟩ : ∃ r, badB ps = r := ⟨_, rfl⟩
    rw [hr] at HV HCO
    clear h3 hr
    go_enter Tryd.func5, Tryd.ntmps5
    go_wp2_with (first
      | (go_at_call 16; refine (HAS.out _ (Below.refl _ _)).mono ?_; rintro e w2 ⟨rfl, hl2⟩)
      | (go_at_call 18; refine (wd.lv_any _ (HT.out.below hl2)).mono ?_; rintro e w3 ⟨rfl, hown, hl3⟩; have hs3 := hl3.size)
      | (go_at_call 19; refine (HCO.out _ _ _ ((hl2.trans (hl3.mono hl2.size)).alloc (Nat.le_trans hl2.size hl3.size) _) (World.ownsMap.alloc hown _) (by simp [go_sem])).mono ?_; rintro e w4 ⟨rfl, hl4⟩))
    go_ret
    exact ⟨by rw [HV.out]; first | done | rfl | simp, ((hl2.trans (hl3.mono hl2.size)).alloc (Nat.le_trans hl2.size hl3.size) _).trans (hl4.mono (by have := hl2.size; have := hl3.size; simp; omega))⟩

end Go.Proofs.YtihjdggmmmlpkaaDoor.pf
