import Derived.Test.YtifgaaemdojmpaaGreatDoorG24
import Derived.Test.YtifgaaemdojmpaaGreatDoorG12
namespace Go.Proofs.YtifgaaemdojmpaaGreatDoor.pr
open Go.ChangeShapes Go.WideShapes Go.ChangeAt Go.RowKit Go.Deep
open lx (Lx)
open ex (Tr Ex infoE)
open dr (Draws below_can once_can tab_new Tab)
set_option linter.unusedVariables false
set_option linter.unusedSimpArgs false

/-! ### What the specification draws: an expression, one of its nodes spoilt now and then -/

theorem exV_set {L : List Ex} {i : Nat} {x x' : Ex} {v : Value} {j : Nat} (h : L[i]? = some x) (hj : j < 4) (hv : (exC x).set j v = exC x') : (exV L).set (i * 4 + j) v = exV (L.set i x') := by
  induction L generalizing i with
  | nil => simp at h
  | cons d L ih =>
    have e : ∀ d L, exV (d :: L) = exC d ++ exV L := fun _ _ => rfl
    have hl : (exC d).length = 4 := rfl
    cases i with
    | zero =>
      obtain rfl : d = x := by simpa using h
      rw [e, List.set_append_left _ _ (by rw [hl]; omega), Nat.zero_mul, Nat.zero_add, hv]
      rfl
    | succ i =>
      rw [e, List.set_append_right _ _ (by rw [hl]; omega), hl, show (i + 1) * 4 + j - 4 = i * 4 + j by omega, ih (by simpa using h)]
      rfl
theorem Ow.set {B : Nat} {w : World} {g c : Nat} {L : List Ex} (h : Ow B w g c L) {i j : Nat} {x x' : Ex} {v : Value} (hx : L[i]? = some x) (hj : j < 4) (hv : (exC x).set j v = exC x') : Ow B (w.setCell ⟨g, i * 4 + j, none⟩ v) g c (L.set i x') := by
  have hil := (List.getElem?_eq_some_iff.1 hx).1
  rcases h.own.2 with ⟨e, _⟩ | ⟨g', c', cur, h1, h2, h3, h4, h5, h6, h7⟩
  · cases e
  · cases h1
    refine ⟨⟨by rw [exV_len], .inr ⟨g, c, cur.setIfInBounds (i * 4 + j) v, by rw [List.length_set], h2, ?_, by rw [List.length_set]; exact h4, h5, by simpa using h6, ?_⟩⟩⟩
    · simp [World.setCell, Array.getElem?_modify, h3]
    · rw [List.length_set, Array.toList_setIfInBounds, List.take_set, h7]
      exact exV_set hx hj hv
theorem Ow.froz {B : Nat} {w : World} {g c : Nat} {L : List Ex} (h : Ow B w g c L) (o : Nat) : w.frozen? ⟨g, o, none⟩ = false := by
  rcases h.own.2 with ⟨e, _⟩ | ⟨g', c', cur, h1, h2, h3, h4, h5, h6, h7⟩
  · cases e
  · cases h1
    simp [World.frozen?, h3]
theorem okn_set {N : Nat} {L : List Ex} (h : Okn N L) {i : Nat} {x' : Ex} (hx : x'.text.size ≤ 4000) : Okn N (L.set i x') := ⟨by rw [List.length_set]; exact h.1, fun y hy => by
  rcases List.mem_or_eq_of_mem_set hy with h1 | rfl
  · exact h.2 y h1
  · exact hx⟩

/-- What is drawn: a row of one's own. -/
def DE (a : Option Addr) (n cap : Nat) (w : World) (c : Nat) (e : Ending) (w' : World) : Prop := ∃ (g cp : Nat) (L : List Ex), e = .returned (.slice (some ⟨g, 0, none⟩) L.length cp) ∧ Ow w.heap.size w' g cp L ∧ Okn 3001 L ∧ w.grownBy w' (some c)

section
variable {a : Option Addr} {n cap : Nat}
set_option maxRecDepth 100000 in
set_option maxHeartbeats 8000000 in
theorem expr_can {w : World} {c : Nat} (hc : dr.Can w c a n cap) (hcw : c < w.heap.size) :
    Calls Tryz.prog 17 #[.pointer (some ⟨c, 0, none⟩)] w fun e w' => DE a n cap w c e w' := by
  go_enter Tryz.func17, Tryz.ntmps17
  go_wp2_with (go_at_call 37; refine (draw_can 4 (by decide) hc hcw 4 rfl).mono ?_; rintro e w1 ⟨s, rfl, hs, d1⟩; refine Hid.out ?_)
  refine Lib.hid ?_
  have hcw1 : c < w1.heap.size := Nat.lt_of_lt_of_le hcw d1.grown.size
  have HC1 := Lib.hid (hc.draws d1)
  have HG1 := Lib.hid d1.grown
  have HS : Hid (s.size ≤ 1048576) := by show _ ≤ _; omega
  have HCW := Lib.hid hcw
  clear d1 hs hc
  go_wp2_with (go_at_call 36; refine (parse_any s HS.out w1).mono ?_; rintro e w2 ⟨g, cp, L, p, rfl, ho, hb, hk, _⟩; refine Hid.out ?_)
  refine Lib.hid ?_
  have hb2 : Below (c + 1) w1 w2 := hb.mono (by omega)
  have HC2 := Lib.hid (HC1.out.below hb2)
  have HG2 : Hid (w.grownBy w2 (some c)) := gr_below HG1.out hb
  obtain ⟨w3, hw3⟩ : ∃ W, W = w2.alloc (.cells #[] 27) := ⟨_, rfl⟩
  have hb3 : Below w2.heap.size w2 w3 := by rw [hw3]; exact (Below.refl _ _).alloc (Nat.le_refl _) _
  have hn3 : Ow w2.heap.size w3 w2.heap.size 0 [] := by rw [hw3]; exact Ow.nil w2
  have ho3 := ho.below hb3
  obtain ⟨g4, c4, w4, hr4, how4, hg4, hloc4⟩ := run_appE (m := L) hn3 hb3.size 28 ⟨g, 0, none⟩ cp ho3.read (by have := hk.1; simp; omega)
  have hb4 : Below w2.heap.size w2 w4 := hb3.grown hg4 hb3.size (fun q hq => by have := Option.some.inj hq; omega)
  have hcw2 : c < w2.heap.size := Nat.lt_of_lt_of_le hcw1 hb.size
  have HC4 := Lib.hid (HC2.out.below (hb4.mono (by omega)))
  have HG4 : Hid (w.grownBy w4 (some c)) := gr_below HG2.out hb4
  rw [List.nil_append] at hr4 how4
  have HO4 : Hid (Ow w.heap.size w4 g4 c4 L) := how4.mono (by have h1 := HG2.out.size; exact h1)
  have hcw4 : c < w4.heap.size := Nat.lt_of_lt_of_le hcw2 hb4.size
  have HGC : Hid (g4 ≠ c) := by show _ ≠ _; have := how4.gb; omega
  have HK := Lib.hid hk
  have HR4 := Lib.hid hr4
  have HW3 := Lib.hid hw3
  clear ho hb hk hb2 hw3 hb3 hn3 ho3 hr4 how4 hg4 hloc4 hb4 hcw1 HC1 HG1 HC2 HG2 hcw
  go_wp2_with (at_builtin; rw [← HW3.out]; refine wpList_plain rfl fun K hK => ?_; refine wp_appE _ _ rfl rfl rfl HR4.out ?_; refine hK _ _ ?_; refine Hid.out ?_)
  refine Lib.hid ?_
  clear HR4 HW3
  go_wp2_with (go_at_call 38; refine (once_can HC4.out 6 (by decide) (by decide)).mono ?_; rintro e w5 ⟨b, rfl, d5⟩; refine Hid.out ?_)
  refine Lib.hid ?_
  have HO5 := Lib.hid (HO4.out.kept d5.grown (fun e => HGC.out (Option.some.inj e)))
  have HC5 := Lib.hid (HC4.out.draws d5)
  have HG5 := Lib.hid (gr_trans HG4.out d5.grown)
  have hcw5 : c < w5.heap.size := Nat.lt_of_lt_of_le hcw4 d5.grown.size
  clear d5 HC4 HO4 HG4 hcw4
  have HF : Hid (∀ W (L' : List Ex), Ow w.heap.size W g4 c4 L' → w.grownBy W (some c) → Okn 3001 L' → L'.length = L.length → DE a n cap w c (.returned (.slice (some ⟨g4, 0, none⟩) L.length c4)) W) := fun W L' h1 h2 h3 h4 => ⟨g4, c4, L', by rw [h4], h1, h3, h2⟩
  have HFE := Lib.hid (HF.out w5 L HO5.out HG5.out HK.out rfl)
  cases b with
  | false =>
    go_wp2
    go_ret
    exact HFE.out
  | true =>
    by_cases hl : L.length = 0
    · have hl' : ¬ 0 < (L.length : Int) := by omega
      clear hl
      go_wp2
      go_ret
      exact HFE.out
    · have hl' : 0 < (L.length : Int) := by omega
      have HL3 : Hid (L.length ≤ 3001) := HK.out.1
      go_wp2_with (go_at_call 39; refine (below_can HC5.out L.length (by omega) (by have := HL3.out; omega)).mono ?_; rintro e w6 ⟨i, rfl, hi, d6⟩; refine Hid.out ?_)
      refine Lib.hid ?_
      have hi' : (i : Int) < (L.length : Int) := by omega
      have h0 : (0 : Int) ≤ (i : Int) := by omega
      have HO6 := Lib.hid (HO5.out.kept d6.grown (fun e => HGC.out (Option.some.inj e)))
      have HC6 := Lib.hid (HC5.out.draws d6)
      have HG6 := Lib.hid (gr_trans HG5.out d6.grown)
      have hcw6 : c < w6.heap.size := Nat.lt_of_lt_of_le hcw5 d6.grown.size
      obtain ⟨x, hx⟩ : ∃ x, L[i]? = some x := ⟨_, List.getElem?_eq_getElem hi⟩
      have HX := Lib.hid hx
      clear d6 HC5 HO5 HG5 hcw5 HFE hx hi
      go_wp2_with (go_at_call 39; refine (below_can HC6.out 5 (by decide) (by decide)).mono ?_; rintro e w7 ⟨y, rfl, hy, d7⟩; refine Hid.out ?_)
      refine Lib.hid ?_
      have HO7 := Lib.hid (HO6.out.kept d7.grown (fun e => HGC.out (Option.some.inj e)))
      have HC7 := Lib.hid (HC6.out.draws d7)
      have HG7 := Lib.hid (gr_trans HG6.out d7.grown)
      have hcw7 : c < w7.heap.size := Nat.lt_of_lt_of_le hcw6 d7.grown.size
      clear d7 HC6 HO6 HG6 hcw6
      have HGW : Hid (w.heap.size ≤ g4) := HO7.out.gb.1
      have HCW7 := Lib.hid hcw7
      have HFS : Hid (∀ W j v x', Ow w.heap.size W g4 c4 L → w.grownBy W (some c) → j < 4 → (exC x).set j v = exC x' → x'.text.size ≤ 4000 → DE a n cap w c (.returned (.slice (some ⟨g4, 0, none⟩) L.length c4)) (W.setCell ⟨g4, i * 4 + j, none⟩ v)) := fun W j v x' h1 h2 hj hv ht =>
        HF.out _ (L.set i x') (h1.set HX.out hj hv) (gr_own h2 (gr_set W g4 (i * 4 + j) v) HGW.out) (okn_set HK.out ht) (by rw [List.length_set])
      have HXT : Hid (x.text.size ≤ 4000) := HK.out.2 x (List.mem_of_getElem? HX.out)
      clear HF
      obtain hy0 | hy0 | hy0 | hy0 | hy0 : y = 0 ∨ y = 1 ∨ y = 2 ∨ y = 3 ∨ y = 4 := by omega
      · subst hy0
        clear hcw7
        go_wp2_with (go_at_call 39; refine (below_can HC7.out 22 (by decide) (by decide)).mono ?_; rintro e w8 ⟨k, rfl, hk, d8⟩; refine Hid.out ?_)
        refine Lib.hid ?_
        have HO8 := HO7.out.kept d8.grown (fun e => HGC.out (Option.some.inj e))
        obtain ⟨k0, k1, k2, k3⟩ := HO8.cells HX.out
        have f0 := HO8.froz (i * 4 + 0)
        have HFF := Lib.hid (HFS.out w8 0 (.int .i64 (k : Int)) { x with kind := (k : Int) } HO8 (gr_trans HG7.out d8.grown) (by decide) rfl HXT.out)
        clear d8 HO8
        rw [Nat.add_zero] at f0
        go_wp2
        go_ret
        exact HFF.out
      · subst hy0
        go_wp2_with (go_at_call 39; refine (below_can (HC7.out.draws (HC7.out.refl.alloc HC7.out HCW7.out _)) 5 (by decide) (by decide)).mono ?_; rintro e w8 ⟨k, rfl, hk, d8⟩; refine Hid.out ?_)
        refine Lib.hid ?_
        have hk' : (k : Int) < 5 := by omega
        have D8 := (HC7.out.refl.alloc HC7.out HCW7.out _).trans d8
        obtain ⟨t, ht, hct⟩ := (tab_new w7 _ 5 rfl (by kernel_rfl)).draws d8 (by omega) k hk
        have HO8 := HO7.out.kept D8.grown (fun e => HGC.out (Option.some.inj e))
        obtain ⟨k0, k1, k2, k3⟩ := HO8.cells HX.out
        have f0 := HO8.froz (i * 4 + 1)
        have HFF := Lib.hid (HFS.out w8 1 (.string t) { x with text := t } HO8 (gr_trans HG7.out D8.grown) (by decide) rfl (by show t.size ≤ 4000; omega))
        clear d8 HO8 D8 hcw7
        go_wp2
        go_ret
        exact HFF.out
      · subst hy0
        go_wp2_with (go_at_call 39; refine (below_can (HC7.out.draws (HC7.out.refl.alloc HC7.out HCW7.out _)) 4 (by decide) (by decide)).mono ?_; rintro e w8 ⟨k, rfl, hk, d8⟩; refine Hid.out ?_)
        refine Lib.hid ?_
        have hk' : (k : Int) < 4 := by omega
        have D8 := (HC7.out.refl.alloc HC7.out HCW7.out _).trans d8
        have hct : ∃ z : Int, w8.cell? ⟨w7.heap.size, k, none⟩ = some (.int .i64 z) := by
          have hne : some (w7.heap.size) ≠ some c := fun e => by have := Option.some.inj e; omega
          obtain rfl | rfl | rfl | rfl : k = 0 ∨ k = 1 ∨ k = 2 ∨ k = 3 := by omega
          · exact ⟨1, d8.grown.cell (World.cell?_alloc_new w7 _ _ 0) hne⟩
          · exact ⟨2, d8.grown.cell (World.cell?_alloc_new w7 _ _ 1) hne⟩
          · exact ⟨-1, d8.grown.cell (World.cell?_alloc_new w7 _ _ 2) hne⟩
          · exact ⟨9007199254740993, d8.grown.cell (World.cell?_alloc_new w7 _ _ 3) hne⟩
        obtain ⟨z, hct⟩ := hct
        have HO8 := HO7.out.kept D8.grown (fun e => HGC.out (Option.some.inj e))
        obtain ⟨k0, k1, k2, k3⟩ := HO8.cells HX.out
        have f0 := HO8.froz (i * 4 + 2)
        have HFF := Lib.hid (HFS.out w8 2 (.int .i64 z) { x with n := z } HO8 (gr_trans HG7.out D8.grown) (by decide) rfl HXT.out)
        clear d8 HO8 D8 hcw7
        go_wp2
        go_ret
        exact HFF.out
      · subst hy0
        clear hcw7
        have k3 : w7.drew.cell? ⟨g4, i * 4 + 3, none⟩ = some (.int .i64 x.size) := (HO7.out.cells HX.out).2.2.2
        have HCD : Hid (dr.Can w7.drew c a n cap) := HC7.out.below (Below.refl _ _).drew
        have HSZ := Lib.hid (show w7.drew.heap.size = w7.heap.size from rfl)
        have HBL : Hid (Calls Tryz.prog 39 #[.pointer (some ⟨c, 0, none⟩), .int .i64 3] w7.drew fun e w' => ∃ k : Nat, e = .returned (.int .i64 (k : Int)) ∧ w'.cell? ⟨g4, i * 4 + 3, none⟩ = some (.int .i64 x.size) ∧ w'.frozen? ⟨g4, i * 4 + 3, none⟩ = false ∧ Hid (∀ z, DE a n cap w c (.returned (.slice (some ⟨g4, 0, none⟩) L.length c4)) (w'.setCell ⟨g4, i * 4 + 3, none⟩ (.int .i64 z)))) := by
          refine (below_can HCD.out 3 (by decide) (by decide)).mono ?_
          rintro e w8 ⟨k, rfl, hk, d8⟩
          have HO8 := HO7.out.drew.kept d8.grown (fun e => HGC.out (Option.some.inj e))
          exact ⟨k, rfl, (HO8.cells HX.out).2.2.2, HO8.froz _, fun z => HFS.out w8 3 (.int .i64 z) { x with size := z } HO8 (gr_trans (gr_drew HG7.out) d8.grown) (by decide) rfl HXT.out⟩
        clear HCD HO7 HC7 HG7 HFS
        go_upto_region 13 with fail
        go_region_with (go_at_call 39; refine HBL.out.mono ?_; rintro e w8 ⟨k, rfl, c8, f8, HD8⟩)
        all_goals (go_wp2_with fail; go_ret; exact HD8.out _)
      · subst hy0
        clear hcw7
        obtain ⟨k0, k1, k2, k3⟩ := HO7.out.cells HX.out
        have f0 := HO7.out.froz (i * 4 + 3)
        have HFF := Lib.hid (HFS.out w7 3 (.int .i64 4611686018427387904) { x with size := 4611686018427387904 } HO7.out HG7.out (by decide) rfl HXT.out)
        go_wp2
        go_ret
        exact HFF.out
end
set_option maxRecDepth 100000 in
theorem drawFree_any (a : Option Addr) (n cap : Nat) (w : World) (hb : dr.CodeB w a n) (hn : n ≤ 1048576) (hlt : ∀ x, a = some x → 0 < n → x.block < w.heap.size) :
    Calls Tryz.prog 6 #[.slice a n cap] w fun e w' => ∃ (g cp : Nat) (L : List Ex), e = .returned (.slice (some ⟨g, 0, none⟩) L.length cp) ∧ Ow w.heap.size w' g cp L ∧ Okn 3001 L ∧ Below w.heap.size w w' := by
  go_enter Tryz.func6, Tryz.ntmps6
  go_wp2_with (go_at_call 16; refine (dr.new_any a n cap w hb hn).mono ?_; rintro e w0 ⟨rfl, h0, rfl⟩; refine Hid.out ?_)
  refine Lib.hid ?_
  have hcan : dr.Can (w.alloc (.cells #[.slice a n cap, .int .i64 0, .int .i64 h0] 76)) w.heap.size a n cap := by
    refine ⟨hb.grown (World.grownBy_alloc w _ (some w.heap.size)) (fun x e h0 => Nat.ne_of_lt (hlt x e h0)), ⟨0, h0, ?_, Nat.zero_le _⟩, hn, hlt⟩
    exact World.rowIs_alloc w _ _ _ (fun i hi => by
      match i, hi with
      | 0, _ => rfl
      | 1, _ => rfl
      | 2, _ => rfl)
  go_wp2_with (go_at_call 17; refine (expr_can hcan (by simp)).mono ?_; rintro e w1 ⟨g, cp, L, rfl, ho, hk, hg⟩; refine Hid.out ?_)
  refine Lib.hid ?_
  have hz : (w.alloc (.cells #[.slice a n cap, .int .i64 0, .int .i64 h0] 76)).heap.size = w.heap.size + 1 := by simp
  have HF : Hid (∃ (g' cp' : Nat) (L' : List Ex), (Ending.returned (.slice (some ⟨g, 0, none⟩) L.length cp)) = .returned (.slice (some ⟨g', 0, none⟩) L'.length cp') ∧ Ow w.heap.size w1 g' cp' L' ∧ Okn 3001 L' ∧ Below w.heap.size w w1) :=
    ⟨g, cp, L, rfl, ho.mono (by rw [hz]; omega), hk, ((Below.refl _ w).alloc (Nat.le_refl _) _).grown hg (by rw [hz]; omega) (fun q e => by have := Option.some.inj e; omega)⟩
  clear ho hk hg hz hcan
  go_wp2_with fail
  go_ret
  exact HF.out
end Go.Proofs.YtifgaaemdojmpaaGreatDoor.pr

namespace Go.Proofs.YtifgaaemdojmpaaGreatDoor.pr
open Go.ChangeShapes Go.WideShapes Go.ChangeAt Go.RowKit Go.Deep
open ex (Tr Ex ok okAll cutP treeP freesT frees innT namesT exprK asc fadd strL StrR)
set_option linter.unusedVariables false
set_option linter.unusedSimpArgs false

/-! ### Free names of an expression, of a function and of a set around it -/

theorem fm_congr {α β : Type} {f g : α → List β} : ∀ l : List α, (∀ x ∈ l, f x = g x) → l.flatMap f = l.flatMap g
  | [], _ => rfl
  | x :: l, h => by rw [List.flatMap_cons, List.flatMap_cons, h x (by simp), fm_congr l fun y hy => h y (by simp [hy])]

section
variable {E E1 : Nat → Ex} {s : Nat}
theorem cut_shift (hE : ∀ i, E1 (i + s) = E i) : ∀ left p, cutP E1 (p + s) left = (cutP E p left).map fun ps => ps.map (· + s) := by
  intro left
  induction left using Nat.strongRecOn with
  | ind left ih =>
    intro p
    by_cases h0 : left = 0
    · subst h0; rw [ex.cut_zero, ex.cut_zero]; rfl
    · by_cases hb : (E p).size < 0 ∨ (left : Int) ≤ (E p).size
      · rw [ex.cut_bad (by omega) (by rw [hE]; exact hb), ex.cut_bad (by omega) hb]; rfl
      · rw [ex.cut_step (by omega) (by rw [hE]; exact hb), ex.cut_step (by omega) hb, hE, show p + s + ((E p).size.toNat + 1) = p + ((E p).size.toNat + 1) + s by omega, ih _ (by omega)]
        cases cutP E (p + ((E p).size.toNat + 1)) (left - ((E p).size.toNat + 1)) with
        | none => rfl
        | some qs => rfl
theorem ok_shift (hE : ∀ i, E1 (i + s) = E i) : ∀ r p len, ok E1 r (p + s) len = ok E r p len
  | 0, p, len => rfl
  | r + 1, p, len => by
    unfold ok
    rw [hE, show p + s + 1 = p + 1 + s by omega, cut_shift hE]
    cases cutP E (p + 1) (len - 1) with
    | none => rfl
    | some ps =>
      simp only [Option.map_some]
      have e1 : (ps.map (· + s)).map E1 = ps.map E := by rw [List.map_map]; exact List.map_congr_left fun q _ => hE q
      have e2 : ((ps.map (· + s)).all fun q => ok E1 r q ((E1 q).size.toNat + 1)) = ps.all fun q => ok E r q ((E q).size.toNat + 1) := by
        rw [List.all_map]
        congr 1
        funext q
        show ok E1 r (q + s) ((E1 (q + s)).size.toNat + 1) = _
        rw [hE, ok_shift hE r q]
      rw [e1, e2]
theorem tree_shift (hE : ∀ i, E1 (i + s) = E i) : ∀ r p, treeP E1 r (p + s) = treeP E r p
  | 0, p => by unfold treeP; rw [hE]
  | r + 1, p => by
    unfold treeP
    rw [hE, show p + s + 1 = p + 1 + s by omega, cut_shift hE]
    cases cutP E (p + 1) (E p).size.toNat with
    | none => rfl
    | some ps =>
      simp only [Option.map_some, Option.getD_some, List.map_map]
      congr 1
      exact List.map_congr_left fun q _ => tree_shift hE r q
end
section
variable {E : Nat → Ex}
theorem tree_kind (r p : Nat) : (treeP E r p).kind = (E p).kind := by cases r <;> rfl
theorem tree_text (r p : Nat) : (treeP E r p).text = (E p).text := by cases r <;> rfl
theorem names_tree (ps : List Nat) (r r' : Nat) : namesT (ps.map (treeP E r)) = namesT (ps.map (treeP E r')) := by
  induction ps with
  | nil => rfl
  | cons q ps ih =>
    unfold namesT at ih ⊢
    simp only [List.map_cons, List.filter_cons, tree_kind]
    split
    · simp only [List.map_cons, tree_text]
      rw [ih]
    · exact ih
theorem ok_inv {r p len : Nat} (h : ok E (r + 1) p len = true) : (E p).size = (len : Int) - 1 ∧ ∃ ps, cutP E (p + 1) (len - 1) = some ps ∧ ∀ q ∈ ps, ok E r q ((E q).size.toNat + 1) = true := by
  unfold ok at h
  simp only [Bool.and_eq_true, decide_eq_true_eq] at h
  obtain ⟨h1, _, h2⟩ := h
  cases hc : cutP E (p + 1) (len - 1) with
  | none => rw [hc] at h2; cases h2
  | some ps =>
    rw [hc] at h2
    simp only [Bool.and_eq_true] at h2
    exact ⟨h1, ps, rfl, fun q hq => List.all_eq_true.1 h2.2 q hq⟩
theorem tree_at {p len : Nat} {ps : List Nat} (hs : (E p).size = (len : Int) - 1) (hl : 0 < len) (h : cutP E (p + 1) (len - 1) = some ps) (r : Nat) : treeP E (r + 1) p = .mk (E p).kind (E p).text (E p).n (ps.map (treeP E r)) := by
  conv => lhs; unfold treeP
  rw [show (E p).size.toNat = len - 1 by omega, h]
  rfl
theorem fr_fuel : ∀ r p len, 0 < len → ok E r p len = true → ∀ r1 r2 b, r ≤ r1 → r ≤ r2 → freesT r1 (treeP E r2 p) b = freesT r (treeP E r p) b
  | 0, p, len, _, h => by cases h
  | r + 1, p, len, hl, h => by
    intro r1 r2 b h1 h2
    obtain ⟨r1, rfl⟩ : ∃ z, r1 = z + 1 := ⟨r1 - 1, by omega⟩
    obtain ⟨r2, rfl⟩ : ∃ z, r2 = z + 1 := ⟨r2 - 1, by omega⟩
    obtain ⟨hs, ps, hc, hq⟩ := ok_inv h
    rw [tree_at hs hl hc, tree_at hs hl hc, freesT, freesT]
    split
    · rfl
    · rw [List.flatMap_map, List.flatMap_map]
      have hin : ∀ b, innT (E p).kind (E p).text (E p).n (ps.map (treeP E r2)) b = innT (E p).kind (E p).text (E p).n (ps.map (treeP E r)) b := fun b => by unfold innT; rw [names_tree ps r2 r]
      have key : ∀ q ∈ ps, freesT r1 (treeP E r2 q) (if (treeP E r2 q).kind = 7 then b else innT (E p).kind (E p).text (E p).n (ps.map (treeP E r2)) b) = freesT r (treeP E r q) (if (treeP E r q).kind = 7 then b else innT (E p).kind (E p).text (E p).n (ps.map (treeP E r)) b) := fun q hm => by
        rw [tree_kind, tree_kind, hin, fr_fuel r q _ (by omega) (hq q hm) r1 r2 _ (by omega) (by omega)]
      exact fm_congr _ key
/-- Bound besides: what is bound so is not free. -/
theorem fr_bound (a : List UInt8) : ∀ (r : Nat) (t : Tr) (b1 b2 : List (List UInt8)), (∀ y, y ∈ b2 ↔ y ∈ b1 ∨ y = a) → ∀ x, x ∈ freesT r t b2 ↔ x ∈ freesT r t b1 ∧ x ≠ a
  | 0, t, b1, b2, h, x => by simp [freesT]
  | r + 1, .mk k t n ps, b1, b2, h, x => by
    rw [freesT, freesT]
    by_cases hk : k = 3 ∨ k = 7
    · rw [if_pos hk, if_pos hk]
      have h9 := h t.data.toList
      by_cases h1 : t.data.toList ∈ b1
      · rw [if_pos (h9.2 (.inl h1)), if_pos h1]; simp
      · rw [if_neg h1]
        by_cases h2 : t.data.toList = a
        · rw [if_pos (h9.2 (.inr h2))]
          constructor
          · intro h3; simp at h3
          · rintro ⟨h3, h4⟩
            rw [List.mem_singleton] at h3
            exact absurd (h3.trans h2) h4
        · rw [if_neg (fun h3 => (h9.1 h3).elim h1 h2)]
          constructor
          · intro h3
            rw [List.mem_singleton] at h3
            exact ⟨by rw [h3]; simp, by rw [h3]; exact h2⟩
          · exact fun h3 => h3.1
    · rw [if_neg hk, if_neg hk]
      have hin : ∀ y, y ∈ innT k t n ps b2 ↔ y ∈ innT k t n ps b1 ∨ y = a := fun y => by
        unfold innT
        split
        · rw [List.mem_append, List.mem_append, h y]
          constructor
          · rintro ((h1 | h1) | h1)
            · exact .inl (.inl h1)
            · exact .inr h1
            · exact .inl (.inr h1)
          · rintro ((h1 | h1) | h1)
            · exact .inl (.inl h1)
            · exact .inr h1
            · exact .inl (.inr h1)
        · split
          · rw [List.mem_append, List.mem_append, h y]
            constructor
            · rintro ((h1 | h1) | h1)
              · exact .inl (.inl h1)
              · exact .inr h1
              · exact .inl (.inr h1)
            · rintro ((h1 | h1) | h1)
              · exact .inl (.inl h1)
              · exact .inr h1
              · exact .inl (.inr h1)
          · exact h y
      have hq : ∀ q, x ∈ freesT r q (if q.kind = 7 then b2 else innT k t n ps b2) ↔ x ∈ freesT r q (if q.kind = 7 then b1 else innT k t n ps b1) ∧ x ≠ a := fun q => by
        by_cases h7 : q.kind = 7
        · rw [if_pos h7, if_pos h7]; exact fr_bound a r q b1 b2 h x
        · rw [if_neg h7, if_neg h7]; exact fr_bound a r q _ _ hin x
      rw [List.mem_flatMap, List.mem_flatMap]
      constructor
      · rintro ⟨q, h1, h2⟩
        exact ⟨⟨q, h1, ((hq q).1 h2).1⟩, ((hq q).1 h2).2⟩
      · rintro ⟨⟨q, h1, h2⟩, h3⟩
        exact ⟨q, h1, (hq q).2 ⟨h2, h3⟩⟩
theorem cut_one {p n : Nat} (hn : 0 < n) (h : (E p).size = (n : Int) - 1) : cutP E p n = some [p] := by
  rw [ex.cut_step hn (by omega), show n - ((E p).size.toNat + 1) = 0 by omega, ex.cut_zero]
  rfl
theorem okAll_inv {n : Nat} (h : okAll E n = true) : 0 < n ∧ n ≤ 3000 ∧ exprK (E 0).kind = true ∧ ok E 61 0 n = true := by
  unfold okAll at h
  simp only [Bool.and_eq_true, decide_eq_true_eq] at h
  exact ⟨h.1.1, h.1.2, h.2.1, h.2.2⟩
theorem frees_ok {n : Nat} (h : okAll E n = true) : frees E n = List.foldl fadd [] (freesT 61 (treeP E 61 0) []) := by unfold frees; rw [if_pos h]
theorem frees_no {n : Nat} (h : okAll E n = false) : frees E n = [] := by unfold frees; rw [if_neg (by rw [h]; decide)]
theorem frees_asc (E : Nat → Ex) (n : Nat) : asc (frees E n) := by
  unfold frees
  split
  · exact ex.fold_asc _ _ List.Pairwise.nil
  · exact List.Pairwise.nil
end
theorem eL_cons (x : Ex) (L : List Ex) (i : Nat) : eL (x :: L) (i + 1) = eL L i := rfl
theorem eL_two (x y : Ex) (L : List Ex) (i : Nat) : eL (x :: y :: L) (i + 2) = eL L i := rfl
def nA : List UInt8 := [97]
def aT : ByteArray := ⟨#[97]⟩
def funL (L : List Ex) : List Ex := ⟨13, aT, 0, (L.length : Int)⟩ :: L
def setL (L : List Ex) : List Ex := ⟨5, noT, 0, (L.length : Int) + 1⟩ :: ⟨6, aT, 0, (L.length : Int)⟩ :: L
def frL (L : List Ex) : List (List UInt8) := frees (eL L) L.length
theorem fun_law {L : List Ex} (h : okL L = true) (h1 : okL (funL L) = true) (x : List UInt8) : x ∈ frL (funL L) ↔ x ∈ frL L ∧ x ≠ nA := by
  unfold frL
  rw [frees_ok h, frees_ok h1, ex.fold_mem, ex.fold_mem]
  obtain ⟨hn, _, hk, ho⟩ := okAll_inv h
  obtain ⟨_, _, _, ho1⟩ := okAll_inv h1
  have hsz := (ok_inv ho).1
  have hE : ∀ i, eL (funL L) (i + 1) = eL L i := eL_cons _ L
  obtain ⟨hs1, ps, hc, hq⟩ := ok_inv ho1
  have hl1 : (funL L).length = L.length + 1 := rfl
  rw [hl1] at hc hs1
  have hcc : cutP (eL (funL L)) (0 + 1) (L.length + 1 - 1) = some [1] := by
    rw [cut_shift hE, show L.length + 1 - 1 = L.length by omega, cut_one hn hsz]; rfl
  rw [hcc] at hc
  cases hc
  have hq1 := hq 1 (by simp)
  have e0 : eL (funL L) 1 = eL L 0 := hE 0
  rw [e0] at hq1
  have hq2 : ok (eL L) 60 0 L.length = true := by
    have h9 := ok_shift hE 60 0 ((eL L 0).size.toNat + 1)
    rw [show 0 + 1 = 1 from rfl, hq1] at h9
    rw [show L.length = (eL L 0).size.toNat + 1 by omega]
    exact h9.symm
  rw [tree_at hs1 (by omega) hcc 60]
  show (x ∈ [] ∨ x ∈ freesT (60 + 1) (.mk 13 aT 0 _) []) ↔ _
  rw [freesT, if_neg (by decide)]
  have ht1 : treeP (eL (funL L)) 60 1 = treeP (eL L) 60 0 := tree_shift hE 60 0
  have hk7 : (treeP (eL L) 60 0).kind ≠ 7 := by
    rw [tree_kind]
    intro h7
    rw [h7] at hk
    revert hk
    decide
  simp only [List.map_cons, List.map_nil, List.flatMap_cons, List.flatMap_nil, List.append_nil, List.not_mem_nil, false_or, ht1]
  rw [if_neg hk7]
  have hin : innT 13 aT 0 [treeP (eL L) 60 0] [] = [nA] := by unfold innT; rw [if_pos rfl]; rfl
  rw [hin, fr_fuel 60 0 L.length hn hq2 61 61 [] (by omega) (by omega)]
  exact fr_bound nA 60 _ [] [nA] (fun y => by simp) x
theorem set_law {L : List Ex} (h : okL L = true) (h2 : okL (setL L) = true) : frL (setL L) = frL L := by
  unfold frL
  rw [frees_ok h, frees_ok h2]
  obtain ⟨hn, _, hk, ho⟩ := okAll_inv h
  obtain ⟨_, _, _, ho1⟩ := okAll_inv h2
  have hsz := (ok_inv ho).1
  have hE : ∀ i, eL (setL L) (i + 2) = eL L i := eL_two _ _ L
  obtain ⟨hs1, ps, hc, hq⟩ := ok_inv ho1
  have hl1 : (setL L).length = L.length + 2 := rfl
  rw [hl1] at hc hs1
  have b1 : (eL (setL L) 1).size = (L.length : Int) := rfl
  have hcc : cutP (eL (setL L)) (0 + 1) (L.length + 2 - 1) = some [1] := by
    rw [show L.length + 2 - 1 = L.length + 1 by omega]
    exact cut_one (by omega) (by rw [b1]; omega)
  rw [hcc] at hc
  cases hc
  have hq1 := hq 1 (by simp)
  rw [b1, show ((L.length : Int).toNat + 1) = L.length + 1 by omega] at hq1
  obtain ⟨hs2, qs, hd, hr⟩ := ok_inv hq1
  have hdd : cutP (eL (setL L)) (1 + 1) (L.length + 1 - 1) = some [2] := by
    have h9 := cut_shift hE L.length 0
    rw [cut_one hn hsz] at h9
    rw [show L.length + 1 - 1 = L.length by omega]
    exact h9
  rw [hdd] at hd
  cases hd
  have hr1 := hr 2 (by simp)
  have e0 : eL (setL L) 2 = eL L 0 := hE 0
  rw [e0] at hr1
  have hr2 : ok (eL L) 59 0 L.length = true := by
    have h9 := ok_shift hE 59 0 ((eL L 0).size.toNat + 1)
    rw [show 0 + 2 = 2 from rfl, hr1] at h9
    rw [show L.length = (eL L 0).size.toNat + 1 by omega]
    exact h9.symm
  rw [tree_at hs1 (by omega) hcc 60]
  congr 1
  show freesT (60 + 1) (.mk 5 noT 0 _) [] = _
  rw [freesT, if_neg (by decide)]
  have ht1 : treeP (eL (setL L)) 60 1 = .mk 6 aT 0 [treeP (eL L) 59 0] := by
    rw [tree_at hs2 (by omega) hdd 59]
    show Tr.mk 6 aT 0 [treeP (eL (setL L)) 59 (0 + 2)] = _
    rw [tree_shift hE 59 0]
  simp only [List.map_cons, List.map_nil, List.flatMap_cons, List.flatMap_nil, List.append_nil, ht1]
  rw [if_neg (by show ¬ (6 : Int) = 7; decide)]
  have hin : innT 5 noT 0 [.mk 6 aT 0 [treeP (eL L) 59 0]] [] = [] := by unfold innT; rw [if_neg (by decide), if_neg (by decide)]
  rw [hin]
  show freesT (59 + 1) (.mk 6 aT 0 _) [] = _
  rw [freesT, if_neg (by decide)]
  have hk7 : (treeP (eL L) 59 0).kind ≠ 7 := by
    rw [tree_kind]
    intro h7
    rw [h7] at hk
    revert hk
    decide
  have hin2 : innT 6 aT 0 [treeP (eL L) 59 0] [] = [] := by unfold innT; rw [if_neg (by decide), if_neg (by decide)]
  simp only [List.flatMap_cons, List.flatMap_nil, List.append_nil]
  rw [if_neg hk7, hin2]
  exact (fr_fuel 59 0 L.length hn hr2 61 61 [] (by omega) (by omega)).symm
theorem len_sub : ∀ (l1 l2 : List (List UInt8)), l1.Nodup → (∀ x ∈ l1, x ∈ l2) → l1.length ≤ l2.length
  | [], l2, _, _ => Nat.zero_le _
  | x :: l1, l2, hd, h => by
    obtain ⟨h1, h2⟩ := List.nodup_cons.1 hd
    have hx := h x (by simp)
    have := len_sub l1 (l2.erase x) h2 (fun y hy => (List.mem_erase_of_ne (fun e => h1 (by rw [← e]; exact hy))).2 (h y (by simp [hy])))
    rw [List.length_erase_of_mem hx] at this
    have hp : 0 < l2.length := List.length_pos_of_mem hx
    rw [List.length_cons]
    omega
theorem fun_len {L : List Ex} (h : okL L = true) (h1 : okL (funL L) = true) : (frL (funL L)).length ≤ (frL L).length := len_sub _ _ (ex.asc_nodup (frees_asc _ _)) fun x hx => ((fun_law h h1 x).1 hx).1
theorem asc_at {l : List (List UInt8)} (h : asc l) {i j : Nat} {x y : List UInt8} (hij : i < j) (hx : l[i]? = some x) (hy : l[j]? = some y) : x < y := by
  obtain ⟨hi, rfl⟩ := List.getElem?_eq_some_iff.1 hx
  obtain ⟨hj, rfl⟩ := List.getElem?_eq_some_iff.1 hy
  exact List.pairwise_iff_getElem.1 h i j hi hj hij
def qL : List Ex := [⟨3, ⟨#[113]⟩, 0, 0⟩]
theorem fold_len : ∀ (l o : List (List UInt8)), (l.foldl fadd o).length ≤ o.length + l.length
  | [], o => by simp
  | y :: l, o => by
    have h1 := fold_len l (fadd o y)
    have h2 := (ex.fadd_len y o).2
    simp only [List.foldl_cons, List.length_cons]
    omega
theorem sum_flat {f : Tr → List (List UInt8)} {g : Tr → Nat} : ∀ (l : List Tr), (∀ q ∈ l, (f q).length ≤ g q) → (l.flatMap f).length ≤ (l.map g).sum
  | [], _ => by simp
  | q :: l, h => by
    have h1 := h q (by simp)
    have h2 := sum_flat l (fun x hx => h x (by simp [hx]))
    simp only [List.flatMap_cons, List.length_append, List.map_cons, List.sum_cons]
    omega
theorem frees_wT : ∀ (r : Nat) (t : Tr) (b : List (List UInt8)), (freesT r t b).length ≤ ex.wT r t
  | 0, _, _ => by simp [freesT]
  | r + 1, .mk k t n ps, b => by
    rw [freesT, ex.wT]
    split
    · split <;> simp
      omega
    · have := sum_flat (g := ex.wT r) ps (fun q _ => frees_wT r q (if q.kind = 7 then b else innT k t n ps b))
      omega
theorem frees_few (E : Nat → Ex) (n : Nat) : (frees E n).length ≤ 24000 := by
  unfold frees
  split
  · next hok =>
    obtain ⟨hn0, hn1, hk, hok1⟩ := okAll_inv hok
    have h1 := fold_len (freesT 61 (treeP E 61 0) []) []
    have h2 := frees_wT 61 (treeP E 61 0) []
    have h3 := ex.wT_le hn1 61 0 n hok1 hn0 (by omega)
    simp only [List.length_nil] at h1
    omega
  · simp
end Go.Proofs.YtifgaaemdojmpaaGreatDoor.pr

namespace Go.Proofs.YtifgaaemdojmpaaGreatDoor.pr
open Go.ChangeShapes Go.WideShapes Go.ChangeAt Go.RowKit Go.Deep
open ex (Tr Ex okAll frees asc strL StrR xAt xAt_some Tabs)
set_option linter.unusedVariables false
set_option linter.unusedSimpArgs false

/-! ### FnFreeBound: its helpers -/

theorem big_any (a : Option Addr) (n cap : Nat) (w : World) : Calls Tryz.prog 4 #[.slice a n cap] w fun e w' => e = .returned (.bool (decide (1048576 < (n : Int)))) ∧ w' = w := by
  go_enter Tryz.func4, Tryz.ntmps4
  go_wp2
  go_ret
  exact ⟨rfl, rfl⟩
set_option maxRecDepth 100000 in
theorem lhas_any (xs : List (List UInt8)) (bb cap : Nat) (s : ByteArray) (w : World) (h2 : xs.length ≤ 1000000) (hc : ∀ i x, xs[i]? = some x → w.cell? ⟨bb, i, none⟩ = some (strL x)) :
    Calls Tryz.prog 9 #[.slice (some ⟨bb, 0, none⟩) xs.length cap, .string s] w fun e w' => e = .returned (.bool (decide (s.data.toList ∈ xs))) ∧ w' = w := by
  have HC : Hid (∀ i, i < xs.length → w.cell? ⟨bb, i, none⟩ = some (strL (xAt xs i))) := fun i hi => hc i _ (xAt_some hi)
  clear hc
  go_enter Tryz.func9, Tryz.ntmps9
  go_wp2
  go_loopw [5] (fun x wr => ∃ (i : Nat), i ≤ xs.length ∧ x = .int .i64 (i : Int) ∧ (∀ j, j < i → xAt xs j ≠ s.data.toList) ∧ wr = w) (fun x _ => xs.length - (intOf x).toNat)
  case atStart => exact ⟨0, Nat.zero_le _, rfl, fun j h => by omega, rfl⟩
  case round =>
    obtain ⟨i, hi, rfl, hno, rfl⟩ := hrel
    have HNO : Hid (∀ j, j < i → xAt xs j ≠ s.data.toList) := hno
    clear hno
    by_cases h : i < xs.length
    · have h' : (i : Int) < (xs.length : Int) := by omega
      have ce := HC.out i h
      rw [strL] at ce
      obtain ⟨u, hu⟩ : ∃ u : ByteArray, (⟨(xAt xs i).toArray⟩ : ByteArray) = u := ⟨_, rfl⟩
      rw [hu] at ce
      have HU : Hid (u.toList = xAt xs i) := by show _ = _; rw [← hu, ByteArray.toList_eq]
      clear hu
      cases he : (u.toList == s.toList) with
      | true =>
        have HY : Hid (decide (s.data.toList ∈ xs) = true) := by
          show _ = _
          rw [decide_eq_true_eq]
          have e : xAt xs i = s.data.toList := by rw [← HU.out, ← ByteArray.toList_eq]; simpa using he
          rw [← e]
          exact List.mem_of_getElem? (xAt_some h)
        go_wp2
        go_ret
        exact ⟨ret_bool HY.out.symm, rfl⟩
      | false =>
        have HX : Hid (xAt xs i ≠ s.data.toList) := by
          intro e
          rw [← HU.out, ← ByteArray.toList_eq] at e
          simp [e] at he
        go_wp2
        go_roundw
        case rel => exact ⟨i + 1, by omega, by go_num, fun j hj => by
          rcases Nat.lt_or_ge j i with h | h
          · exact HNO.out j h
          · obtain rfl : j = i := by omega
            exact HX.out, by first | rfl | trivial⟩
        case measure => simp [intOf]; omega
    · have h' : ¬ (i : Int) < (xs.length : Int) := by omega
      obtain rfl : i = xs.length := by omega
      have HY : Hid (decide (s.data.toList ∈ xs) = false) := by
        show _ = _
        rw [decide_eq_false_iff_not]
        intro hm
        obtain ⟨j, hj, e⟩ := List.mem_iff_getElem.1 hm
        exact HNO.out j hj (by simp [xAt, hj, e])
      go_wp2
      go_ret
      exact ⟨ret_bool HY.out.symm, rfl⟩


/-- A row of texts at its block. -/
def Cl (w : World) (g : Nat) (xs : List (List UInt8)) : Prop := ∀ i x, xs[i]? = some x → w.cell? ⟨g, i, none⟩ = some (strL x)
theorem Cl.below {w w' : World} {g : Nat} {xs : List (List UInt8)} (h : Cl w g xs) (hb : Below w.heap.size w w') : Cl w' g xs := fun i x hx => (hb.cell (p := ⟨g, i, none⟩) (World.block_lt_of_cell? _ _ (h i x hx))).trans (h i x hx)
theorem own_cl {base : Nat} {w : World} {v : Value} {xs : List (List UInt8)} (h : w.ownsRow base 9 1 v xs.length (xs.map strL)) (hv : v ≠ .slice none 0 0) : ∃ g c, v = .slice (some ⟨g, 0, none⟩) xs.length c ∧ Cl w g xs := by
  rcases h.2 with ⟨e2, _⟩ | ⟨g, cap, cur, e2, hb, hg, hc, hm, hz, ht⟩
  · exact absurd e2 hv
  · refine ⟨g, cap, e2, fun i x hx => ?_⟩
    have hi := (List.getElem?_eq_some_iff.1 hx).1
    have h1 : (xs.map strL)[i]? = some (strL x) := by rw [List.getElem?_map, hx]; rfl
    rw [← ht, List.getElem?_take_of_lt (by omega)] at h1
    simp only [World.cell?, hg]
    simpa using h1
section
variable {B : Nat} {w : World} {g c N : Nat} {L : List Ex}
theorem ifree_ow (h : Ow B w g c L) (hk : Okn N L) (hN : N ≤ 1048576) (T : Tabs w) :
    Calls Tryz.prog 5 #[.slice (some ⟨g, 0, none⟩) L.length c] w fun e w' => ∃ g' c', e = .returned (.slice (some ⟨g', 0, none⟩) (frL L).length c') ∧ Cl w' g' (frL L) ∧ Below w.heap.size w w' := by
  refine (ex.ifree_any (eL L) g L.length c (by have := hk.1; omega) ⟨h.le.1, by have := h.le.2; unfold maxLen at this; omega⟩ (okn_tx hk) w h.xs T).mono ?_
  rintro e w' ⟨v, h1, h2, h3, h4⟩
  obtain ⟨g', c', e1, h5⟩ := own_cl h2 h3
  subst e1
  exact ⟨g', c', h1, h5, h4⟩
theorem sfree_ow (h : Ow B w g c L) (hk : Okn N L) (hN : N ≤ 1048576) :
    Calls Tryz.prog 8 #[.slice (some ⟨g, 0, none⟩) L.length c] w fun e w' => ∃ a c', e = .returned (.slice a (frL L).length c') ∧ Below w.heap.size w w' := by
  refine (ex.sfree_any (eL L) g L.length c (by have := hk.1; omega) ⟨h.le.1, by have := h.le.2; unfold maxLen at this; omega⟩ (okn_tx hk) w h.xs).mono ?_
  rintro e w' ⟨v, h1, ⟨bb, off, cap, e1, _⟩, h4⟩
  subst e1
  exact ⟨_, _, h1, h4⟩
end
theorem Ow.two (w : World) (x y : Ex) : Ow w.heap.size (w.alloc (.cells #[.int .i64 x.kind, .string x.text, .int .i64 x.n, .int .i64 x.size, .int .i64 y.kind, .string y.text, .int .i64 y.n, .int .i64 y.size] 27)) w.heap.size 2 [x, y] := ⟨⟨rfl, .inr ⟨w.heap.size, 2, _, rfl, Nat.le_refl _, blk_alloc_new _ _, Nat.le_refl _, by unfold maxLen; omega, rfl, rfl⟩⟩⟩
theorem fresh_app {B : Nat} {W W1 : World} {g c k : Nat} {p L M : List Ex} (h : Ow B W g c L) (hp : Ow W.heap.size W1 W.heap.size k p) (hk : p.length = k) (hb : Below W.heap.size W W1) (hM : p ++ L = M) (hz : p.length + L.length ≤ 200000000) :
    ∃ g' c' W2, (Builtin.append_ #[28, 28] 28 #[.slice (some ⟨W.heap.size, 0, none⟩) k k, .slice (some ⟨g, 0, none⟩) L.length c]).run Tryz.prog W1 = .ok (.slice (some ⟨g', 0, none⟩) M.length c') W2 ∧ Ow W.heap.size W2 g' c' M ∧ Below W.heap.size W W2 := by
  subst hk hM
  obtain ⟨g4, c4, w4, hr4, how4, hg4, hloc4⟩ := run_appE (m := L) hp hb.size 28 ⟨g, 0, none⟩ c (h.below hb).read hz
  exact ⟨g4, c4, w4, hr4, how4, hb.grown hg4 hb.size (fun q hq => by have := Option.some.inj hq; omega)⟩
theorem frL_q : frL qL = [[113]] := by
  have h1 : okL qL = true := by kernel_rfl
  unfold frL
  rw [frees_ok h1]
  rfl
theorem okn_q : Okn 1 qL := ⟨Nat.le_refl _, fun x hx => by unfold qL at hx; simp only [List.mem_singleton] at hx; subst hx; show (⟨#[113]⟩ : ByteArray).size ≤ 4000; decide⟩
theorem okn_fun {L : List Ex} (h : Okn 3001 L) : Okn 3002 (funL L) := ⟨by show (_ :: L).length ≤ _; rw [List.length_cons]; have := h.1; omega, fun x hx => by
  unfold funL at hx
  rcases List.mem_cons.1 hx with rfl | hx
  · show aT.size ≤ 4000; decide
  · exact h.2 x hx⟩
theorem okn_set2 {L : List Ex} (h : Okn 3001 L) : Okn 3003 (setL L) := ⟨by show (_ :: _ :: L).length ≤ _; rw [List.length_cons, List.length_cons]; have := h.1; omega, fun x hx => by
  unfold setL at hx
  rcases List.mem_cons.1 hx with rfl | hx
  · show noT.size ≤ 4000; decide
  · rcases List.mem_cons.1 hx with rfl | hx
    · show aT.size ≤ 4000; decide
    · exact h.2 x hx⟩
end Go.Proofs.YtifgaaemdojmpaaGreatDoor.pr
