import Derived.Test.YtifgaaemdojmpaaGreatDoorG03
import Derived.Maps.AppendAt
import Derived.Deep.Light
namespace Go.Proofs.YtifgaaemdojmpaaGreatDoor.ex
open Go.ChangeShapes Go.WideShapes Go.ChangeAt Go.RowKit Go.Deep Go.Maps
set_option linter.unusedVariables false
set_option linter.unusedSimpArgs false

/-- The tables lie in their blocks. -/
structure Tabs (w : World) : Prop where
  esc : es.EscB w
  bet : BetB w
  shp : ShpB w
theorem Tabs.below {w w' : World} (h : Tabs w) (hb : Below w.heap.size w w') : Tabs w' := ⟨h.esc.below hb, h.bet.below hb, h.shp.below hb⟩

theorem head_at {e : Ex} {v : Bool} (h : headB e = v) (z : Int) (hs : e.text.size ≤ 1048576) (w : World) (T : Tabs w) :
    Calls Tryz.prog 48 #[.agg #[.int .i64 e.kind, .string e.text, .int .i64 e.n, .int .i64 z]] w fun e' w' => e' = .returned (.bool v) ∧ Below w.heap.size w w' := by
  have h' : headB ⟨e.kind, e.text, e.n, z⟩ = v := h
  exact h' ▸ head_any e.kind e.n z e.text hs w T.esc T.bet T.shp

theorem fit_at {E : Nat → Ex} {b n C : Nat} {ps : List Nat} {v : Bool} {A lo up : Int} (h : pf A lo up [] (ps.map E) = v) (av : Option Addr) (cap : Nat) (u m : Int) (w : World) (hX : XsB w b n E) (hps : ∀ q ∈ ps, q < n) (ht : ∀ i, i < n → (E i).text.size ≤ 1048576) (hP : PsB w av (ps.map (partV E b C))) (hlen : ps.length ≤ 3000) (hc : ps.length ≤ cap ∧ cap ≤ 9223372036854775807) :
    Calls Tryz.prog 49 #[.slice av ps.length cap, .agg #[.int .i64 A, .int .i64 lo, .int .i64 up, .int .i64 u, .int .i64 m]] w fun e w' => e = .returned (.bool v) ∧ Below w.heap.size w w' := h ▸ fit_any E b n C ps av cap A lo up u m w hX hps ht hP hlen hc

theorem cut_no {E : Nat → Ex} {b n p len cap : Nat} {a : Option Addr} {w : World} (h : cutP E p len = none) (hX : XsB w b n E) (hp : p + len ≤ n) (hn : n ≤ 3000) (hc : len ≤ cap ∧ cap ≤ 9223372036854775807) (ha : len = 0 ∨ a = some ⟨b, p * 4, none⟩) :
    Calls Tryz.prog 29 #[.slice a len cap, SZX] w fun e w' => e = .returned (.tuple #[.slice none 0 0, .bool false]) ∧ Below w.heap.size w w' := by
  refine (cut_any E b n p len cap a w hX hp hn hc ha).mono ?_
  rintro e w' ⟨⟨_, rfl⟩ | ⟨ps, v, h1, _⟩, hl⟩
  · exact ⟨rfl, hl⟩
  · rw [h] at h1; cases h1

theorem cut_yes {E : Nat → Ex} {b n p len cap : Nat} {a : Option Addr} {w : World} {ps : List Nat} (h : cutP E p len = some ps) (hX : XsB w b n E) (hp : p + len ≤ n) (hn : n ≤ 3000) (hc : len ≤ cap ∧ cap ≤ 9223372036854775807) (ha : len = 0 ∨ a = some ⟨b, p * 4, none⟩) :
    Calls Tryz.prog 29 #[.slice a len cap, SZX] w fun e w' => ∃ av cap', e = .returned (.tuple #[.slice av ps.length cap', .bool true]) ∧ (ps.length ≤ cap' ∧ cap' ≤ 9223372036854775807) ∧ PsB w' av (ps.map (partV E b (p + cap))) ∧ Below w.heap.size w w' := by
  refine (cut_any E b n p len cap a w hX hp hn hc ha).mono ?_
  rintro e w' ⟨⟨h1, _⟩ | ⟨qs, v, h1, rfl, ho⟩, hl⟩
  · rw [h] at h1; cases h1
  · rw [h] at h1
    cases h1
    obtain ⟨_, av, cap', rfl, h2, h3, h4⟩ := PsB.own ho
    exact ⟨av, cap', rfl, ⟨h2, by unfold maxLen at h3; omega⟩, h4, hl⟩

theorem ok_size {E : Nat → Ex} {r p len : Nat} (h : ¬ (E p).size = (len : Int) - 1) : ok E (r + 1) p len = false := by simp [ok, h]
theorem ok_head {E : Nat → Ex} {r p len : Nat} (h : headB (E p) = false) : ok E (r + 1) p len = false := by simp [ok, h]
theorem ok_cut {E : Nat → Ex} {r p len : Nat} (h : cutP E (p + 1) (len - 1) = none) : ok E (r + 1) p len = false := by simp [ok, h]
theorem ok_fit {E : Nat → Ex} {r p len : Nat} {ps : List Nat} (h : cutP E (p + 1) (len - 1) = some ps) (hf : pf (aheadOf (E p).kind) (leastOf (E p).kind) (mostOf (E p).kind) [] (ps.map E) = false) : ok E (r + 1) p len = false := by simp [ok, h, hf]
theorem ok_parts {E : Nat → Ex} {r p len : Nat} {ps : List Nat} (hs : (E p).size = (len : Int) - 1) (hh : headB (E p) = true) (h : cutP E (p + 1) (len - 1) = some ps) (hf : pf (aheadOf (E p).kind) (leastOf (E p).kind) (mostOf (E p).kind) [] (ps.map E) = true) : ok E (r + 1) p len = ps.all fun q => ok E r q ((E q).size.toNat + 1) := by simp [ok, hs, hh, h, hf]

theorem all_no {E : Nat → Ex} {r j : Nat} {ps : List Nat} (hj : j < ps.length) (h : ok E r ps[j] ((E ps[j]).size.toNat + 1) = false) : (ps.all fun q => ok E r q ((E q).size.toNat + 1)) = false := by
  rw [List.all_eq_false]
  exact ⟨ps[j], List.getElem_mem hj, by simp [h]⟩
def AllOk (E : Nat → Ex) (r : Nat) (ps : List Nat) (j : Nat) : Prop := ∀ q (h : q < ps.length), q < j → ok E r ps[q] ((E ps[q]).size.toNat + 1) = true
theorem all_yes {E : Nat → Ex} {r : Nat} {ps : List Nat} (h : AllOk E r ps ps.length) : (ps.all fun q => ok E r q ((E q).size.toNat + 1)) = true := by
  rw [List.all_eq_true]
  intro x hx
  obtain ⟨i, hi, rfl⟩ := List.getElem_of_mem hx
  exact h i hi hi

theorem four_new (w : World) (a b c d : Value) (e : TypeId) : (w.alloc (.cells #[a, b, c, d] e)).cell? ⟨w.heap.size, 0, none⟩ = some a := by simp [go_sem]

set_option maxRecDepth 100000 in
set_option maxHeartbeats 1000000 in
theorem node_any (E : Nat → Ex) (b n : Nat) (hn : n ≤ 3000) (ht : ∀ i, i < n → (E i).text.size ≤ 1048576) : ∀ (r : Nat), r ≤ 61 → ∀ (p len cap : Nat) (w : World), XsB w b n E → Tabs w → 0 < len → p + len ≤ n → len ≤ cap → cap ≤ 9223372036854775807 →
    Calls Tryz.prog 22 #[.slice (some ⟨b, p * 4, none⟩) len cap, .int .i64 (61 - (r : Int))] w fun e w' => e = .returned (.bool (ok E r p len)) ∧ Below w.heap.size w w' := by
  intro r
  induction r with
  | zero =>
    intro _ p len cap w hX T hl hp hc hcap
    obtain ⟨g0, g1, g2, g3⟩ := hX p (by omega)
    have hl' : (0 : Int) < (len : Int) := by omega
    go_enter Tryz.func22, Tryz.ntmps22
    go_wp2_with fail
    go_ret
    exact ⟨rfl, (Below.refl _ _).alloc (Nat.le_refl _) _⟩
  | succ r ih =>
    intro hr p len cap w hX T hl hp hc hcap
    obtain ⟨g0, g1, g2, g3⟩ := hX p (by omega)
    have hl' : (0 : Int) < (len : Int) := by omega
    obtain ⟨ar, har⟩ : ∃ ar : Int, (61 - ((r + 1 : Nat) : Int)) = ar := ⟨_, rfl⟩
    rw [har]
    have har0 : ¬ (60 : Int) < ar := by omega
    have har1 : ar + 1 = 61 - (r : Int) := by omega
    have har2 : 0 ≤ ar := by omega
    clear har
    by_cases hsz : (E p).size = (len : Int) - 1
    · have HZ : Hid ((E p).size = (len : Int) - 1) := hsz
      rw [hsz] at g3
      clear hsz
      have b0 : Below w.heap.size w (w.alloc (.cells #[.int .i64 (E p).kind, .string (E p).text, .int .i64 (E p).n, .int .i64 ((len : Int) - 1)] 27)) := (Below.refl _ _).alloc (Nat.le_refl _) _
      have hts : (E p).text.size ≤ 1048576 := ht p (by omega)
      have T0 := T.below b0
      cases hh : headB (E p) with
      | false =>
        have HO : Hid (ok E (r + 1) p len = false) := ok_head hh
        go_enter Tryz.func22, Tryz.ntmps22
        go_wp2_with (go_at_call 48; refine (head_at hh _ hts _ T0).mono ?_; rintro e w1 ⟨rfl, hl1⟩)
        go_ret
        exact ⟨ret_bool HO.out.symm, b0.trans (hl1.mono b0.size)⟩
      | true =>
        have hok : okKind (E p).kind = true := by simp only [headB, Bool.and_eq_true] at hh; exact hh.1
        simp only [okKind, decide_eq_true_eq] at hok
        obtain ⟨m, hm⟩ : ∃ m : Nat, (E p).kind = m := ⟨(E p).kind.toNat, by omega⟩
        have HM : Hid ((E p).kind = m) := hm
        have hm1 : 1 ≤ m ∧ m ≤ 20 := by omega
        have hm21 : (m : Int) < 21 := by omega
        have hX0 := hX.below b0
        have hbox : (w.alloc (.cells #[.int .i64 (E p).kind, .string (E p).text, .int .i64 (E p).n, .int .i64 ((len : Int) - 1)] 27)).cell? ⟨w.heap.size, 0, none⟩ = some (.int .i64 (E p).kind) := four_new _ _ _ _ _ _
        have hs0 : w.heap.size < (w.alloc (.cells #[.int .i64 (E p).kind, .string (E p).text, .int .i64 (E p).n, .int .i64 ((len : Int) - 1)] 27)).heap.size := by simp
        obtain ⟨a1, ha1⟩ : ∃ a1, (if cap = 1 then some (⟨b, p * 4, none⟩ : Addr) else some ⟨b, p * 4 + 4, none⟩) = a1 := ⟨_, rfl⟩
        have HA1 : Hid (len - 1 = 0 ∨ a1 = some ⟨b, (p + 1) * 4, none⟩) := by
          show _ ∨ _
          rw [← ha1, show (p + 1) * 4 = p * 4 + 4 by omega]
          split
          · left; omega
          · right; rfl
        clear hm hok
        cases hcp : cutP E (p + 1) (len - 1) with
        | none =>
          have HO : Hid (ok E (r + 1) p len = false) := ok_cut hcp
          have HC : Hid (cutP E (p + 1) (len - 1) = none) := hcp
          clear hcp
          go_enter Tryz.func22, Tryz.ntmps22
          go_wp2_with (first
            | (go_at_call 48; refine (head_at hh _ hts _ T0).mono ?_; rintro e w1 ⟨rfl, hl1⟩; have hX1 := hX0.below hl1)
            | (go_at_call 29; refine (cut_no HC.out hX1 (by omega) hn (by omega) HA1.out).mono ?_; rintro e w2 ⟨rfl, hl2⟩))
          go_ret
          exact ⟨ret_bool HO.out.symm, (b0.trans (hl1.mono b0.size)).trans (hl2.mono (Nat.le_trans b0.size hl1.size))⟩
        | some ps =>
          have HC : Hid (cutP E (p + 1) (len - 1) = some ps) := hcp
          obtain ⟨hfits, hpl⟩ := cut_fits _ _ _ hcp
          have HFT : Hid (∀ q ∈ ps, Fits E (p + 1) (p + 1 + (len - 1)) q) := hfits
          have hpsn : ∀ q ∈ ps, q < n := fun q hq => by obtain ⟨h1, h2, h3⟩ := HFT.out q hq; omega
          clear hcp hfits
          cases hf : pf (aheadOf (E p).kind) (leastOf (E p).kind) (mostOf (E p).kind) [] (ps.map E) with
          | false =>
            have HO : Hid (ok E (r + 1) p len = false) := ok_fit HC.out hf
            rw [HM.out] at hf
            go_enter Tryz.func22, Tryz.ntmps22
            go_wp2_with (go_at_call 48; refine (head_at hh _ hts _ T0).mono ?_; rintro e w1 ⟨rfl, hl1⟩)
            have hX1 := hX0.below hl1
            have T1 := T0.below hl1
            have B1 := b0.trans (hl1.mono b0.size)
            have hbox1 := (hl1.cell (p := ⟨w.heap.size, 0, none⟩) hs0).trans hbox
            have hs1 : w.heap.size < w1.heap.size := Nat.lt_of_lt_of_le hs0 hl1.size
            clear hX0 T0 hbox hs0 hl1 b0
            go_wp2_with (go_at_call 29; refine (cut_yes HC.out hX1 (by omega) hn (by omega) HA1.out).mono ?_; rintro e w2 ⟨av2, cap2, rfl, hcap2, hP2, hl2⟩; have hX2 := hX1.below hl2; have T2 := T1.below hl2; have B2 := B1.trans (hl2.mono B1.size); have hbox2 := (hl2.cell (p := ⟨w.heap.size, 0, none⟩) hs1).trans hbox1; have hs2 : w.heap.size < w2.heap.size := Nat.lt_of_lt_of_le hs1 hl2.size; rw [HM.out] at hbox2; obtain ⟨c0, c1, c2, c3, c4⟩ := T2.shp.cells hm1; clear hX1 T1 hbox1 hl2 hs1 B1)
            go_wp2_with (go_at_call 49; refine (fit_at hf _ _ _ _ w2 hX2 hpsn ht hP2 (by omega) hcap2).mono ?_; rintro e w3 ⟨rfl, hl3⟩)
            go_ret
            exact ⟨ret_bool HO.out.symm, B2.trans (hl3.mono B2.size)⟩
          | true =>
            have HO : Hid (ok E (r + 1) p len = ps.all fun q => ok E r q ((E q).size.toNat + 1)) := ok_parts HZ.out hh HC.out hf
            rw [HM.out] at hf
            go_enter Tryz.func22, Tryz.ntmps22
            go_wp2_with (go_at_call 48; refine (head_at hh _ hts _ T0).mono ?_; rintro e w1 ⟨rfl, hl1⟩)
            have hX1 := hX0.below hl1
            have T1 := T0.below hl1
            have B1 := b0.trans (hl1.mono b0.size)
            have hbox1 := (hl1.cell (p := ⟨w.heap.size, 0, none⟩) hs0).trans hbox
            have hs1 : w.heap.size < w1.heap.size := Nat.lt_of_lt_of_le hs0 hl1.size
            clear hX0 T0 hbox hs0 hl1 b0
            go_wp2_with (go_at_call 29; refine (cut_yes HC.out hX1 (by omega) hn (by omega) HA1.out).mono ?_; rintro e w2 ⟨av2, cap2, rfl, hcap2, hP2, hl2⟩; have hX2 := hX1.below hl2; have T2 := T1.below hl2; have B2 := B1.trans (hl2.mono B1.size); have hbox2 := (hl2.cell (p := ⟨w.heap.size, 0, none⟩) hs1).trans hbox1; have hs2 : w.heap.size < w2.heap.size := Nat.lt_of_lt_of_le hs1 hl2.size; rw [HM.out] at hbox2; obtain ⟨c0, c1, c2, c3, c4⟩ := T2.shp.cells hm1; clear hX1 T1 hbox1 hl2 hs1 B1)
            go_wp2_with (go_at_call 49; refine (fit_at hf _ _ _ _ w2 hX2 hpsn ht hP2 (by omega) hcap2).mono ?_; rintro e w3 ⟨rfl, hl3⟩)
            have hX3 := hX2.below hl3
            have T3 := T2.below hl3
            have B3 := B2.trans (hl3.mono B2.size)
            obtain ⟨bb, off, hav, hP3⟩ := hP2.below hl3
            have hav' : ps.length = 0 ∨ av2 = some ⟨bb, off, none⟩ := by simpa using hav
            have hcell : ∀ i (h : i < ps.length), w3.cell? ⟨bb, off + i, none⟩ = some (partV E b (p + 1 + (cap - 1)) ps[i]) := fun i h => hP3 i _ (by simp [h])
            clear hX2 T2 hl3 hP2 B2 hP3 hav hbox2 hs2 c0 c1 c2 c3 c4
            go_loopw [9, 47] (fun _ x wr => ∃ j : Nat, j ≤ ps.length ∧ x = .int .i64 (j : Int) ∧ AllOk E r ps j ∧ Below w3.heap.size w3 wr) (fun _ x _ => ps.length - (intOf x).toNat)
            case atStart => exact ⟨0, Nat.zero_le _, rfl, fun q h hq => by omega, Below.refl _ _⟩
            case round =>
              obtain ⟨j, hj, rfl, hall, hbel⟩ := hrel
              have HA : Hid (AllOk E r ps j) := hall
              clear hall
              by_cases hjl : j < ps.length
              · have hjl' : (j : Int) < (ps.length : Int) := by omega
                obtain rfl := hav'.resolve_left (by omega)
                have c0 := hcell j hjl
                have c0r : wr.cell? ⟨bb, off + j, none⟩ = some (partV E b (p + 1 + (cap - 1)) ps[j]) := (hbel.cell (p := ⟨bb, _, none⟩) (World.block_lt_of_cell? _ _ c0)).trans c0
                unfold partV at c0r
                obtain ⟨f1, f2, f3⟩ := HFT.out _ (List.getElem_mem hjl)
                have HI := ih (by omega) ps[j] ((E ps[j]).size.toNat + 1) (p + 1 + (cap - 1) - ps[j]) wr (hX3.below hbel) (T3.below hbel) (by omega) (by omega) (by omega) (by omega)
                obtain ⟨Z, hZ⟩ : ∃ Z, (E ps[j]).size.toNat + 1 = Z := ⟨_, rfl⟩
                obtain ⟨Y, hY⟩ : ∃ Y, p + 1 + (cap - 1) - ps[j] = Y := ⟨_, rfl⟩
                rw [hZ, hY] at c0r HI
                have HI' : Hid (Calls Tryz.prog 22 #[.slice (some ⟨b, ps[j] * 4, none⟩) Z Y, .int .i64 (61 - (r : Int))] wr fun e w' => e = .returned (.bool (ok E r ps[j] Z)) ∧ Below wr.heap.size wr w') := HI
                clear HI c0
                cases hx : ok E r ps[j] Z with
                | true =>
                  rw [hx] at HI'
                  go_wp2_with (go_at_call 22; refine HI'.out.mono ?_; rintro e w4 ⟨rfl, hl4⟩)
                  go_roundw
                  case rel => exact ⟨j + 1, by omega, by go_num, fun q h hq => by
                    rcases Nat.lt_or_ge q j with h' | h'
                    · exact HA.out q h h'
                    · obtain rfl : q = j := by omega
                      rw [hZ]; exact hx, hbel.trans (hl4.mono hbel.size)⟩
                  case measure => simp [intOf]; omega
                | false =>
                  have HN : Hid (ok E (r + 1) p len = false) := by show _ = _; rw [HO.out]; exact all_no hjl (by rw [hZ]; exact hx)
                  rw [hx] at HI'
                  go_wp2_with (go_at_call 22; refine HI'.out.mono ?_; rintro e w4 ⟨rfl, hl4⟩)
                  go_ret
                  exact ⟨ret_bool HN.out.symm, B3.trans ((hbel.trans (hl4.mono hbel.size)).mono B3.size)⟩
              · have hjl' : ¬ (j : Int) < (ps.length : Int) := by omega
                obtain rfl : j = ps.length := by omega
                have HN : Hid (ok E (r + 1) p len = true) := by show _ = _; rw [HO.out]; exact all_yes HA.out
                go_wp2_with fail
                go_ret
                exact ⟨ret_bool HN.out.symm, B3.trans (hbel.mono B3.size)⟩
    · have HO : Hid (ok E (r + 1) p len = false) := ok_size hsz
      have hsb : ((E p).size == (len : Int) - 1) = false := by simpa using hsz
      go_enter Tryz.func22, Tryz.ntmps22
      go_wp2_with fail
      go_ret
      exact ⟨ret_bool HO.out.symm, (Below.refl _ _).alloc (Nat.le_refl _) _⟩

end Go.Proofs.YtifgaaemdojmpaaGreatDoor.ex

namespace Go.Proofs.YtifgaaemdojmpaaGreatDoor.ex
open Go.ChangeShapes Go.WideShapes Go.ChangeAt Go.RowKit Go.Deep
set_option linter.unusedVariables false
set_option linter.unusedSimpArgs false

/-! ### Trees -/

inductive Tr where
  | mk (kind : Int) (text : ByteArray) (n : Int) (parts : List Tr)

def Tr.kind : Tr → Int | .mk k _ _ _ => k
def Tr.text : Tr → ByteArray | .mk _ t _ _ => t

/-- The tree of the node that begins at a place. -/
def treeP (E : Nat → Ex) : Nat → Nat → Tr
  | 0, p => .mk (E p).kind (E p).text (E p).n []
  | r + 1, p => .mk (E p).kind (E p).text (E p).n (((cutP E (p + 1) (E p).size.toNat).getD []).map (treeP E r))

/-- A value is a tree, whose rows lie in blocks of a kind. -/
def Nd (w : World) (O : Nat → Prop) : Nat → Value → Tr → Prop
  | 0, _, _ => False
  | r + 1, v, .mk k t n ps => (∃ (T : TypeId) (x : Value), v = .iface T x) ∧ ∃ vs : List Value, vs.length = ps.length ∧ (∀ (i : Nat) (x : Value) (y : Tr), vs[i]? = some x → ps[i]? = some y → Nd w O r x y) ∧ NodeV w O t n k vs v

theorem Nd.kept {w w' : World} {O O' : Nat → Prop} (hk : ∀ bb, O bb → w'.heap[bb]? = w.heap[bb]?) (hO : ∀ bb, O bb → O' bb) : ∀ (r : Nat) {v : Value} {t : Tr}, Nd w O r v t → Nd w' O' r v t
  | 0, _, _, h => h.elim
  | r + 1, v, .mk k t n ps, h => by
    obtain ⟨hi, vs, h1, h2, h3⟩ := h
    exact ⟨hi, vs, h1, fun i x y hx hy => Nd.kept hk hO r (h2 i x y hx hy), h3.kept hk hO⟩

theorem Nd.iface {w : World} {O : Nat → Prop} {r : Nat} {v : Value} {t : Tr} (h : Nd w O r v t) : ∃ (T : TypeId) (x : Value), v = .iface T x := by
  cases r with
  | zero => exact h.elim
  | succ r => cases t; exact h.1

/-- How many parts a kind has, where it is right. -/
def partsOk (k : Int) (m : Nat) : Prop := (k = 1 ∨ k = 2 ∨ k = 3 ∨ k = 7 → m = 0) ∧ (k = 6 ∨ k = 13 ∨ k = 17 ∨ k = 19 ∨ k = 20 → m = 1) ∧ (k = 9 ∨ k = 10 ∨ k = 11 ∨ k = 18 → m = 2) ∧ (k = 12 → m = 3) ∧ (k = 15 → m ≤ 1) ∧ (k = 16 → m = 1 ∨ m = 2) ∧ (k = 8 ∨ k = 14 → 1 ≤ m)

set_option maxRecDepth 100000 in
set_option maxHeartbeats 1000000 in
theorem nodeOf_any (k n s : Int) (t : ByteArray) (vs : List Value) (hk : okKind k = true) (hp : partsOk k vs.length) (hv : ∀ v ∈ vs, ∃ (T : TypeId) (x : Value), v = .iface T x) (O : Nat → Prop) (a : Option Addr) (cap : Nat) (w : World) (hO : ∀ bb, O bb → bb < w.heap.size) (hP : PsO w O a vs) (hc : vs.length ≤ cap ∧ cap ≤ maxLen) (hs : vs.length ≤ 3000) :
    Calls Tryz.prog 31 #[.agg #[.int .i64 k, .string t, .int .i64 n, .int .i64 s], .slice a vs.length cap] w fun e w' => ∃ v, e = .returned v ∧ NodeV w' O t n k vs v ∧ Below w.heap.size w w' := by
  simp only [okKind, decide_eq_true_eq] at hk
  obtain ⟨p0, p1, p2, p3, p15, p16, p8⟩ := hp
  have hk' : k = 1 ∨ k = 2 ∨ k = 3 ∨ k = 4 ∨ k = 5 ∨ k = 6 ∨ k = 7 ∨ k = 8 ∨ k = 9 ∨ k = 10 ∨ k = 11 ∨ k = 12 ∨ k = 13 ∨ k = 14 ∨ k = 15 ∨ k = 16 ∨ k = 17 ∨ k = 18 ∨ k = 19 ∨ k = 20 := by omega
  have one : vs.length = 1 → ∃ T x, vs = [Value.iface T x] := by
    intro h
    match vs, h with
    | [v], _ => obtain ⟨T, x, rfl⟩ := hv v (by simp); exact ⟨T, x, rfl⟩
  have two : vs.length = 2 → ∃ T x T' y, vs = [Value.iface T x, Value.iface T' y] := by
    intro h
    match vs, h with
    | [v, u], _ => obtain ⟨T, x, rfl⟩ := hv v (by simp); obtain ⟨T', y, rfl⟩ := hv u (by simp); exact ⟨T, x, T', y, rfl⟩
  have last : 1 ≤ vs.length → ∃ us T x, vs = us ++ [Value.iface T x] := by
    intro h
    have hne : vs ≠ [] := by intro e; rw [e] at h; simp at h
    obtain ⟨T, x, e⟩ := hv (vs.getLast hne) (List.getLast_mem hne)
    exact ⟨vs.dropLast, T, x, by rw [← e]; exact (List.dropLast_concat_getLast hne).symm⟩
  rcases hk' with rfl | rfl | rfl | rfl | rfl | rfl | rfl | rfl | rfl | rfl | rfl | rfl | rfl | rfl | rfl | rfl | rfl | rfl | rfl | rfl
  · obtain rfl : vs = [] := List.length_eq_zero_iff.1 (p0 (by omega)); exact node1_any t n s O a cap w hO hP hc hs
  · obtain rfl : vs = [] := List.length_eq_zero_iff.1 (p0 (by omega)); exact node2_any t n s O a cap w hO hP hc hs
  · obtain rfl : vs = [] := List.length_eq_zero_iff.1 (p0 (by omega)); exact node3_any t n s O a cap w hO hP hc hs
  · exact node4_any t n s vs O a cap w hO hP hc hs
  · exact node5_any t n s vs O a cap w hO hP hc hs
  · obtain ⟨T, x, rfl⟩ := one (p1 (by omega)); exact node6_any t n s T x O a cap w hO hP hc hs
  · obtain rfl : vs = [] := List.length_eq_zero_iff.1 (p0 (by omega)); exact node7_any t n s O a cap w hO hP hc hs
  · obtain ⟨us, T, x, rfl⟩ := last (p8 (by omega)); have := node8_any t n s us T x O a cap w hO hP hc hs; simpa using this
  · obtain ⟨T, x, T', y, rfl⟩ := two (p2 (by omega)); exact node9_any t n s T x T' y O a cap w hO hP hc hs
  · obtain ⟨T, x, T', y, rfl⟩ := two (p2 (by omega)); exact node10_any t n s T x T' y O a cap w hO hP hc hs
  · obtain ⟨T, x, T', y, rfl⟩ := two (p2 (by omega)); exact node11_any t n s T x T' y O a cap w hO hP hc hs
  · have h3 := p3 rfl
    match vs, h3 with
    | [u, v, z], _ =>
      obtain ⟨T, x, rfl⟩ := hv u (by simp)
      obtain ⟨T', y, rfl⟩ := hv v (by simp)
      obtain ⟨T'', z', rfl⟩ := hv z (by simp)
      exact node12_any t n s T x T' y T'' z' O a cap w hO hP hc hs
  · obtain ⟨T, x, rfl⟩ := one (p1 (by omega)); exact node13_any t n s T x O a cap w hO hP hc hs
  · obtain ⟨us, T, x, rfl⟩ := last (p8 (by omega)); have := node14_any t n s us T x O a cap w hO hP hc hs; simpa using this
  · have h15 := p15 rfl
    rcases Nat.eq_zero_or_pos vs.length with h0 | h0
    · obtain rfl : vs = [] := List.length_eq_zero_iff.1 h0; exact node15a_any t n s O a cap w hO hP hc hs
    · obtain ⟨T, x, rfl⟩ := one (by omega); exact node15b_any t n s T x O a cap w hO hP hc hs
  · rcases p16 rfl with h1 | h1
    · obtain ⟨T, x, rfl⟩ := one h1; exact node16a_any t n s T x O a cap w hO hP hc hs
    · obtain ⟨T, x, T', y, rfl⟩ := two h1; exact node16b_any t n s T x T' y O a cap w hO hP hc hs
  · obtain ⟨T, x, rfl⟩ := one (p1 (by omega)); exact node17_any t n s T x O a cap w hO hP hc hs
  · obtain ⟨T, x, T', y, rfl⟩ := two (p2 (by omega)); exact node18_any t n s T x T' y O a cap w hO hP hc hs
  · obtain ⟨T, x, rfl⟩ := one (p1 (by omega)); exact node19_any t n s T x O a cap w hO hP hc hs
  · obtain ⟨T, x, rfl⟩ := one (p1 (by omega)); exact node20_any t n s T x O a cap w hO hP hc hs

theorem NodeV.iface {w : World} {O : Nat → Prop} {t : ByteArray} {n k : Int} {vs : List Value} {v : Value} (h : NodeV w O t n k vs v) : ∃ (T : TypeId) (x : Value), v = .iface T x := by
  cases h <;> exact ⟨_, _, rfl⟩

end Go.Proofs.YtifgaaemdojmpaaGreatDoor.ex

namespace Go.Proofs.YtifgaaemdojmpaaGreatDoor.ex
open Go.ChangeShapes Go.WideShapes Go.ChangeAt Go.RowKit Go.Deep
set_option linter.unusedVariables false
set_option linter.unusedSimpArgs false

theorem infoN : (Tryz.prog.info? 37).map (fun i => (i.zero, i.size, i.bytes)) = some (some .nilIface, 1, 16) := by kernel_rfl

theorem parts_of_ok {E : Nat → Ex} {r p len : Nat} (hl : len ≤ 3000) (h : ok E (r + 1) p len = true) : (E p).size = (len : Int) - 1 ∧ headB (E p) = true ∧ ∃ ps, cutP E (p + 1) (len - 1) = some ps ∧ partsOk (E p).kind ps.length ∧ sp (E p).kind (ps.map E) = true ∧ ∀ q ∈ ps, ok E r q ((E q).size.toNat + 1) = true := by
  have hk := ok_kind h
  have h0 := h
  rw [ok_spec hk hl] at h
  simp only [Bool.and_eq_true, decide_eq_true_eq] at h
  obtain ⟨h1, h2, h3⟩ := h
  refine ⟨h1, ?_, ?_⟩
  · rw [ok] at h0
    simp only [Bool.and_eq_true] at h0
    exact h0.2.1
  · cases hc : cutP E (p + 1) (len - 1) with
    | none => rw [hc] at h3; simp at h3
    | some ps =>
      rw [hc] at h3
      simp only [Bool.and_eq_true, List.all_eq_true] at h3
      refine ⟨ps, rfl, ?_, h3.1, h3.2⟩
      have hcnt := h3.1
      simp only [sp, Bool.and_eq_true, countB, Bool.or_eq_true, decide_eq_true_eq, List.length_map] at hcnt
      obtain ⟨⟨c1, c2⟩, _⟩ := hcnt
      generalize (E p).kind = k at c1 c2
      refine ⟨fun hk => ?_, fun hk => ?_, fun hk => ?_, fun hk => ?_, fun hk => ?_, fun hk => ?_, fun hk => ?_⟩
      · rcases hk with rfl | rfl | rfl | rfl <;> simp [lowS, highS] at c1 c2 <;> first | omega | simp [c2]
      · rcases hk with rfl | rfl | rfl | rfl | rfl <;> simp [lowS, highS] at c1 c2 <;> omega
      · rcases hk with rfl | rfl | rfl | rfl <;> simp [lowS, highS] at c1 c2 <;> omega
      · subst hk; simp [lowS, highS] at c1 c2; omega
      · subst hk; simp [lowS, highS] at c1 c2; omega
      · subst hk; simp [lowS, highS] at c1 c2; omega
      · rcases hk with rfl | rfl <;> simp [lowS, highS] at c1 c2 <;> omega

/-- The first parts are read. -/
def Got (w : World) (O : Nat → Prop) (E : Nat → Ex) (r : Nat) (ps : List Nat) (us : List Value) : Prop := ∀ (i : Nat) (x : Value) (q : Nat), us[i]? = some x → ps[i]? = some q → Nd w O r x (treeP E r q)
theorem Got.kept {w w' : World} {O O' : Nat → Prop} {E : Nat → Ex} {r : Nat} {ps : List Nat} {us : List Value} (h : Got w O E r ps us) (hk : ∀ bb, O bb → w'.heap[bb]? = w.heap[bb]?) (hO : ∀ bb, O bb → O' bb) : Got w' O' E r ps us := fun i x q hx hq => Nd.kept hk hO r (h i x q hx hq)
theorem Got.snoc {w : World} {O : Nat → Prop} {E : Nat → Ex} {r : Nat} {ps : List Nat} {us : List Value} {v : Value} (h : Got w O E r ps us) (hl : us.length < ps.length) (hv : Nd w O r v (treeP E r ps[us.length])) : Got w O E r ps (us ++ [v]) := by
  intro i x q hx hq
  rcases Nat.lt_or_ge i us.length with hi | hi
  · rw [List.getElem?_append_left hi] at hx
    exact h i x q hx hq
  · rw [List.getElem?_append_right hi] at hx
    have hi0 : i = us.length := by
      have := (List.getElem?_eq_some_iff.1 hx).1
      simp at this
      omega
    subst hi0
    simp at hx
    rw [List.getElem?_eq_getElem hl] at hq
    cases hq
    rw [← hx]
    exact hv

/-- The blocks made since, but for the row that grows. -/
def Og (B : Nat) (w : World) (v : Value) (bb : Nat) : Prop := B ≤ bb ∧ bb < w.heap.size ∧ some bb ≠ v.ownBlock
/-- The blocks made in between. -/
def Btw (A B : Nat) (bb : Nat) : Prop := A ≤ bb ∧ bb < B

theorem app_at {P : Program} (w : World) {ops : Array Oper} {rest : List Oper} {o : Oper} {a : Act} {Q : Exit → Act → World → Prop} (hgd : o.guard = none) (s x : Operand) (t : TypeId)
    (ho : o.op = .call { callee := .builtin .append, args := #[s, x], argTypes := #[t, t] })
    (base : Nat) (e : TypeId) (z : Value) (bytes : Nat) (ht : P.underlying t = some (.slice e)) (hinfo : (P.info? e).map (fun i => (i.zero, i.size, i.bytes)) = some (some z, 1, bytes)) (hzs : z.cells.size = 1)
    (v : Value) (n : Nat) (xs : List Value) (hs : a.eval s = v) (hown : w.ownsRow base e 1 v n xs)
    (ad : Addr) (m c : Nat) (news : List Value) (hx : a.eval x = .slice (some ad) m c) (hl : news.length = m) (hnews : ∀ j u, news[j]? = some u → w.cell? (ad.add j) = some u) (h1 : ∀ u ∈ news, u.oneCell' = true)
    (h63 : n + m ≤ maxLen) (hbytes : (n + m) * bytes ≤ 140737488355328) (hbase : base ≤ w.heap.size)
    (h : ∀ v' w', w'.ownsRow base e 1 v' (n + m) (xs ++ news) → w.grownBy w' v.ownBlock → (v'.ownBlock = v.ownBlock ∨ v'.ownBlock = some w.heap.size) → wpList P ops Q rest (a.put o.dst v') w') : wpList P ops Q (o :: rest) a w := by
  obtain ⟨i, hi, hzz⟩ := Option.map_eq_some_iff.1 hinfo
  simp only [Prod.mk.injEq] at hzz
  obtain ⟨hz, hsz, hb⟩ := hzz
  exact wpList_append_own_at w hgd s x t ho base e i z 1 bytes ht hi hz hsz hb hzs (by decide) v n xs hs hown ad m c news hx (by simpa using hl) hnews h1 h63 hbytes hbase (fun v' w' a b _ c => h v' w' a b c)

/-- A part more, and the row grown by it. -/
theorem got_more {w2 wr w4 w' : World} {E : Nat → Ex} {r : Nat} {ps : List Nat} {us : List Value} {v v' x : Value} {o : Obj} {e : TypeId} (hB : w2.heap.size ≤ wr.heap.size) (hgot : Got wr (Og w2.heap.size wr v) E r ps us) (hown : wr.ownsRow w2.heap.size e 1 v us.length us) (hl4 : Below wr.heap.size wr w4) (hl : us.length < ps.length)
    (hnd : Nd w4 (Btw wr.heap.size w4.heap.size) r x (treeP E r ps[us.length])) (hg : (w4.alloc o).grownBy w' v.ownBlock) (hloc : v'.ownBlock = v.ownBlock ∨ v'.ownBlock = some (w4.heap.size + 1)) : Got w' (Og w2.heap.size w' v') E r ps (us ++ [x]) := by
  have hs4 := hl4.size
  have hal : (w4.alloc o).heap.size = w4.heap.size + 1 := by simp
  have hown' : ∀ g, v.ownBlock = some g → g < wr.heap.size := fun g hgg => (hown.lt g hgg).2
  have k1 : Got w4 (Og w2.heap.size w4 v) E r ps us := hgot.kept (fun bb hbb => hl4.block bb hbb.2.1) (fun bb ⟨a, b, c⟩ => ⟨a, by omega, c⟩)
  have k2 : Nd w4 (Og w2.heap.size w4 v) r x (treeP E r ps[us.length]) := Nd.kept (fun bb _ => rfl) (fun bb ⟨a, b⟩ => ⟨by omega, b, fun hc => by have := hown' bb hc.symm; omega⟩) r hnd
  have hk : ∀ bb, Og w2.heap.size w4 v bb → w'.heap[bb]? = w4.heap[bb]? := fun bb ⟨a, b, c⟩ => by
    rw [hg.block bb (by omega) c]
    exact Below.heap_alloc w4 o bb b
  refine (k1.snoc hl k2).kept hk (fun bb ⟨a, b, c⟩ => ⟨a, by have := hg.size; omega, ?_⟩)
  rcases hloc with h | h
  · rw [h]; exact c
  · rw [h]
    simp
    omega

theorem PsO.own {w : World} {base e n : Nat} {v : Value} {l : List Value} (h : w.ownsRow base e 1 v n l) : l.length = n ∧ ∃ a cap, v = .slice a n cap ∧ n ≤ cap ∧ cap ≤ maxLen ∧ PsO w (Btw base w.heap.size) a l := by
  obtain ⟨hl, h⟩ := h
  rcases h with ⟨rfl, rfl⟩ | ⟨g, cap, cur, rfl, hb, hg, hc, hm, hz, ht⟩
  · have hl' : l = [] := List.length_eq_zero_iff.1 (by simpa using hl)
    subst hl'
    exact ⟨rfl, none, 0, rfl, Nat.le_refl _, by decide, 0, 0, .inl rfl, fun i x hx => by simp at hx⟩
  · refine ⟨by simpa using hl, _, cap, rfl, hc, hm, g, 0, .inr ⟨rfl, hb, (Array.getElem?_eq_some_iff.1 hg).1⟩, fun i x hx => ?_⟩
    have hi : i < l.length := (List.getElem?_eq_some_iff.1 hx).1
    rw [← ht, List.getElem?_take_of_lt (by omega)] at hx
    rw [Nat.zero_add]
    simp only [World.cell?, hg]
    have e2 : cur[i]? = some x := by simpa using hx
    show cur[i]? = _
    rw [e2]

/-- The whole of a node. -/
theorem nd_of {w w2 wr w' : World} {E : Nat → Ex} {r p : Nat} {ps : List Nat} {us : List Value} {v u : Value} (hT : treeP E (r + 1) p = .mk (E p).kind (E p).text (E p).n (ps.map (treeP E r))) (h2 : w.heap.size ≤ w2.heap.size) (hue : us.length = ps.length)
    (hgot : Got wr (Og w2.heap.size wr u) E r ps us) (hl : Below wr.heap.size wr w') (hn : NodeV w' (Btw w2.heap.size wr.heap.size) (E p).text (E p).n (E p).kind us v) : Nd w' (Btw w.heap.size w'.heap.size) (r + 1) v (treeP E (r + 1) p) := by
  have hs := hl.size
  rw [hT]
  refine ⟨hn.iface, us, by simpa using hue, fun i x y hx hy => ?_, hn.kept (fun _ _ => rfl) (fun bb ⟨a, b⟩ => ⟨by omega, by omega⟩)⟩
  rw [List.getElem?_map, Option.map_eq_some_iff] at hy
  obtain ⟨q, hq, rfl⟩ := hy
  exact Nd.kept (fun bb hbb => hl.block bb hbb.2.1) (fun bb ⟨a, b, _⟩ => ⟨by omega, by omega⟩) r (hgot i x q hx hq)

theorem got_ifaces {w : World} {O : Nat → Prop} {E : Nat → Ex} {r : Nat} {ps : List Nat} {us : List Value} (h : Got w O E r ps us) (hl : us.length = ps.length) : ∀ v ∈ us, ∃ (T : TypeId) (x : Value), v = .iface T x := by
  intro v hv
  obtain ⟨i, hi, rfl⟩ := List.getElem_of_mem hv
  exact (h i us[i] ps[i] (List.getElem?_eq_getElem hi) (List.getElem?_eq_getElem (by omega))).iface

set_option maxRecDepth 100000 in
set_option maxHeartbeats 2000000 in
theorem tree_any (E : Nat → Ex) (b n : Nat) (hn : n ≤ 3000) : ∀ (r : Nat) (p len cap : Nat) (w : World), ok E r p len = true → XsB w b n E → 0 < len → p + len ≤ n → len ≤ cap → cap ≤ 9223372036854775807 →
    Calls Tryz.prog 12 #[.slice (some ⟨b, p * 4, none⟩) len cap] w fun e w' => ∃ v, e = .returned v ∧ Nd w' (Btw w.heap.size w'.heap.size) r v (treeP E r p) ∧ Below w.heap.size w w' := by
  intro r
  induction r with
  | zero => intro p len cap w h; cases h
  | succ r ih =>
    intro p len cap w hok hX hl hp hc hcap
    obtain ⟨hsz, hh, ps, hcp, hpo, hspt, hall⟩ := parts_of_ok (by omega) hok
    have HC : Hid (cutP E (p + 1) (len - 1) = some ps) := hcp
    obtain ⟨hfits, hpl⟩ := cut_fits _ _ _ hcp
    have HFT : Hid (∀ q ∈ ps, Fits E (p + 1) (p + 1 + (len - 1)) q) := hfits
    have HAL : Hid (∀ q ∈ ps, ok E r q ((E q).size.toNat + 1) = true) := hall
    have HT : Hid (treeP E (r + 1) p = .mk (E p).kind (E p).text (E p).n (ps.map (treeP E r))) := by
      show _ = _
      rw [treeP, show (E p).size.toNat = len - 1 by omega, hcp]
      rfl
    have HPO : Hid (partsOk (E p).kind ps.length) := hpo
    have HKO : Hid (okKind (E p).kind = true) := ok_kind hok
    have hl' : (0 : Int) < (len : Int) := by omega
    obtain ⟨a1, ha1⟩ : ∃ a1, (if cap = 1 then some (⟨b, p * 4, none⟩ : Addr) else some ⟨b, p * 4 + 4, none⟩) = a1 := ⟨_, rfl⟩
    have HA1 : Hid (len - 1 = 0 ∨ a1 = some ⟨b, (p + 1) * 4, none⟩) := by
      show _ ∨ _
      rw [← ha1, show (p + 1) * 4 = p * 4 + 4 by omega]
      split
      · left; omega
      · right; rfl
    clear hcp hfits hsz hh hspt hall hok hpo
    go_enter Tryz.func12, Tryz.ntmps12
    go_wp2_with (go_at_call 29; refine (cut_yes HC.out hX (by omega) hn (by omega) HA1.out).mono ?_; rintro e w2 ⟨av2, cap2, rfl, hcap2, hP2, hl2⟩; have hX2 := hX.below hl2)
    obtain ⟨bb, off, hav, hP3⟩ := hP2
    have hav' : ps.length = 0 ∨ av2 = some ⟨bb, off, none⟩ := by simpa using hav
    have hcell : ∀ i (h : i < ps.length), w2.cell? ⟨bb, off + i, none⟩ = some (partV E b (p + 1 + (cap - 1)) ps[i]) := fun i h => hP3 i _ (by simp [h])
    have hs2 := hl2.size
    clear hP3 hav ha1
    go_loopw [5, 7, 17] (fun v _ x wr => ∃ (us : List Value), us.length ≤ ps.length ∧ x = .int .i64 (us.length : Int) ∧ Got wr (Og w2.heap.size wr v) E r ps us ∧ wr.ownsRow w2.heap.size 37 1 v us.length us ∧ Below w2.heap.size w2 wr) (fun _ _ x _ => ps.length - (intOf x).toNat)
    case atStart => exact ⟨[], Nat.zero_le _, rfl, fun i x q hx => by simp at hx, own_none w2 _, (Below.refl _ _).alloc (Nat.le_refl _) _⟩
    case round =>
      obtain ⟨us, hul, rfl, hgot, hown, hbel⟩ := hrel
      have HG : Hid (Got wr (Og w2.heap.size wr u5) E r ps us) := hgot
      clear hgot
      have hsb := hbel.size
      by_cases hjl : us.length < ps.length
      · have hjl' : (us.length : Int) < (ps.length : Int) := by omega
        obtain rfl := hav'.resolve_left (by omega)
        have c0 := hcell us.length hjl
        have c0r : wr.cell? ⟨bb, off + us.length, none⟩ = some (partV E b (p + 1 + (cap - 1)) ps[us.length]) := (hbel.cell (p := ⟨bb, _, none⟩) (World.block_lt_of_cell? _ _ c0)).trans c0
        unfold partV at c0r
        obtain ⟨f1, f2, f3⟩ := HFT.out _ (List.getElem_mem hjl)
        have HI := ih ps[us.length] ((E ps[us.length]).size.toNat + 1) (p + 1 + (cap - 1) - ps[us.length]) wr (HAL.out _ (List.getElem_mem hjl)) (hX2.below hbel) (by omega) (by omega) (by omega) (by omega)
        obtain ⟨Z, hZ⟩ : ∃ Z, (E ps[us.length]).size.toNat + 1 = Z := ⟨_, rfl⟩
        obtain ⟨Y, hY⟩ : ∃ Y, p + 1 + (cap - 1) - ps[us.length] = Y := ⟨_, rfl⟩
        rw [hZ, hY] at c0r HI
        have HI' : Hid (Calls Tryz.prog 12 #[.slice (some ⟨b, ps[us.length] * 4, none⟩) Z Y] wr fun e w' => ∃ v, e = .returned v ∧ Nd w' (Btw wr.heap.size w'.heap.size) r v (treeP E r ps[us.length]) ∧ Below wr.heap.size wr w') := HI
        clear HI c0 hZ hY
        go_wp2_with (first
          | (go_at_call 12; refine HI'.out.mono ?_; rintro e w4 ⟨v4, rfl, hnd4, hl4⟩; obtain ⟨T4, x4, rfl⟩ := hnd4.iface; have hown4 := own_below hown hl4; have hs4 := hl4.size)
          | (at_builtin; refine app_at _ rfl _ _ 54 rfl w2.heap.size 37 .nilIface 16 Tryz.underlying54 infoN rfl _ _ _ rfl (hown4.alloc _) ⟨w4.heap.size, 0, none⟩ 1 1 [.iface T4 x4] rfl rfl (one_new _ _ _) ?c2 ?c3 ?c4 ?c5 ?_)
          | go_in)
        case c2 => first | rfl | (intro u hu; simp at hu; subst hu; rfl)
        case c3 => unfold maxLen; omega
        case c4 => omega
        case c5 => first | omega | (simp; omega)
        intro v' w' hown' hg hloc
        have B4 := hbel.trans (hl4.mono hsb)
        have hb' := below_grown (B4.alloc B4.size _) (hown4.alloc _) hg (by simp; omega)
        have HG' : Hid (Got w' (Og w2.heap.size w' v') E r ps (us ++ [.iface T4 x4])) := got_more hsb HG.out hown hl4 hjl hnd4 hg hloc
        clear hown hown4 hg hloc HG hnd4
        go_wp2_with fail
        go_roundw
        case rel => exact ⟨us ++ [.iface T4 x4], by simp; omega, by simp, HG'.out, by simpa using hown', hb'⟩
        case measure => simp [intOf]; omega
      · have hjl' : ¬ (us.length : Int) < (ps.length : Int) := by omega
        have hue : us.length = ps.length := by omega
        obtain ⟨_, av, cp, rfl, hcp, hcm, hPu⟩ := PsO.own hown
        obtain ⟨g0, g1, g2, g3⟩ := (hX2.below hbel) p (by omega)
        have HNO := nodeOf_any (E p).kind (E p).n (E p).size (E p).text us HKO.out (by rw [hue]; exact HPO.out) (got_ifaces HG.out hue) (Btw w2.heap.size wr.heap.size) av cp wr (fun bb h => h.2) hPu ⟨hcp, hcm⟩ (by omega)
        have HNO' : Hid (Calls Tryz.prog 31 #[.agg #[.int .i64 (E p).kind, .string (E p).text, .int .i64 (E p).n, .int .i64 (E p).size], .slice av us.length cp] wr fun e w' => ∃ v, e = .returned v ∧ NodeV w' (Btw w2.heap.size wr.heap.size) (E p).text (E p).n (E p).kind us v ∧ Below wr.heap.size wr w') := HNO
        have HUE : Hid (us.length = ps.length) := hue
        clear HNO hue hown
        go_wp2_with (go_at_call 31; refine HNO'.out.mono ?_; rintro e w5 ⟨v5, rfl, hnv5, hl5⟩)
        go_ret
        exact ⟨_, rfl, nd_of HT.out hs2 HUE.out HG.out hl5 hnv5, hl2.trans ((hbel.trans (hl5.mono hsb)).mono hs2)⟩

end Go.Proofs.YtifgaaemdojmpaaGreatDoor.ex

namespace Go.Proofs.YtifgaaemdojmpaaGreatDoor.ex
open Go.ChangeShapes Go.WideShapes Go.ChangeAt Go.RowKit Go.Deep Go.Maps
set_option linter.unusedVariables false
set_option linter.unusedSimpArgs false

theorem all_isX (E : Nat → Ex) {n : Nat} (h0 : 0 < n) (h1 : n ≤ 3000) : okAll E n = (isX (E 0).kind && ok E 61 0 n) := by
  unfold okAll
  rw [decide_eq_true (show 0 < n ∧ n ≤ 3000 from ⟨h0, h1⟩), Bool.true_and]
  cases ho : ok E 61 0 n with
  | false => simp
  | true =>
    have := ok_kind ho
    simp only [okKind, decide_eq_true_eq] at this
    rw [Bool.and_true, Bool.and_true]
    simp only [exprK, isX, decide_eq_decide]
    omega
theorem all_out (E : Nat → Ex) {n : Nat} (h : ¬ (0 < n ∧ n ≤ 3000)) : okAll E n = false := by simp [okAll, h]

set_option maxRecDepth 100000 in
set_option maxHeartbeats 1000000 in
theorem iok_any (E : Nat → Ex) (b n cap : Nat) (hn : n ≤ 1048576) (hc : n ≤ cap ∧ cap ≤ 9223372036854775807) (ht : ∀ i, i < n → (E i).text.size ≤ 1048576) (w : World) (hX : XsB w b n E) (T : Tabs w) :
    Calls Tryz.prog 10 #[.slice (some ⟨b, 0, none⟩) n cap] w fun e w' => e = .returned (.bool (okAll E n)) ∧ Below w.heap.size w w' := by
  by_cases h0 : n = 0
  · subst h0
    have HO : Hid (okAll E 0 = false) := all_out E (by omega)
    go_enter Tryz.func10, Tryz.ntmps10
    go_wp2_with fail
    go_ret
    exact ⟨ret_bool HO.out.symm, Below.refl _ _⟩
  have h0' : (0 : Int) < (n : Int) := by omega
  have h0n : ¬ n = 0 := h0
  by_cases h1 : n ≤ 3000
  · have h1' : ¬ (3000 : Int) < (n : Int) := by omega
    obtain ⟨g0, _, _, _⟩ := hX 0 (by omega)
    rw [Nat.zero_mul] at g0
    have HO : Hid (okAll E n = (isX (E 0).kind && ok E 61 0 n)) := all_isX E (by omega) h1
    have HN : Hid (Calls Tryz.prog 22 #[.slice (some ⟨b, 0, none⟩) n cap, .int .i64 0] w fun e w' => e = .returned (.bool (ok E 61 0 n)) ∧ Below w.heap.size w w') := by
      have := node_any E b n h1 ht 61 (Nat.le_refl _) 0 n cap w hX T (by omega) (by omega) hc.1 hc.2
      show Calls _ _ _ _ _
      simpa using this
    cases hx : isX (E 0).kind with
    | false =>
      rw [hx] at HO
      go_enter Tryz.func10, Tryz.ntmps10
      go_wp2_with (go_at_call 21; refine (isX_any _ _).mono ?_; rw [hx]; rintro e w' ⟨rfl, rfl⟩)
      go_ret
      exact ⟨ret_bool HO.out.symm, Below.refl _ _⟩
    | true =>
      rw [hx, Bool.true_and] at HO
      go_enter Tryz.func10, Tryz.ntmps10
      go_wp2_with (first
        | (go_at_call 21; refine (isX_any _ _).mono ?_; rw [hx]; rintro e w' ⟨rfl, rfl⟩)
        | (go_at_call 22; refine HN.out.mono ?_; rintro e w1 ⟨rfl, hl1⟩))
      go_ret
      exact ⟨ret_bool HO.out.symm, hl1⟩
  · have h1' : (3000 : Int) < (n : Int) := by omega
    have HO : Hid (okAll E n = false) := all_out E (by omega)
    go_enter Tryz.func10, Tryz.ntmps10
    go_wp2_with fail
    go_ret
    exact ⟨ret_bool HO.out.symm, Below.refl _ _⟩

/-! ### The document's side -/

theorem wordS {s : ByteArray} (hp : 0 < s.size) (h60 : s.size ≤ 60) (hf : lx.isFirst s[0] = true) (hk : kwB s 10 = false) : wordB s = decide (lx.run lx.isWord (lx.suf s 0) = s.size) := by
  rw [word_rest hp hf hk]
  simp [h60]
theorem word_long {s : ByteArray} (h : 60 < s.size) : wordB s = false := by
  unfold wordB
  split
  · rfl
  · have : ¬ s.size ≤ 60 := by omega
    simp [this]

set_option maxRecDepth 100000 in
set_option maxHeartbeats 1000000 in
theorem sword_any (s : ByteArray) (hs : s.size ≤ 1048576) (w : World) :
    Calls Tryz.prog 61 #[.string s] w fun e w' => e = .returned (.bool (wordB s)) ∧ Below w.heap.size w w' := by
  by_cases hp : 0 < s.size
  · have hp' : ¬ (s.size : Int) < 1 := by omega
    have hpi : (0 : Int) < (s.size : Int) := by omega
    by_cases h60 : s.size ≤ 60
    · have h60' : ¬ (60 : Int) < (s.size : Int) := by omega
      have hb255 : (s[0].toNat : Int) ≤ 255 := by have := s[0].toNat_lt; omega
      cases hf : lx.isFirst s[0] with
      | false =>
        have HW : Hid (wordB s = false) := word_first hp hf
        have hf' := hf
        simp only [lx.isFirst, Bool.or_eq_false_iff] at hf'
        obtain ⟨f1, f2⟩ := hf'
        unfold lx.isB at f2
        have f3 : ((s[0].toNat : Int) != 95) = true := by simp only [bne, f2]; rfl
        clear hf
        go_enter Tryz.func61, Tryz.ntmps61
        go_wp2_with (go_at_call 91; refine (lx.letter_any _ _).mono ?_; rw [f1]; rintro e w' ⟨rfl, rfl⟩)
        go_ret
        exact ⟨ret_bool HW.out.symm, Below.refl _ _⟩
      | true =>
        cases hk : kwB s 10 with
        | true =>
          have HW : Hid (wordB s = false) := word_kw hk
          cases hlt : lx.isLet s[0] with
          | true =>
            go_enter Tryz.func61, Tryz.ntmps61
            go_wp2_with (first
              | (go_at_call 91; refine (lx.letter_any _ _).mono ?_; rw [hlt]; rintro e w' ⟨rfl, rfl⟩)
              | (go_at_call 92; refine (skw_any _ _).mono ?_; rw [hk]; rintro e w1 ⟨rfl, hl1⟩))
            go_ret
            exact ⟨ret_bool HW.out.symm, hl1⟩
          | false =>
            have h95e : ((s[0].toNat : Int) == 95) = true := by simpa [lx.isFirst, hlt, lx.isB] using hf
            have h95 : ((s[0].toNat : Int) != 95) = false := by simp only [bne, h95e]; rfl
            clear h95e
            go_enter Tryz.func61, Tryz.ntmps61
            go_wp2_with (first
              | (go_at_call 91; refine (lx.letter_any _ _).mono ?_; rw [hlt]; rintro e w' ⟨rfl, rfl⟩)
              | (go_at_call 92; refine (skw_any _ _).mono ?_; rw [hk]; rintro e w1 ⟨rfl, hl1⟩))
            go_ret
            exact ⟨ret_bool HW.out.symm, hl1⟩
        | false =>
          have HW : Hid (wordB s = decide (lx.run lx.isWord (lx.suf s 0) = s.size)) := wordS hp h60 hf hk
          have hsl := lx.suf_len s 0
          have hrl := lx.run_le lx.isWord (lx.suf s 0)
          have h95 : lx.isLet s[0] = true ∨ (lx.isLet s[0] = false ∧ ((s[0].toNat : Int) != 95) = false) := by
            cases hlt : lx.isLet s[0] with
            | true => exact .inl rfl
            | false =>
              have : ((s[0].toNat : Int) == 95) = true := by simpa [lx.isFirst, hlt, lx.isB] using hf
              exact .inr ⟨rfl, by simp only [bne, this]; rfl⟩
          rcases h95 with hlt | ⟨hlt, h95⟩
          all_goals (
            go_enter Tryz.func61, Tryz.ntmps61
            go_wp2_with (first
              | (go_at_call 91; refine (lx.letter_any _ _).mono ?_; rw [hlt]; rintro e w' ⟨rfl, rfl⟩)
              | (go_at_call 92; refine (skw_any _ _).mono ?_; rw [hk]; rintro e w1 ⟨rfl, hl1⟩))
            go_loop [3] (fun i => ∃ k : Nat, k ≤ lx.run lx.isWord (lx.suf s 0) ∧ i = .int .i64 (k : Int)) (fun i => s.size - (intOf i).toNat)
            case atStart => exact ⟨0, Nat.zero_le _, rfl⟩
            case round =>
              obtain ⟨k, hkr, rfl⟩ := hrel
              by_cases hks : k < s.size
              · have HG : Hid ((lx.suf s 0)[k]? = some s[k]) := lx.suf_get0 hks
                have hks' : (k : Int) < (s.size : Int) := by omega
                cases hw : lx.isWord s[k] with
                | true =>
                  have hk2 := lx.run_lt hkr HG.out hw
                  go_wp2_with (go_at_call 93; refine (lx.wordByte_any _ _).mono ?_; rw [hw]; rintro e w' ⟨rfl, rfl⟩)
                  go_round
                  case rel => exact ⟨k + 1, by omega, by go_num⟩
                  case measure => simp [intOf]; omega
                | false =>
                  have hke := lx.run_stop hkr HG.out hw
                  have HF : Hid (wordB s = false) := by show _ = _; rw [HW.out]; simp; omega
                  clear hke
                  go_wp2_with (go_at_call 93; refine (lx.wordByte_any _ _).mono ?_; rw [hw]; rintro e w' ⟨rfl, rfl⟩)
                  go_ret
                  exact ⟨ret_bool HF.out.symm, hl1⟩
              · have hks' : ¬ (k : Int) < (s.size : Int) := by omega
                have HF : Hid (wordB s = true) := by show _ = _; rw [HW.out]; simp; omega
                go_wp2_with fail
                go_ret
                exact ⟨ret_bool HF.out.symm, hl1⟩)
    · have h60' : (60 : Int) < (s.size : Int) := by omega
      have HW : Hid (wordB s = false) := word_long (by omega)
      go_enter Tryz.func61, Tryz.ntmps61
      go_wp2_with fail
      go_ret
      exact ⟨ret_bool HW.out.symm, Below.refl _ _⟩
  · have hp' : (s.size : Int) < 1 := by omega
    have HW : Hid (wordB s = false) := by
      show wordB s = false
      unfold wordB
      split
      · rfl
      · rename_i b r hb
        have := congrArg List.length hb
        simp at this
        omega
    go_enter Tryz.func61, Tryz.ntmps61
    go_wp2_with fail
    go_ret
    exact ⟨ret_bool HW.out.symm, Below.refl _ _⟩

theorem count_any (k : Int) (w : World) : Calls Tryz.prog 42 #[.int .i64 k] w fun e w' => e = .returned (.tuple #[.int .i64 (lowS k), .int .i64 (highS k)]) ∧ w' = w := by
  go_enter Tryz.func42, Tryz.ntmps42
  go_wp2
  all_goals go_ret2
  all_goals refine ⟨?_, rfl⟩
  all_goals (go_light; simp_all [lowS, highS])

end Go.Proofs.YtifgaaemdojmpaaGreatDoor.ex

namespace Go.Proofs.YtifgaaemdojmpaaGreatDoor.ex
open Go.ChangeShapes Go.WideShapes Go.ChangeAt Go.RowKit Go.Deep Go.Maps
set_option linter.unusedVariables false
set_option linter.unusedSimpArgs false

theorem use_other {k : Int} (h2 : ¬ k = 2) (h3 : ¬ (k = 3 ∨ k = 6 ∨ k = 7 ∨ k = 13 ∨ k = 15 ∨ k = 16 ∨ k = 17)) (h18 : ¬ k = 18) : useOf k = 0 := by
  simp only [useOf, if_neg h2, if_neg h3, if_neg h18]

theorem nodeS_of {k n z : Int} {s : ByteArray} {u : Int} {m : Int} (hu : useOf k = u) (hm : mostN k = m) : nodeS ⟨k, s, n, z⟩ = (decide (0 ≤ n ∧ n ≤ m) && textB s u) := by
  simp only [nodeS, nB, hu, hm]

theorem text0 (s : ByteArray) : textB s 0 = s.toList.isEmpty := by simp [textB]
theorem text1 (s : ByteArray) : textB s 1 = !((es.showA s).toList.isEmpty) := by simp [textB]
theorem text2 (s : ByteArray) : textB s 2 = wordB s := by simp [textB]
theorem text3 (s : ByteArray) : textB s 3 = opB s 15 := by simp [textB]
theorem zero_n (n : Int) : decide (0 ≤ n ∧ n ≤ 0) = (n == 0) := by
  rw [Bool.eq_iff_iff]
  simp
  omega

set_option maxRecDepth 100000 in
set_option maxHeartbeats 2000000 in
theorem snode_any (k n z : Int) (s : ByteArray) (hs : s.size ≤ 1048576) (w : World) :
    Calls Tryz.prog 40 #[.agg #[.int .i64 k, .string s, .int .i64 n, .int .i64 z]] w fun e w' => e = .returned (.bool (nodeS ⟨k, s, n, z⟩)) ∧ Below w.heap.size w w' := by
  have b0 : Below w.heap.size w (w.alloc (.cells #[.int .i64 k, .string s, .int .i64 n, .int .i64 z] 27)) := (Below.refl _ _).alloc (Nat.le_refl _) _
  have hbx := lx.four_lit w (.int .i64 k) (.string s) (.int .i64 n) (.int .i64 z) 27
  have hs0 : w.heap.size < (w.alloc (.cells #[.int .i64 k, .string s, .int .i64 n, .int .i64 z] 27)).heap.size := by simp
  by_cases h1 : k = 1
  · subst h1
    have HS : Hid (nodeS ⟨1, s, n, z⟩ = (decide (0 ≤ n ∧ n ≤ 9007199254740992) && s.toList.isEmpty)) := by show _ = _; rw [nodeS_of (u := 0) (m := 9007199254740992) rfl rfl, text0]
    clear hbx
    go_enter Tryz.func40, Tryz.ntmps40
    go_wp2_with fail
    all_goals go_ret
    all_goals (go_light; refine ⟨ret_bool ?_, b0⟩; rw [HS.out, Bool.eq_iff_iff]; simp_all; try omega)
  by_cases h2 : k = 2
  · subst h2
    have HS : Hid (nodeS ⟨2, s, n, z⟩ = ((n == 0) && !((es.showA s).toList.isEmpty))) := by show _ = _; rw [nodeS_of (u := 1) (m := 0) rfl rfl, text1, zero_n]
    clear h1
    go_enter Tryz.func40, Tryz.ntmps40
    cases hsh : (es.showA s).toList.isEmpty with
    | true =>
      go_wp2_with (go_at_call 60; refine (es.spec_any _ hs _).mono ?_; rintro e w1 ⟨rfl, hl1⟩; obtain ⟨x0, x1, x2, x3⟩ := hbx; have y2 := (hl1.cell (p := ⟨w.heap.size, 2, none⟩) hs0).trans x2)
      go_ret
      exact ⟨ret_bool (by rw [HS.out, hsh]; simp), b0.trans (hl1.mono b0.size)⟩
    | false =>
      go_wp2_with (go_at_call 60; refine (es.spec_any _ hs _).mono ?_; rintro e w1 ⟨rfl, hl1⟩; obtain ⟨x0, x1, x2, x3⟩ := hbx; have y2 := (hl1.cell (p := ⟨w.heap.size, 2, none⟩) hs0).trans x2)
      go_ret
      exact ⟨ret_bool (by rw [HS.out, hsh]; simp), b0.trans (hl1.mono b0.size)⟩
  by_cases hw : k = 3 ∨ k = 6 ∨ k = 7 ∨ k = 13 ∨ k = 15 ∨ k = 16 ∨ k = 17
  · have HS : Hid (nodeS ⟨k, s, n, z⟩ = ((n == 0) && wordB s)) := by
      show _ = _
      rw [nodeS_of (u := 2) (m := 0) (by rw [useOf, if_neg h2, if_pos hw]) (by rw [mostN, if_neg h1, if_neg (by omega)]), text2, zero_n]
    clear h1 h2
    obtain ⟨x0, x1, x2, x3⟩ := hbx
    cases hx : wordB s with
    | true =>
      rcases hw with rfl | rfl | rfl | rfl | rfl | rfl | rfl
      all_goals (
        go_enter Tryz.func40, Tryz.ntmps40
        go_wp2_with (go_at_call 61; refine (sword_any _ hs _).mono ?_; rw [hx]; rintro e w1 ⟨rfl, hl1⟩; have y2 := (hl1.cell (p := ⟨w.heap.size, 2, none⟩) hs0).trans x2)
        go_ret
        exact ⟨ret_bool (by rw [HS.out, hx]; simp), b0.trans (hl1.mono b0.size)⟩)
    | false =>
      rcases hw with rfl | rfl | rfl | rfl | rfl | rfl | rfl
      all_goals (
        go_enter Tryz.func40, Tryz.ntmps40
        go_wp2_with (go_at_call 61; refine (sword_any _ hs _).mono ?_; rw [hx]; rintro e w1 ⟨rfl, hl1⟩)
        go_ret
        exact ⟨ret_bool (by rw [HS.out, hx]; simp), b0.trans (hl1.mono b0.size)⟩)
  by_cases h18 : k = 18
  · subst h18
    have HS : Hid (nodeS ⟨18, s, n, z⟩ = ((n == 0) && opB s 15)) := by show _ = _; rw [nodeS_of (u := 3) (m := 0) rfl rfl, text3, zero_n]
    clear h1 h2 hw
    obtain ⟨x0, x1, x2, x3⟩ := hbx
    cases hx : opB s 15 with
    | true =>
      go_enter Tryz.func40, Tryz.ntmps40
      go_wp2_with (go_at_call 62; refine (sop_any _ _).mono ?_; rw [hx]; rintro e w1 ⟨rfl, hl1⟩; have y2 := (hl1.cell (p := ⟨w.heap.size, 2, none⟩) hs0).trans x2)
      go_ret
      exact ⟨ret_bool (by rw [HS.out, hx]; simp), b0.trans (hl1.mono b0.size)⟩
    | false =>
      go_enter Tryz.func40, Tryz.ntmps40
      go_wp2_with (go_at_call 62; refine (sop_any _ _).mono ?_; rw [hx]; rintro e w1 ⟨rfl, hl1⟩)
      go_ret
      exact ⟨ret_bool (by rw [HS.out, hx]; simp), b0.trans (hl1.mono b0.size)⟩
  have hu := use_other h2 hw h18
  clear hbx
  by_cases h5 : k = 5 ∨ k = 14
  · have HS : Hid (nodeS ⟨k, s, n, z⟩ = (decide (0 ≤ n ∧ n ≤ 1) && s.toList.isEmpty)) := by show _ = _; rw [nodeS_of hu (m := 1) (by rw [mostN, if_neg h1, if_pos h5]), text0]
    clear h1 h2 hw h18 hu
    rcases h5 with rfl | rfl
    all_goals (
      go_enter Tryz.func40, Tryz.ntmps40
      go_wp2_with fail)
    all_goals go_ret
    all_goals (go_light; refine ⟨ret_bool ?_, b0⟩; rw [HS.out, Bool.eq_iff_iff]; simp_all; try omega)
  · have HS : Hid (nodeS ⟨k, s, n, z⟩ = ((n == 0) && s.toList.isEmpty)) := by show _ = _; rw [nodeS_of hu (m := 0) (by rw [mostN, if_neg h1, if_neg h5]), text0, zero_n]
    have e1 : (k == 1) = false := by simpa using h1
    have e2 : (k == 2) = false := by simpa using h2
    have e3 : (k == 3) = false := by simp; omega
    have e6 : (k == 6) = false := by simp; omega
    have e7 : (k == 7) = false := by simp; omega
    have e13 : (k == 13) = false := by simp; omega
    have e15 : (k == 15) = false := by simp; omega
    have e16 : (k == 16) = false := by simp; omega
    have e17 : (k == 17) = false := by simp; omega
    have e18 : (k == 18) = false := by simp; omega
    have e5 : (k == 5) = false := by simp; omega
    have e14 : (k == 14) = false := by simp; omega
    clear h1 h2 hw h18 hu h5
    go_enter Tryz.func40, Tryz.ntmps40
    go_wp2_with fail
    all_goals go_ret
    all_goals (go_light; refine ⟨ret_bool ?_, b0⟩; rw [HS.out, Bool.eq_iff_iff]; simp_all; try omega)

end Go.Proofs.YtifgaaemdojmpaaGreatDoor.ex

namespace Go.Proofs.YtifgaaemdojmpaaGreatDoor.ex
open Go.ChangeShapes Go.WideShapes Go.ChangeAt Go.RowKit Go.Deep Go.Maps
set_option linter.unusedVariables false
set_option linter.unusedSimpArgs false

def relV (p q : Nat) : Value := .int .i64 ((q - p : Nat) : Int)
theorem info3 : (Tryz.prog.info? 3).map (fun i => (i.zero, i.size, i.bytes)) = some (some (.int .i64 0), 1, 8) := by kernel_rfl

theorem cut_head {E : Nat → Ex} {p left : Nat} {rest : List Nat} (h0 : 0 < left) (h : cutP E p left = some rest) : ∃ (z : Nat) (r : List Nat), (E p).size = z ∧ z < left ∧ rest = p :: r ∧ cutP E (p + (z + 1)) (left - (z + 1)) = some r := by
  by_cases hb : (E p).size < 0 ∨ (left : Int) ≤ (E p).size
  · rw [cut_bad h0 hb] at h; cases h
  · rw [cut_step h0 hb, Option.map_eq_some_iff] at h
    obtain ⟨r, h1, rfl⟩ := h
    exact ⟨(E p).size.toNat, r, by omega, by omega, rfl, h1⟩

set_option maxRecDepth 100000 in
set_option maxHeartbeats 1000000 in
theorem parts_any (E : Nat → Ex) (b n p len cap : Nat) (ps : List Nat) (w : World) (hX : XsB w b n E) (hp : p + len ≤ n) (hn : n ≤ 3000) (hl : 0 < len) (hsz : (E p).size = (len : Int) - 1) (hcut : cutP E (p + 1) (len - 1) = some ps) :
    Calls Tryz.prog 41 #[.slice (some ⟨b, p * 4, none⟩) len cap] w fun e w' => ∃ v, e = .returned v ∧ w'.ownsRow w.heap.size 3 1 v ps.length (ps.map (relV p)) ∧ Below w.heap.size w w' := by
  have hl' : (0 : Int) < (len : Int) := by omega
  have hln : 0 < len := hl
  go_enter Tryz.func41, Tryz.ntmps41
  go_wp2
  go_loopw [3, 4] (fun v x wr => ∃ (i : Nat) (pre rest : List Nat), 1 ≤ i ∧ i ≤ len ∧ x = .int .i64 (i : Int) ∧ pre.length ≤ i ∧ ps = pre ++ rest ∧ cutP E (p + i) (len - i) = some rest ∧ wr.ownsRow w.heap.size 3 1 v pre.length (pre.map (relV p)) ∧ Below w.heap.size w wr) (fun _ x _ => len - (intOf x).toNat)
  case atStart => exact ⟨1, [], ps, Nat.le_refl _, by omega, rfl, by simp, rfl, hcut, own_none w _, (Below.refl _ _).alloc (Nat.le_refl _) _⟩
  case round =>
    obtain ⟨i, pre, rest, hi1, hil, rfl, hpl, hps, hci, hown, hbel⟩ := hrel
    have HPS : Hid (ps = pre ++ rest) := hps
    have HCI : Hid (cutP E (p + i) (len - i) = some rest) := hci
    clear hps hci
    have hszb := hbel.size
    have g3 := (hX.below hbel p (by omega)).2.2.2
    rw [hsz] at g3
    by_cases h : i < len
    · have h' : (i : Int) < (len : Int) := by omega
      obtain ⟨z, r, hz, hzl, hrest, hcr⟩ := cut_head (by omega) HCI.out
      have HRR : Hid (rest = (p + i) :: r) := hrest
      have HCR : Hid (cutP E (p + i + (z + 1)) (len - i - (z + 1)) = some r) := hcr
      have k3 := (hX.below hbel (p + i) (by omega)).2.2.2
      rw [hz, Nat.add_mul] at k3
      clear hrest hcr hz
      go_wp2_with (first
        | (at_builtin; refine app_own _ rfl _ _ 85 rfl w.heap.size 3 (.int .i64 0) 8 Tryz.underlying85 info3 rfl _ _ _ rfl (hown.alloc _) ⟨wr.heap.size, 0, none⟩ 1 1 [.int .i64 (i : Int)] rfl rfl (one_new _ _ _) ?c2 ?c3 ?c4 ?c5 ?_)
        | go_in)
      case c2 => first | rfl | (intro u hu; simp at hu; subst hu; rfl)
      case c3 => unfold maxLen; omega
      case c4 => omega
      case c5 => first | omega | (simp; omega)
      intro v' w' hown' hg
      have hb' := below_grown (hbel.alloc hszb _) (hown.alloc _) hg (by simp; omega)
      have k3' : w'.cell? ⟨b, p * 4 + i * 4 + 3, none⟩ = some (.int .i64 (z : Int)) := by
        have := (hX.below hb' (p + i) (by omega)).2.2.2
        have e := (hX.below hbel (p + i) (by omega)).2.2.2
        rw [Nat.add_mul] at this e
        rw [this]
        rw [k3] at e
        exact e.symm
      have hpv : relV p (p + i) = .int .i64 (i : Int) := by simp [relV]
      rw [← hpv, ← List.map_singleton (f := relV p) (a := p + i), ← List.map_append] at hown'
      clear hown hg hpv
      go_wp2
      go_roundw
      case rel => exact ⟨i + 1 + z, pre ++ [p + i], r, by omega, by omega, by go_num, by simp; omega, by rw [HPS.out, HRR.out]; simp, by rw [show p + (i + 1 + z) = p + i + (z + 1) by omega, show len - (i + 1 + z) = len - i - (z + 1) by omega]; exact HCR.out, by simpa using hown', hb'⟩
      case measure => simp [intOf]; omega
    · have h' : ¬ (i : Int) < (len : Int) := by omega
      have hrest : rest = [] := by
        have := HCI.out
        rw [show len - i = 0 by omega, cut_zero] at this
        cases this
        rfl
      have HQ : Hid (ps = pre) := by show _ = _; rw [HPS.out, hrest]; simp
      clear hrest
      go_wp2
      go_ret
      refine ⟨_, rfl, ?_, hbel⟩
      rw [HQ.out]
      exact hown

set_option maxRecDepth 100000 in
theorem part_any (E : Nat → Ex) (b n p len cap i z : Nat) (w : World) (hX : XsB w b n E) (hp : p + len ≤ n) (hn : n ≤ 3000) (hc : len ≤ cap ∧ cap ≤ 9223372036854775807) (hz : (E (p + i)).size = z) (hi : i + (z + 1) ≤ len) :
    Calls Tryz.prog 44 #[.slice (some ⟨b, p * 4, none⟩) len cap, .int .i64 (i : Int)] w fun e w' => e = .returned (.slice (some ⟨b, (p + i) * 4, none⟩) (z + 1) (cap - i)) ∧ w' = w := by
  have k3 := (hX (p + i) (by omega)).2.2.2
  rw [hz, Nat.add_mul] at k3
  have h1 : (i : Int) < (len : Int) := by omega
  have h2 : ¬ cap = i := by omega
  have h3 : (i : Int) ≤ (i : Int) + 1 + (z : Int) := by omega
  have h4 : (i : Int) + 1 + (z : Int) ≤ (cap : Int) := by omega
  go_enter Tryz.func44, Tryz.ntmps44
  go_wp2
  go_ret
  exact ⟨by rw [Nat.add_mul, show i + 1 + z - i = z + 1 by omega]; rfl, rfl⟩

end Go.Proofs.YtifgaaemdojmpaaGreatDoor.ex
