import Derived.Test.YtifgaaemdojmpaaGreatDoorG02
import Derived.Maps.Own
import Derived.Maps.OwnOps
import Derived.Maps.Views
import Derived.Maps.OwnSet
import Derived.Deep.QuietTactic
import Derived.BigQuiet
namespace Go.Proofs.YtifgaaemdojmpaaGreatDoor.ex
open Go.ChangeShapes Go.WideShapes Go.ChangeAt Go.RowKit Go.Deep Go.Maps
set_option linter.unusedVariables false
set_option linter.unusedSimpArgs false

/-- The values behind a slice's address. -/
def PsB (w : World) (a : Option Addr) (l : List Value) : Prop := ∃ bb off, (l.length = 0 ∨ a = some ⟨bb, off, none⟩) ∧ ∀ i x, l[i]? = some x → w.cell? ⟨bb, off + i, none⟩ = some x

theorem PsB.below {w w' : World} {a : Option Addr} {l : List Value} (h : PsB w a l) (hb : Below w.heap.size w w') : PsB w' a l := by
  obtain ⟨bb, off, h1, h2⟩ := h
  exact ⟨bb, off, h1, fun i x hx => (hb.cell (p := ⟨bb, _, none⟩) (World.block_lt_of_cell? _ _ (h2 i x hx))).trans (h2 i x hx)⟩

theorem PsB.own {w : World} {base e n : Nat} {v : Value} {l : List Value} (h : w.ownsRow base e 1 v n l) : l.length = n ∧ ∃ a cap, v = .slice a n cap ∧ n ≤ cap ∧ cap ≤ maxLen ∧ PsB w a l := by
  obtain ⟨hl, h⟩ := h
  rcases h with ⟨rfl, rfl⟩ | ⟨g, cap, cur, rfl, hb, hg, hc, hm, hz, ht⟩
  · have hl' : l = [] := List.length_eq_zero_iff.1 (by simpa using hl)
    subst hl'
    exact ⟨rfl, none, 0, rfl, Nat.le_refl _, by decide, 0, 0, .inl rfl, fun i x hx => by simp at hx⟩
  · refine ⟨by simpa using hl, _, cap, rfl, hc, hm, g, 0, .inr rfl, fun i x hx => ?_⟩
    have up : i < l.length := (List.getElem?_eq_some_iff.1 hx).1
    rw [← ht, List.getElem?_take_of_lt (by omega)] at hx
    rw [Nat.zero_add]
    simp only [World.cell?, hg]
    have e2 : cur[i]? = some x := by simpa using hx
    show cur[i]? = _
    rw [e2]

/-- What the map of texts counts. -/
def Cnt (D : DataW Unit) (seen : List (List UInt8)) : Prop := ∀ t : List UInt8, D.atKey (.string t) (.lit (.int .i64 0)) = .lit (.int .i64 (if t ∈ seen then 1 else 0))

theorem cnt_start : Cnt (.map []) [] := fun t => by simp [DataW.atKey]

theorem cnt_put {D : DataW Unit} {seen : List (List UInt8)} {t : List UInt8} (h : Cnt D seen) (hm : IsMap D) : Cnt (D.put (.string t) (.lit (.int .i64 1))) (t :: seen) := by
  intro t'
  by_cases e : t' = t
  · subst e
    rw [atKey_put_same hm (show WideAt.IsKeyLit (.string t') from trivial)]
    simp
  · rw [atKey_put_other (by simpa using e), h t']
    simp [e]

def AllX (E : Nat → Ex) (ps : List Nat) (i j : Nat) : Prop := ∀ q, q < j → (h : i + q < ps.length) → isX (E ps[i + q]).kind = true

theorem drop_cons {E : Nat → Ex} {ps : List Nat} {i : Nat} (h : i < ps.length) : (ps.map E).drop i = E ps[i] :: (ps.map E).drop (i + 1) := by
  rw [List.drop_eq_getElem_cons (by simpa using h)]
  simp

theorem pf_end {E : Nat → Ex} {ps : List Nat} {A lo up : Int} {seen : List (List UInt8)} {i : Nat} (h : ps.length ≤ i) : pf A lo up seen ((ps.map E).drop i) = restB lo up ((ps.map E).drop i) := by
  rw [List.drop_of_length_le (by simpa using h)]
  rfl
theorem pf_stop {E : Nat → Ex} {ps : List Nat} {A lo up : Int} {seen : List (List UInt8)} {i : Nat} (h : i < ps.length) (hm : mayA (E ps[i]).kind A = false) : pf A lo up seen ((ps.map E).drop i) = restB lo up ((ps.map E).drop i) := by
  rw [drop_cons h, pf, if_neg (by simp [hm])]
theorem pf_twice {E : Nat → Ex} {ps : List Nat} {A lo up : Int} {seen : List (List UInt8)} {i : Nat} (h : i < ps.length) (hm : mayA (E ps[i]).kind A = true) (hs : (E ps[i]).text.data.toList ∈ seen) : pf A lo up seen ((ps.map E).drop i) = false := by
  rw [drop_cons h, pf, if_pos hm, if_pos hs]
theorem pf_next {E : Nat → Ex} {ps : List Nat} {A lo up : Int} {seen : List (List UInt8)} {i : Nat} (h : i < ps.length) (hm : mayA (E ps[i]).kind A = true) (hs : (E ps[i]).text.data.toList ∉ seen) : pf A lo up seen ((ps.map E).drop i) = pf A lo up ((E ps[i]).text.data.toList :: seen) ((ps.map E).drop (i + 1)) := by
  rw [drop_cons h, pf, if_pos hm, if_neg hs]
theorem rest_no {E : Nat → Ex} {ps : List Nat} {lo up : Int} {i j : Nat} (h : i + j < ps.length) (hx : isX (E ps[i + j]).kind = false) : restB lo up ((ps.map E).drop i) = false := by
  simp only [restB, Bool.and_eq_false_iff]
  left
  rw [List.all_eq_false]
  exact ⟨E ps[i + j], by rw [List.mem_drop_iff_getElem]; exact ⟨j, by simp; omega, by simp [Nat.add_comm]⟩, by simp [hx]⟩
theorem rest_yes {E : Nat → Ex} {ps : List Nat} {lo up : Int} {i : Nat} (h : AllX E ps i (ps.length - i)) : restB lo up ((ps.map E).drop i) = decide (lo ≤ ((ps.length - i : Nat) : Int) ∧ ((ps.length - i : Nat) : Int) ≤ up) := by
  have ha : ((ps.map E).drop i).all (fun x => isX x.kind) = true := by
    rw [List.all_eq_true]
    intro x hx
    obtain ⟨j, hj, rfl⟩ := List.mem_drop_iff_getElem.1 hx
    have hj' : i + j < ps.length := by simp at hj; omega
    have := h j (by omega) (by omega)
    simpa using this
  rw [restB, ha, Bool.true_and]
  simp

/-- The shape that was handed in, in a block of the call's own. -/
def Bx (w : World) (c : Nat) (A lo up : Int) : Prop := w.cell? ⟨c, 0, none⟩ = some (.int .i64 A) ∧ w.cell? ⟨c, 1, none⟩ = some (.int .i64 lo) ∧ w.cell? ⟨c, 2, none⟩ = some (.int .i64 up)

theorem Bx.grown {w w' : World} {c m : Nat} {A lo up : Int} (h : Bx w c A lo up) (hg : w.grownBy w' (some m)) (hne : c ≠ m) : Bx w' c A lo up := by
  obtain ⟨h0, h1, h2⟩ := h
  exact ⟨hg.cell h0 (by simpa using hne), hg.cell h1 (by simpa using hne), hg.cell h2 (by simpa using hne)⟩

theorem keyed9 : Keyed Tryz.prog 9 := string_keyed Tryz.underlying9
theorem zero3 (w : World) : (zeroValue 3).run Tryz.prog w = .ok (.int .i64 0) w := by kernel_rfl

theorem below_map {base : Nat} {w wr w' : World} {m : Nat} (h : Below base w wr) (hg : wr.grownBy w' (some m)) (hs : base ≤ wr.heap.size) (hm : base ≤ m) : Below base w w' :=
  h.grown hg hs (fun k hk => by cases hk; exact hm)

theorem mayA_val {k a : Int} {v : Bool} (w : World) (h : mayA k a = v) : Calls Tryz.prog 64 #[.int .i64 k, .int .i64 a] w fun e w' => e = .returned (.bool v) ∧ w' = w := h ▸ mayA_any k a w

set_option maxRecDepth 100000 in
set_option maxHeartbeats 2000000 in
theorem fit_any (E : Nat → Ex) (b n C : Nat) (ps : List Nat) (av : Option Addr) (cap : Nat) (A lo up u m : Int) (w : World) (hX : XsB w b n E) (hps : ∀ q ∈ ps, q < n) (ht : ∀ i, i < n → (E i).text.size ≤ 1048576) (hP : PsB w av (ps.map (partV E b C))) (hlen : ps.length ≤ 3000) (hc : ps.length ≤ cap ∧ cap ≤ 9223372036854775807) :
    Calls Tryz.prog 49 #[.slice av ps.length cap, .agg #[.int .i64 A, .int .i64 lo, .int .i64 up, .int .i64 u, .int .i64 m]] w fun e w' => e = .returned (.bool (pf A lo up [] (ps.map E))) ∧ Below w.heap.size w w' := by
  obtain ⟨bb, off, hav, hP⟩ := hP
  have hlt : ∀ i (h : i < ps.length), ps[i] < n := fun i h => hps _ (List.getElem_mem h)
  have hcell : ∀ i (h : i < ps.length), w.cell? ⟨bb, off + i, none⟩ = some (partV E b C ps[i]) := fun i h => hP i _ (by simp [h])
  clear hP
  have hav' : ps.length = 0 ∨ av = some ⟨bb, off, none⟩ := by simpa using hav
  clear hav
  have hmm := @run_makeMap Tryz.prog
  have b0 : Below w.heap.size w ((w.alloc (.cells #[.int .i64 A, .int .i64 lo, .int .i64 up, .int .i64 u, .int .i64 m] 95)).alloc (.map #[] 0)) := two_bel _ _ _
  go_enter Tryz.func49, Tryz.ntmps49
  go_wp2
  clear hmm
  go_loopw [0] (fun parts wr => ∃ (i : Nat) (a' : Option Addr) (seen : List (List UInt8)) (D : DataW Unit), i ≤ ps.length ∧ parts = .slice a' (ps.length - i) (cap - i) ∧ (ps.length - i = 0 ∨ a' = some ⟨bb, off + i, none⟩) ∧ pf A lo up [] (ps.map E) = pf A lo up seen ((ps.map E).drop i) ∧ wr.ownsMap Tryz.prog 9 (plainElem Tryz.prog 3) (w.heap.size + 1) i D ∧ Cnt D seen ∧ Bx wr w.heap.size A lo up ∧ Below w.heap.size w wr) (fun parts _ => lenV parts)
  case atStart =>
    refine ⟨0, av, [], .map [], Nat.zero_le _, rfl, by simpa using hav', by simp, ?_, cnt_start, ?_, b0⟩
    · have := World.ownsMap_made (H := Unit) (w.alloc (.cells #[.int .i64 A, .int .i64 lo, .int .i64 up, .int .i64 u, .int .i64 m] 95)) Tryz.prog 9 (plainElem Tryz.prog 3)
      simpa using this
    · refine ⟨?_, ?_, ?_⟩ <;> simp [go_sem]
  case round =>
    obtain ⟨i, a', seen, D, hi, rfl, ha', hpf, hown, hcnt, hbx, hbel⟩ := hrel
    have HP : Hid (pf A lo up [] (ps.map E) = pf A lo up seen ((ps.map E).drop i)) := hpf
    have HCN : Hid (Cnt D seen) := hcnt
    clear hpf hcnt
    have hXr := hX.below hbel
    obtain ⟨x0, x1, x2⟩ := hbx
    obtain ⟨L, hL⟩ : ∃ L, ps.length - i = L := ⟨_, rfl⟩
    obtain ⟨K, hK⟩ : ∃ K, cap - i = K := ⟨_, rfl⟩
    rw [hL] at ha' ⊢
    rw [hK]
    by_cases h0 : i < ps.length
    · have h0' : (0 : Int) < (L : Int) := by omega
      have h0d : decide (0 < L) = true := by simp; omega
      have h0n : 0 < L := by omega
      obtain rfl := ha'.resolve_left (by omega)
      have c0 := hcell i h0
      obtain ⟨k0, k1, k2, k3⟩ := hXr _ (hlt _ h0)
      have c0r : wr.cell? ⟨bb, off + i, none⟩ = some (partV E b C ps[i]) := (hbel.cell (p := ⟨bb, _, none⟩) (World.block_lt_of_cell? _ _ c0)).trans c0
      unfold partV at c0r
      obtain ⟨Z, hZ, hZ0⟩ : ∃ Z, (E ps[i]).size.toNat + 1 = Z ∧ 0 < Z := ⟨_, rfl, by omega⟩
      rw [hZ] at c0r
      clear c0 hZ
      cases hm : mayA (E ps[i]).kind A with
      | true =>
        have hsz := hbel.size
        have hkey : keyOf Tryz.prog 9 (.string (E ps[i]).text) = some (.string (E ps[i]).text.data.toList) := WideMaps.keyOf_string_mk Tryz.underlying9 (by have := ht _ (hlt _ h0); unfold maxLen; omega)
        have hbl : b < w.heap.size := World.block_lt_of_cell? _ _ (hX _ (hlt _ h0)).1
        have hbbl : bb < w.heap.size := World.block_lt_of_cell? _ _ (hcell i h0)
        have NE1 : some bb ≠ some (w.heap.size + 1) := by simp; omega
        have NE2 : some b ≠ some (w.heap.size + 1) := by simp; omega
        have NE3 : some w.heap.size ≠ some (w.heap.size + 1) := by simp
        by_cases hs : (E ps[i]).text.data.toList ∈ seen
        · have HAT : Hid (D.atKey (.string (E ps[i]).text.data.toList) (.lit (.int .i64 0)) = .lit (.int .i64 1)) := by show _ = _; rw [HCN.out]; simp [hs]
          have HF : Hid (pf A lo up [] (ps.map E) = false) := by show _ = _; rw [HP.out]; exact pf_twice h0 hm hs
          go_wp2
          go_quiet (first | (go_at_call 64; refine Calls.quiet_of_same (mayA_val _ hm)))
          have hownq : (wr.drewN nq).ownsMap Tryz.prog 9 (plainElem Tryz.prog 3) (w.heap.size + 1) i D := hown
          have q0 : (wr.drewN nq).cell? ⟨bb, off + i, none⟩ = some (.slice (some ⟨b, ps[i] * 4, none⟩) Z (C - ps[i])) := c0r
          have q1 : (wr.drewN nq).cell? ⟨b, ps[i] * 4 + 1, none⟩ = some (.string (E ps[i]).text) := k1
          go_wp2_with (first
            | (at_lookup; refine wpList_lookup_own_int _ rfl _ _ 32 rfl 9 3 .i64 keyed9 Tryz.underlying32 Tryz.underlying3 (zero3 _) (w.heap.size + 1) i D rfl hownq _ _ rfl hkey ?_; intro c hat hwc; rw [HAT.out] at hat; cases hat; clear hwc)
            | (at_mapUpdate; refine wpList_mapUpdate_own _ rfl _ _ _ 32 rfl 9 3 keyed9 Tryz.underlying32 _ (w.heap.size + 1) i D rfl hownq (by unfold maxLen; omega) _ _ _ rfl rfl hkey _ [] (plainElem_int Tryz.underlying3 (show (Lit.int .i64 2).wf = true by decide)) ?_; intro w1 hown1 hg1; have r0 := hg1.cell q0 NE1; have r1 := hg1.cell q1 NE2)
            | (at_lookup; refine wpList_lookup_own_int _ rfl _ _ 32 rfl 9 3 .i64 keyed9 Tryz.underlying32 Tryz.underlying3 (zero3 _) (w.heap.size + 1) (i + 1) _ rfl hown1 _ _ rfl hkey ?_; intro c hat hwc; rw [atKey_put_same hown.isMap (show WideAt.IsKeyLit (.string (E ps[i]).text.data.toList) from trivial)] at hat; cases hat; clear hwc)
            | go_in)
          go_ret
          exact ⟨ret_bool HF.out.symm, below_map (Go.below_drewN hbel _) hg1 (by simp; omega) (by omega)⟩
        · have HAT : Hid (D.atKey (.string (E ps[i]).text.data.toList) (.lit (.int .i64 0)) = .lit (.int .i64 0)) := by show _ = _; rw [HCN.out]; simp [hs]
          have HN : Hid (pf A lo up [] (ps.map E) = pf A lo up ((E ps[i]).text.data.toList :: seen) ((ps.map E).drop (i + 1))) := by show _ = _; rw [HP.out]; exact pf_next h0 hm hs
          go_wp2
          go_quiet (first | (go_at_call 64; refine Calls.quiet_of_same (mayA_val _ hm)))
          have hownq : (wr.drewN nq).ownsMap Tryz.prog 9 (plainElem Tryz.prog 3) (w.heap.size + 1) i D := hown
          have q0 : (wr.drewN nq).cell? ⟨bb, off + i, none⟩ = some (.slice (some ⟨b, ps[i] * 4, none⟩) Z (C - ps[i])) := c0r
          have q1 : (wr.drewN nq).cell? ⟨b, ps[i] * 4 + 1, none⟩ = some (.string (E ps[i]).text) := k1
          go_wp2_with (first
            | (at_lookup; refine wpList_lookup_own_int _ rfl _ _ 32 rfl 9 3 .i64 keyed9 Tryz.underlying32 Tryz.underlying3 (zero3 _) (w.heap.size + 1) i D rfl hownq _ _ rfl hkey ?_; intro c hat hwc; rw [HAT.out] at hat; cases hat; clear hwc)
            | (at_mapUpdate; refine wpList_mapUpdate_own _ rfl _ _ _ 32 rfl 9 3 keyed9 Tryz.underlying32 _ (w.heap.size + 1) i D rfl hownq (by unfold maxLen; omega) _ _ _ rfl rfl hkey _ [] (plainElem_int Tryz.underlying3 (show (Lit.int .i64 1).wf = true by decide)) ?_; intro w1 hown1 hg1; have r0 := hg1.cell q0 NE1; have r1 := hg1.cell q1 NE2)
            | (at_lookup; refine wpList_lookup_own_int _ rfl _ _ 32 rfl 9 3 .i64 keyed9 Tryz.underlying32 Tryz.underlying3 (zero3 _) (w.heap.size + 1) (i + 1) _ rfl hown1 _ _ rfl hkey ?_; intro c hat hwc; rw [atKey_put_same hown.isMap (show WideAt.IsKeyLit (.string (E ps[i]).text.data.toList) from trivial)] at hat; cases hat; clear hwc)
            | go_in)
          go_roundw
          case rel =>
            refine ⟨i + 1, (if K = 1 then some ⟨bb, off + i, none⟩ else some ⟨bb, off + i + 1, none⟩), (E ps[i]).text.data.toList :: seen, _, by omega, ?_, ?_, HN.out, hown1, cnt_put HCN.out hown.isMap, ⟨hg1.cell (show (wr.drewN nq).cell? _ = _ from x0) NE3, hg1.cell (show (wr.drewN nq).cell? _ = _ from x1) NE3, hg1.cell (show (wr.drewN nq).cell? _ = _ from x2) NE3⟩, below_map (Go.below_drewN hbel _) hg1 (by simp; omega) (by omega)⟩
            · rw [show ps.length - (i + 1) = L - 1 by omega, show cap - (i + 1) = K - 1 by omega]
            · by_cases hK1 : K = 1
              · exact .inl (by omega)
              · right
                rw [if_neg hK1, Nat.add_assoc]
          case measure => simp [lenV]; omega
      | false =>
        have HR : Hid (pf A lo up [] (ps.map E) = restB lo up ((ps.map E).drop i)) := by show _ = _; rw [HP.out]; exact pf_stop h0 hm
        go_wp2
        go_quiet (first | (go_at_call 64; refine Calls.quiet_of_same (mayA_val _ hm)))
        go_wp2
        go_loop [7, 45] (fun _ x => ∃ j : Nat, j ≤ L ∧ x = .int .i64 (j : Int) ∧ AllX E ps i j) (fun _ x => L - (intOf x).toNat)
        case atStart => exact ⟨0, Nat.zero_le _, rfl, fun q hq => by omega⟩
        case round =>
          obtain ⟨j, hj, rfl, hall⟩ := hrel
          have HA : Hid (AllX E ps i j) := hall
          clear hall
          by_cases hjl : j < L
          · have hjl' : (j : Int) < (L : Int) := by omega
            have hij : i + j < ps.length := by omega
            have c0 := (hcell (i + j) hij)
            rw [← Nat.add_assoc] at c0
            have k0 := (hXr _ (hlt _ hij)).1
            have c0r : wr.cell? ⟨bb, off + i + j, none⟩ = some (partV E b C ps[i + j]) := (hbel.cell (p := ⟨bb, _, none⟩) (World.block_lt_of_cell? _ _ c0)).trans c0
            unfold partV at c0r
            obtain ⟨Y, hY, hY0⟩ : ∃ Z, (E ps[i + j]).size.toNat + 1 = Z ∧ 0 < Z := ⟨_, rfl, by omega⟩
            rw [hY] at c0r
            clear c0 hY
            cases hx : isX (E ps[i + j]).kind with
            | true =>
              go_wp2_with (go_at_call 21; refine (isX_any _ _).mono ?_; rw [hx]; rintro e w' ⟨rfl, rfl⟩)
              go_round
              case rel => exact ⟨j + 1, by omega, by go_num, fun q hq h => by
                rcases Nat.lt_or_ge q j with h' | h'
                · exact HA.out q h' (by omega)
                · obtain rfl : q = j := by omega
                  exact hx⟩
              case measure => simp [intOf]; omega
            | false =>
              have HF : Hid (pf A lo up [] (ps.map E) = false) := by show _ = _; rw [HR.out]; exact rest_no hij hx
              go_wp2_with (go_at_call 21; refine (isX_any _ _).mono ?_; rw [hx]; rintro e w' ⟨rfl, rfl⟩)
              go_ret
              exact ⟨ret_bool HF.out.symm, by first | exact hbel | exact Go.below_drewN hbel _⟩
          · have hjl' : ¬ (j : Int) < (L : Int) := by omega
            have hje : j = L := by omega
            rw [hje] at HA
            clear hje
            have HE : Hid (pf A lo up [] (ps.map E) = decide (lo ≤ (L : Int) ∧ (L : Int) ≤ up)) := by show _ = _; rw [HR.out]; rw [← hL]; exact rest_yes (by rw [hL]; exact HA.out)
            by_cases hlo : lo ≤ (L : Int)
            · go_wp2
              go_ret
              exact ⟨ret_bool (by rw [HE.out, Bool.eq_iff_iff]; simp; omega), by first | exact hbel | exact Go.below_drewN hbel _⟩
            · go_wp2
              go_ret
              exact ⟨ret_bool (by rw [HE.out]; simp; omega), by first | exact hbel | exact Go.below_drewN hbel _⟩
    · have h0' : ¬ (0 : Int) < (L : Int) := by omega
      have h0d : decide (0 < L) = false := by simp; omega
      have HR : Hid (pf A lo up [] (ps.map E) = restB lo up ((ps.map E).drop i)) := by show _ = _; rw [HP.out]; exact pf_end (by omega)
      go_wp2
      go_quiet (fail)
      go_wp2
      go_loop [7, 45] (fun _ x => ∃ j : Nat, j ≤ L ∧ x = .int .i64 (j : Int) ∧ AllX E ps i j) (fun _ x => L - (intOf x).toNat)
      case atStart => exact ⟨0, Nat.zero_le _, rfl, fun q hq => by omega⟩
      case round =>
        obtain ⟨j, hj, rfl, hall⟩ := hrel
        have HA : Hid (AllX E ps i j) := hall
        clear hall
        have hjl : ¬ j < L := by omega
        have hjl' : ¬ (j : Int) < (L : Int) := by omega
        have hje : j = L := by omega
        rw [hje] at HA
        clear hje
        have HE : Hid (pf A lo up [] (ps.map E) = decide (lo ≤ (L : Int) ∧ (L : Int) ≤ up)) := by show _ = _; rw [HR.out]; rw [← hL]; exact rest_yes (by rw [hL]; exact HA.out)
        by_cases hlo : lo ≤ (L : Int)
        · go_wp2
          go_ret
          exact ⟨ret_bool (by rw [HE.out, Bool.eq_iff_iff]; simp; omega), by first | exact hbel | exact Go.below_drewN hbel _⟩
        · go_wp2
          go_ret
          exact ⟨ret_bool (by rw [HE.out]; simp; omega), by first | exact hbel | exact Go.below_drewN hbel _⟩

end Go.Proofs.YtifgaaemdojmpaaGreatDoor.ex

namespace Go.Proofs.YtifgaaemdojmpaaGreatDoor.ex
open Go.ChangeShapes Go.WideShapes Go.ChangeAt Go.RowKit Go.Deep
set_option linter.unusedVariables false
set_option linter.unusedSimpArgs false

/-- The values behind a slice's address, in a block of a kind. -/
def PsO (w : World) (O : Nat → Prop) (a : Option Addr) (l : List Value) : Prop := ∃ bb off, (l.length = 0 ∨ a = some ⟨bb, off, none⟩ ∧ O bb) ∧ ∀ i x, l[i]? = some x → w.cell? ⟨bb, off + i, none⟩ = some x

theorem PsO.kept {w w' : World} {O : Nat → Prop} {a : Option Addr} {l : List Value} (h : PsO w O a l) (hk : ∀ bb, O bb → w'.heap[bb]? = w.heap[bb]?) : PsO w' O a l := by
  obtain ⟨bb, off, h1, h2⟩ := h
  rcases h1 with h0 | ⟨e, hO⟩
  · exact ⟨bb, off, .inl h0, fun i x hx => by rw [List.length_eq_zero_iff.1 h0] at hx; simp at hx⟩
  · refine ⟨bb, off, .inr ⟨e, hO⟩, fun i x hx => ?_⟩
    have := h2 i x hx
    simp only [World.cell?] at this ⊢
    rw [hk bb hO]
    exact this
theorem PsO.below {w w' : World} {O : Nat → Prop} {a : Option Addr} {l : List Value} (h : PsO w O a l) (hO : ∀ bb, O bb → bb < w.heap.size) (hb : Below w.heap.size w w') : PsO w' O a l := h.kept fun bb hbb => hb.block bb (hO bb hbb)
theorem PsO.mono {w : World} {O O' : Nat → Prop} {a : Option Addr} {l : List Value} (h : PsO w O a l) (hO : ∀ bb, O bb → O' bb) : PsO w O' a l := by
  obtain ⟨bb, off, h1, h2⟩ := h
  exact ⟨bb, off, h1.imp id (fun h => ⟨h.1, hO _ h.2⟩), h2⟩

/-- What value a node has, its parts' values being known. -/
inductive NodeV (w : World) (O : Nat → Prop) (t : ByteArray) (n : Int) : Int → List Value → Value → Prop where
  | intN : NodeV w O t n 1 [] (.iface 124 (.agg #[.int .i64 n]))
  | strN : NodeV w O t n 2 [] (.iface 126 (.agg #[.string t]))
  | nameN : NodeV w O t n 3 [] (.iface 51 (.agg #[.string t]))
  | listN (vs : List Value) (a : Option Addr) (cap : Nat) (h : PsO w O a vs) : NodeV w O t n 4 vs (.iface 99 (.agg #[.slice a vs.length cap]))
  | setN (vs : List Value) (a : Option Addr) (cap : Nat) (h : PsO w O a vs) : NodeV w O t n 5 vs (.iface 56 (.agg #[.bool (n == 1), .slice a vs.length cap]))
  | bindN (x : Value) : NodeV w O t n 6 [x] (.iface 101 (.agg #[.string t, x]))
  | inheritN : NodeV w O t n 7 [] (.iface 53 (.agg #[.string t]))
  | letN (vs : List Value) (x : Value) (a : Option Addr) (cap : Nat) (h : PsO w O a vs) : NodeV w O t n 8 (vs ++ [x]) (.iface 60 (.agg #[.slice a vs.length cap, x]))
  | withN (x y : Value) : NodeV w O t n 9 [x, y] (.iface 104 (.agg #[x, y]))
  | assertN (x y : Value) : NodeV w O t n 10 [x, y] (.iface 106 (.agg #[x, y]))
  | callN (x y : Value) : NodeV w O t n 11 [x, y] (.iface 108 (.agg #[x, y]))
  | ifN (x y z : Value) : NodeV w O t n 12 [x, y, z] (.iface 110 (.agg #[x, y, z]))
  | funN (x : Value) : NodeV w O t n 13 [x] (.iface 62 (.agg #[.string t, x]))
  | takeN (vs : List Value) (x : Value) (a : Option Addr) (cap : Nat) (h : PsO w O a vs) : NodeV w O t n 14 (vs ++ [x]) (.iface 65 (.agg #[.slice a vs.length cap, .bool (n == 1), x]))
  | param0 : NodeV w O t n 15 [] (.iface 112 (.agg #[.string t, .nilIface]))
  | param1 (x : Value) : NodeV w O t n 15 [x] (.iface 112 (.agg #[.string t, x]))
  | get1 (x : Value) : NodeV w O t n 16 [x] (.iface 115 (.agg #[x, .string t, .nilIface]))
  | get2 (x y : Value) : NodeV w O t n 16 [x, y] (.iface 115 (.agg #[x, .string t, y]))
  | hasN (x : Value) : NodeV w O t n 17 [x] (.iface 117 (.agg #[x, .string t]))
  | binN (x y : Value) : NodeV w O t n 18 [x, y] (.iface 119 (.agg #[.string t, x, y]))
  | negN (x : Value) : NodeV w O t n 19 [x] (.iface 121 (.agg #[x]))
  | notN (x : Value) : NodeV w O t n 20 [x] (.iface 122 (.agg #[x]))

theorem NodeV.kept {w w' : World} {O O' : Nat → Prop} {t : ByteArray} {n k : Int} {vs : List Value} {v : Value} (h : NodeV w O t n k vs v) (hk : ∀ bb, O bb → w'.heap[bb]? = w.heap[bb]?) (hO : ∀ bb, O bb → O' bb) : NodeV w' O' t n k vs v := by
  cases h with
  | intN  => exact .intN 
  | strN  => exact .strN 
  | nameN  => exact .nameN 
  | listN _ a cap h => exact .listN _ a cap ((h.kept hk).mono hO)
  | setN _ a cap h => exact .setN _ a cap ((h.kept hk).mono hO)
  | bindN x => exact .bindN x
  | inheritN  => exact .inheritN 
  | letN vs x a cap h => exact .letN vs x a cap ((h.kept hk).mono hO)
  | withN x y => exact .withN x y
  | assertN x y => exact .assertN x y
  | callN x y => exact .callN x y
  | ifN x y z => exact .ifN x y z
  | funN x => exact .funN x
  | takeN vs x a cap h => exact .takeN vs x a cap ((h.kept hk).mono hO)
  | param0 => exact .param0
  | param1 x => exact .param1 x
  | get1 x => exact .get1 x
  | get2 x y => exact .get2 x y
  | hasN x => exact .hasN x
  | binN x y => exact .binN x y
  | negN x => exact .negN x
  | notN x => exact .notN x

theorem PsO.init {w : World} {O : Nat → Prop} {a : Option Addr} {vs : List Value} {x : Value} (h : PsO w O a (vs ++ [x])) : PsO w O a vs := by
  obtain ⟨bb, off, h1, h2⟩ := h
  refine ⟨bb, off, .inr (h1.resolve_left (by simp)), fun i y hy => h2 i y ?_⟩
  rw [List.getElem?_append_left (List.getElem?_eq_some_iff.1 hy).1]
  exact hy

theorem partAt_yes {w : World} {bb off len cap i : Nat} {x : Value} (hi : i < len) (hn : len ≤ maxLen) (h : w.cell? ⟨bb, off + i, none⟩ = some x) :
    Calls Tryz.prog 52 #[.slice (some ⟨bb, off, none⟩) len cap, .int .i64 (i : Int)] w fun e w' => e = .returned x ∧ w' = w := by
  have hi' : (i : Int) < (len : Int) := by omega
  go_enter Tryz.func52, Tryz.ntmps52
  go_wp2
  go_ret
  exact ⟨rfl, rfl⟩
theorem partAt_no {w : World} {a : Option Addr} {len cap i : Nat} (hi : ¬ i < len) :
    Calls Tryz.prog 52 #[.slice a len cap, .int .i64 (i : Int)] w fun e w' => e = .returned .nilIface ∧ w' = w := by
  have hi' : ¬ (i : Int) < (len : Int) := by omega
  go_enter Tryz.func52, Tryz.ntmps52
  go_wp2
  go_ret
  exact ⟨rfl, rfl⟩

set_option maxRecDepth 100000 in
set_option maxHeartbeats 400000 in
theorem node1_any (t : ByteArray) (n s : Int) (O : Nat → Prop) (a : Option Addr) (cap : Nat) (w : World) (hO : ∀ bb, O bb → bb < w.heap.size) (hP : PsO w O a ([] : List Value)) (hc : (([] : List Value)).length ≤ cap ∧ cap ≤ maxLen) (hs : (([] : List Value)).length ≤ 3000) :
    Calls Tryz.prog 31 #[.agg #[.int .i64 1, .string t, .int .i64 n, .int .i64 s], .slice a 0 cap] w fun e w' => ∃ v, e = .returned v ∧ NodeV w' O t n 1 ([] : List Value) v ∧ Below w.heap.size w w' := by
  have b0 : Below w.heap.size w (w.alloc (.cells #[.int .i64 1, .string t, .int .i64 n, .int .i64 s] 27)) := (Below.refl _ _).alloc (Nat.le_refl _) _
  go_enter Tryz.func31, Tryz.ntmps31
  go_wp2_with fail
  go_ret
  exact ⟨_, rfl, .intN, b0⟩

set_option maxRecDepth 100000 in
set_option maxHeartbeats 400000 in
theorem node2_any (t : ByteArray) (n s : Int) (O : Nat → Prop) (a : Option Addr) (cap : Nat) (w : World) (hO : ∀ bb, O bb → bb < w.heap.size) (hP : PsO w O a ([] : List Value)) (hc : (([] : List Value)).length ≤ cap ∧ cap ≤ maxLen) (hs : (([] : List Value)).length ≤ 3000) :
    Calls Tryz.prog 31 #[.agg #[.int .i64 2, .string t, .int .i64 n, .int .i64 s], .slice a 0 cap] w fun e w' => ∃ v, e = .returned v ∧ NodeV w' O t n 2 ([] : List Value) v ∧ Below w.heap.size w w' := by
  have b0 : Below w.heap.size w (w.alloc (.cells #[.int .i64 2, .string t, .int .i64 n, .int .i64 s] 27)) := (Below.refl _ _).alloc (Nat.le_refl _) _
  go_enter Tryz.func31, Tryz.ntmps31
  go_wp2_with fail
  go_ret
  exact ⟨_, rfl, .strN, b0⟩

set_option maxRecDepth 100000 in
set_option maxHeartbeats 400000 in
theorem node3_any (t : ByteArray) (n s : Int) (O : Nat → Prop) (a : Option Addr) (cap : Nat) (w : World) (hO : ∀ bb, O bb → bb < w.heap.size) (hP : PsO w O a ([] : List Value)) (hc : (([] : List Value)).length ≤ cap ∧ cap ≤ maxLen) (hs : (([] : List Value)).length ≤ 3000) :
    Calls Tryz.prog 31 #[.agg #[.int .i64 3, .string t, .int .i64 n, .int .i64 s], .slice a 0 cap] w fun e w' => ∃ v, e = .returned v ∧ NodeV w' O t n 3 ([] : List Value) v ∧ Below w.heap.size w w' := by
  have b0 : Below w.heap.size w (w.alloc (.cells #[.int .i64 3, .string t, .int .i64 n, .int .i64 s] 27)) := (Below.refl _ _).alloc (Nat.le_refl _) _
  go_enter Tryz.func31, Tryz.ntmps31
  go_wp2_with fail
  go_ret
  exact ⟨_, rfl, .nameN, b0⟩

set_option maxRecDepth 100000 in
set_option maxHeartbeats 400000 in
theorem node4_any (t : ByteArray) (n s : Int) (vs : List Value) (O : Nat → Prop) (a : Option Addr) (cap : Nat) (w : World) (hO : ∀ bb, O bb → bb < w.heap.size) (hP : PsO w O a vs) (hc : (vs).length ≤ cap ∧ cap ≤ maxLen) (hs : (vs).length ≤ 3000) :
    Calls Tryz.prog 31 #[.agg #[.int .i64 4, .string t, .int .i64 n, .int .i64 s], .slice a vs.length cap] w fun e w' => ∃ v, e = .returned v ∧ NodeV w' O t n 4 vs v ∧ Below w.heap.size w w' := by
  have b0 : Below w.heap.size w (w.alloc (.cells #[.int .i64 4, .string t, .int .i64 n, .int .i64 s] 27)) := (Below.refl _ _).alloc (Nat.le_refl _) _
  go_enter Tryz.func31, Tryz.ntmps31
  go_wp2_with fail
  go_ret
  exact ⟨_, rfl, .listN _ _ _ (hP.below hO b0), b0⟩

set_option maxRecDepth 100000 in
set_option maxHeartbeats 400000 in
theorem node5_any (t : ByteArray) (n s : Int) (vs : List Value) (O : Nat → Prop) (a : Option Addr) (cap : Nat) (w : World) (hO : ∀ bb, O bb → bb < w.heap.size) (hP : PsO w O a vs) (hc : (vs).length ≤ cap ∧ cap ≤ maxLen) (hs : (vs).length ≤ 3000) :
    Calls Tryz.prog 31 #[.agg #[.int .i64 5, .string t, .int .i64 n, .int .i64 s], .slice a vs.length cap] w fun e w' => ∃ v, e = .returned v ∧ NodeV w' O t n 5 vs v ∧ Below w.heap.size w w' := by
  have b0 : Below w.heap.size w (w.alloc (.cells #[.int .i64 5, .string t, .int .i64 n, .int .i64 s] 27)) := (Below.refl _ _).alloc (Nat.le_refl _) _
  go_enter Tryz.func31, Tryz.ntmps31
  go_wp2_with fail
  go_ret
  exact ⟨_, rfl, .setN _ _ _ (hP.below hO b0), b0⟩

set_option maxRecDepth 100000 in
set_option maxHeartbeats 400000 in
theorem node6_any (t : ByteArray) (n s : Int) (xt : TypeId) (xp : Value) (O : Nat → Prop) (a : Option Addr) (cap : Nat) (w : World) (hO : ∀ bb, O bb → bb < w.heap.size) (hP : PsO w O a [Value.iface xt xp]) (hc : ([Value.iface xt xp]).length ≤ cap ∧ cap ≤ maxLen) (hs : ([Value.iface xt xp]).length ≤ 3000) :
    Calls Tryz.prog 31 #[.agg #[.int .i64 6, .string t, .int .i64 n, .int .i64 s], .slice a 1 cap] w fun e w' => ∃ v, e = .returned v ∧ NodeV w' O t n 6 [Value.iface xt xp] v ∧ Below w.heap.size w w' := by
  have b0 : Below w.heap.size w (w.alloc (.cells #[.int .i64 6, .string t, .int .i64 n, .int .i64 s] 27)) := (Below.refl _ _).alloc (Nat.le_refl _) _
  obtain ⟨bb, off, ha, hcell⟩ := hP
  obtain ⟨rfl, hOb⟩ := ha.resolve_left (by simp)
  have c0 : (w.alloc (.cells #[.int .i64 6, .string t, .int .i64 n, .int .i64 s] 27)).cell? ⟨bb, off, none⟩ = some (.iface xt xp) := by
    have h := hcell 0 (.iface xt xp) (by simp)
    rw [Nat.add_zero] at h
    rw [b0.cell (p := ⟨bb, _, none⟩) (World.block_lt_of_cell? _ _ h), h]
  clear hcell
  obtain ⟨x0, x1, x2, x3⟩ := lx.four_lit w (.int .i64 6) (.string t) (.int .i64 n) (.int .i64 s) 27
  go_enter Tryz.func31, Tryz.ntmps31
  go_wp2_with fail
  go_quiet (fail)
  go_wp2_with fail
  go_ret
  exact ⟨_, rfl, .bindN _, Go.below_drewN b0 _⟩

set_option maxRecDepth 100000 in
set_option maxHeartbeats 400000 in
theorem node7_any (t : ByteArray) (n s : Int) (O : Nat → Prop) (a : Option Addr) (cap : Nat) (w : World) (hO : ∀ bb, O bb → bb < w.heap.size) (hP : PsO w O a ([] : List Value)) (hc : (([] : List Value)).length ≤ cap ∧ cap ≤ maxLen) (hs : (([] : List Value)).length ≤ 3000) :
    Calls Tryz.prog 31 #[.agg #[.int .i64 7, .string t, .int .i64 n, .int .i64 s], .slice a 0 cap] w fun e w' => ∃ v, e = .returned v ∧ NodeV w' O t n 7 ([] : List Value) v ∧ Below w.heap.size w w' := by
  have b0 : Below w.heap.size w (w.alloc (.cells #[.int .i64 7, .string t, .int .i64 n, .int .i64 s] 27)) := (Below.refl _ _).alloc (Nat.le_refl _) _
  go_enter Tryz.func31, Tryz.ntmps31
  go_wp2_with fail
  go_ret
  exact ⟨_, rfl, .inheritN, b0⟩

set_option maxRecDepth 100000 in
set_option maxHeartbeats 400000 in
theorem node8_any (t : ByteArray) (n s : Int) (vs : List Value) (xt : TypeId) (xp : Value) (O : Nat → Prop) (a : Option Addr) (cap : Nat) (w : World) (hO : ∀ bb, O bb → bb < w.heap.size) (hP : PsO w O a (vs ++ [Value.iface xt xp])) (hc : ((vs ++ [Value.iface xt xp])).length ≤ cap ∧ cap ≤ maxLen) (hs : ((vs ++ [Value.iface xt xp])).length ≤ 3000) :
    Calls Tryz.prog 31 #[.agg #[.int .i64 8, .string t, .int .i64 n, .int .i64 s], .slice a (vs.length + 1) cap] w fun e w' => ∃ v, e = .returned v ∧ NodeV w' O t n 8 (vs ++ [Value.iface xt xp]) v ∧ Below w.heap.size w w' := by
  have b0 : Below w.heap.size w (w.alloc (.cells #[.int .i64 8, .string t, .int .i64 n, .int .i64 s] 27)) := (Below.refl _ _).alloc (Nat.le_refl _) _
  obtain ⟨bb, off, ha, hcell⟩ := hP
  obtain ⟨rfl, hOb⟩ := ha.resolve_left (by simp)
  have c0 : (w.alloc (.cells #[.int .i64 8, .string t, .int .i64 n, .int .i64 s] 27)).cell? ⟨bb, off + vs.length, none⟩ = some (.iface xt xp) := by
    have h := hcell vs.length (.iface xt xp) (by simp)
    rw [b0.cell (p := ⟨bb, _, none⟩) (World.block_lt_of_cell? _ _ h), h]
  have hP0 : PsO (w.alloc (.cells #[.int .i64 8, .string t, .int .i64 n, .int .i64 s] 27)) O (some ⟨bb, off, none⟩) vs := (PsO.init ⟨bb, off, .inr ⟨rfl, hOb⟩, hcell⟩).below hO b0
  clear hcell
  simp only [List.length_append, List.length_cons, List.length_nil] at hc hs
  obtain ⟨L, hL⟩ : ∃ L, vs.length = L := ⟨_, rfl⟩
  rw [hL] at c0 hc hs
  have hL1 : (L : Int) < ((L + 1 : Nat) : Int) := by omega
  have hL2 : ((L + 1 : Nat) : Int) - 1 = (L : Int) := by omega
  obtain ⟨x0, x1, x2, x3⟩ := lx.four_lit w (.int .i64 8) (.string t) (.int .i64 n) (.int .i64 s) 27
  go_enter Tryz.func31, Tryz.ntmps31
  go_wp2_with fail
  go_quiet (fail)
  go_wp2_with fail
  go_ret
  exact ⟨_, rfl, by rw [← hL]; exact .letN _ _ _ _ hP0, Go.below_drewN b0 _⟩

set_option maxRecDepth 100000 in
set_option maxHeartbeats 400000 in
theorem node9_any (t : ByteArray) (n s : Int) (xt : TypeId) (xp : Value) (yt : TypeId) (yp : Value) (O : Nat → Prop) (a : Option Addr) (cap : Nat) (w : World) (hO : ∀ bb, O bb → bb < w.heap.size) (hP : PsO w O a [Value.iface xt xp, Value.iface yt yp]) (hc : ([Value.iface xt xp, Value.iface yt yp]).length ≤ cap ∧ cap ≤ maxLen) (hs : ([Value.iface xt xp, Value.iface yt yp]).length ≤ 3000) :
    Calls Tryz.prog 31 #[.agg #[.int .i64 9, .string t, .int .i64 n, .int .i64 s], .slice a 2 cap] w fun e w' => ∃ v, e = .returned v ∧ NodeV w' O t n 9 [Value.iface xt xp, Value.iface yt yp] v ∧ Below w.heap.size w w' := by
  have b0 : Below w.heap.size w (w.alloc (.cells #[.int .i64 9, .string t, .int .i64 n, .int .i64 s] 27)) := (Below.refl _ _).alloc (Nat.le_refl _) _
  obtain ⟨bb, off, ha, hcell⟩ := hP
  obtain ⟨rfl, hOb⟩ := ha.resolve_left (by simp)
  have c0 : (w.alloc (.cells #[.int .i64 9, .string t, .int .i64 n, .int .i64 s] 27)).cell? ⟨bb, off, none⟩ = some (.iface xt xp) := by
    have h := hcell 0 (.iface xt xp) (by simp)
    rw [Nat.add_zero] at h
    rw [b0.cell (p := ⟨bb, _, none⟩) (World.block_lt_of_cell? _ _ h), h]
  have c1 : (w.alloc (.cells #[.int .i64 9, .string t, .int .i64 n, .int .i64 s] 27)).cell? ⟨bb, off + 1, none⟩ = some (.iface yt yp) := by
    have h := hcell 1 (.iface yt yp) (by simp)
    rw [b0.cell (p := ⟨bb, _, none⟩) (World.block_lt_of_cell? _ _ h), h]
  clear hcell
  obtain ⟨x0, x1, x2, x3⟩ := lx.four_lit w (.int .i64 9) (.string t) (.int .i64 n) (.int .i64 s) 27
  go_enter Tryz.func31, Tryz.ntmps31
  go_wp2_with fail
  go_quiet (fail)
  go_wp2_with fail
  go_ret
  exact ⟨_, rfl, .withN _ _, Go.below_drewN b0 _⟩

set_option maxRecDepth 100000 in
set_option maxHeartbeats 400000 in
theorem node10_any (t : ByteArray) (n s : Int) (xt : TypeId) (xp : Value) (yt : TypeId) (yp : Value) (O : Nat → Prop) (a : Option Addr) (cap : Nat) (w : World) (hO : ∀ bb, O bb → bb < w.heap.size) (hP : PsO w O a [Value.iface xt xp, Value.iface yt yp]) (hc : ([Value.iface xt xp, Value.iface yt yp]).length ≤ cap ∧ cap ≤ maxLen) (hs : ([Value.iface xt xp, Value.iface yt yp]).length ≤ 3000) :
    Calls Tryz.prog 31 #[.agg #[.int .i64 10, .string t, .int .i64 n, .int .i64 s], .slice a 2 cap] w fun e w' => ∃ v, e = .returned v ∧ NodeV w' O t n 10 [Value.iface xt xp, Value.iface yt yp] v ∧ Below w.heap.size w w' := by
  have b0 : Below w.heap.size w (w.alloc (.cells #[.int .i64 10, .string t, .int .i64 n, .int .i64 s] 27)) := (Below.refl _ _).alloc (Nat.le_refl _) _
  obtain ⟨bb, off, ha, hcell⟩ := hP
  obtain ⟨rfl, hOb⟩ := ha.resolve_left (by simp)
  have c0 : (w.alloc (.cells #[.int .i64 10, .string t, .int .i64 n, .int .i64 s] 27)).cell? ⟨bb, off, none⟩ = some (.iface xt xp) := by
    have h := hcell 0 (.iface xt xp) (by simp)
    rw [Nat.add_zero] at h
    rw [b0.cell (p := ⟨bb, _, none⟩) (World.block_lt_of_cell? _ _ h), h]
  have c1 : (w.alloc (.cells #[.int .i64 10, .string t, .int .i64 n, .int .i64 s] 27)).cell? ⟨bb, off + 1, none⟩ = some (.iface yt yp) := by
    have h := hcell 1 (.iface yt yp) (by simp)
    rw [b0.cell (p := ⟨bb, _, none⟩) (World.block_lt_of_cell? _ _ h), h]
  clear hcell
  obtain ⟨x0, x1, x2, x3⟩ := lx.four_lit w (.int .i64 10) (.string t) (.int .i64 n) (.int .i64 s) 27
  go_enter Tryz.func31, Tryz.ntmps31
  go_wp2_with fail
  go_quiet (fail)
  go_wp2_with fail
  go_ret
  exact ⟨_, rfl, .assertN _ _, Go.below_drewN b0 _⟩

set_option maxRecDepth 100000 in
set_option maxHeartbeats 400000 in
theorem node11_any (t : ByteArray) (n s : Int) (xt : TypeId) (xp : Value) (yt : TypeId) (yp : Value) (O : Nat → Prop) (a : Option Addr) (cap : Nat) (w : World) (hO : ∀ bb, O bb → bb < w.heap.size) (hP : PsO w O a [Value.iface xt xp, Value.iface yt yp]) (hc : ([Value.iface xt xp, Value.iface yt yp]).length ≤ cap ∧ cap ≤ maxLen) (hs : ([Value.iface xt xp, Value.iface yt yp]).length ≤ 3000) :
    Calls Tryz.prog 31 #[.agg #[.int .i64 11, .string t, .int .i64 n, .int .i64 s], .slice a 2 cap] w fun e w' => ∃ v, e = .returned v ∧ NodeV w' O t n 11 [Value.iface xt xp, Value.iface yt yp] v ∧ Below w.heap.size w w' := by
  have b0 : Below w.heap.size w (w.alloc (.cells #[.int .i64 11, .string t, .int .i64 n, .int .i64 s] 27)) := (Below.refl _ _).alloc (Nat.le_refl _) _
  obtain ⟨bb, off, ha, hcell⟩ := hP
  obtain ⟨rfl, hOb⟩ := ha.resolve_left (by simp)
  have c0 : (w.alloc (.cells #[.int .i64 11, .string t, .int .i64 n, .int .i64 s] 27)).cell? ⟨bb, off, none⟩ = some (.iface xt xp) := by
    have h := hcell 0 (.iface xt xp) (by simp)
    rw [Nat.add_zero] at h
    rw [b0.cell (p := ⟨bb, _, none⟩) (World.block_lt_of_cell? _ _ h), h]
  have c1 : (w.alloc (.cells #[.int .i64 11, .string t, .int .i64 n, .int .i64 s] 27)).cell? ⟨bb, off + 1, none⟩ = some (.iface yt yp) := by
    have h := hcell 1 (.iface yt yp) (by simp)
    rw [b0.cell (p := ⟨bb, _, none⟩) (World.block_lt_of_cell? _ _ h), h]
  clear hcell
  obtain ⟨x0, x1, x2, x3⟩ := lx.four_lit w (.int .i64 11) (.string t) (.int .i64 n) (.int .i64 s) 27
  go_enter Tryz.func31, Tryz.ntmps31
  go_wp2_with fail
  go_quiet (fail)
  go_wp2_with fail
  go_ret
  exact ⟨_, rfl, .callN _ _, Go.below_drewN b0 _⟩

set_option maxRecDepth 100000 in
set_option maxHeartbeats 400000 in
theorem node12_any (t : ByteArray) (n s : Int) (xt : TypeId) (xp : Value) (yt : TypeId) (yp : Value) (zt : TypeId) (zp : Value) (O : Nat → Prop) (a : Option Addr) (cap : Nat) (w : World) (hO : ∀ bb, O bb → bb < w.heap.size) (hP : PsO w O a [Value.iface xt xp, Value.iface yt yp, Value.iface zt zp]) (hc : ([Value.iface xt xp, Value.iface yt yp, Value.iface zt zp]).length ≤ cap ∧ cap ≤ maxLen) (hs : ([Value.iface xt xp, Value.iface yt yp, Value.iface zt zp]).length ≤ 3000) :
    Calls Tryz.prog 31 #[.agg #[.int .i64 12, .string t, .int .i64 n, .int .i64 s], .slice a 3 cap] w fun e w' => ∃ v, e = .returned v ∧ NodeV w' O t n 12 [Value.iface xt xp, Value.iface yt yp, Value.iface zt zp] v ∧ Below w.heap.size w w' := by
  have b0 : Below w.heap.size w (w.alloc (.cells #[.int .i64 12, .string t, .int .i64 n, .int .i64 s] 27)) := (Below.refl _ _).alloc (Nat.le_refl _) _
  obtain ⟨bb, off, ha, hcell⟩ := hP
  obtain ⟨rfl, hOb⟩ := ha.resolve_left (by simp)
  have c0 : (w.alloc (.cells #[.int .i64 12, .string t, .int .i64 n, .int .i64 s] 27)).cell? ⟨bb, off, none⟩ = some (.iface xt xp) := by
    have h := hcell 0 (.iface xt xp) (by simp)
    rw [Nat.add_zero] at h
    rw [b0.cell (p := ⟨bb, _, none⟩) (World.block_lt_of_cell? _ _ h), h]
  have c1 : (w.alloc (.cells #[.int .i64 12, .string t, .int .i64 n, .int .i64 s] 27)).cell? ⟨bb, off + 1, none⟩ = some (.iface yt yp) := by
    have h := hcell 1 (.iface yt yp) (by simp)
    rw [b0.cell (p := ⟨bb, _, none⟩) (World.block_lt_of_cell? _ _ h), h]
  have c2 : (w.alloc (.cells #[.int .i64 12, .string t, .int .i64 n, .int .i64 s] 27)).cell? ⟨bb, off + 2, none⟩ = some (.iface zt zp) := by
    have h := hcell 2 (.iface zt zp) (by simp)
    rw [b0.cell (p := ⟨bb, _, none⟩) (World.block_lt_of_cell? _ _ h), h]
  clear hcell
  obtain ⟨x0, x1, x2, x3⟩ := lx.four_lit w (.int .i64 12) (.string t) (.int .i64 n) (.int .i64 s) 27
  go_enter Tryz.func31, Tryz.ntmps31
  go_wp2_with fail
  go_quiet (fail)
  go_wp2_with fail
  go_ret
  exact ⟨_, rfl, .ifN _ _ _, Go.below_drewN b0 _⟩

set_option maxRecDepth 100000 in
set_option maxHeartbeats 400000 in
theorem node13_any (t : ByteArray) (n s : Int) (xt : TypeId) (xp : Value) (O : Nat → Prop) (a : Option Addr) (cap : Nat) (w : World) (hO : ∀ bb, O bb → bb < w.heap.size) (hP : PsO w O a [Value.iface xt xp]) (hc : ([Value.iface xt xp]).length ≤ cap ∧ cap ≤ maxLen) (hs : ([Value.iface xt xp]).length ≤ 3000) :
    Calls Tryz.prog 31 #[.agg #[.int .i64 13, .string t, .int .i64 n, .int .i64 s], .slice a 1 cap] w fun e w' => ∃ v, e = .returned v ∧ NodeV w' O t n 13 [Value.iface xt xp] v ∧ Below w.heap.size w w' := by
  have b0 : Below w.heap.size w (w.alloc (.cells #[.int .i64 13, .string t, .int .i64 n, .int .i64 s] 27)) := (Below.refl _ _).alloc (Nat.le_refl _) _
  obtain ⟨bb, off, ha, hcell⟩ := hP
  obtain ⟨rfl, hOb⟩ := ha.resolve_left (by simp)
  have c0 : (w.alloc (.cells #[.int .i64 13, .string t, .int .i64 n, .int .i64 s] 27)).cell? ⟨bb, off, none⟩ = some (.iface xt xp) := by
    have h := hcell 0 (.iface xt xp) (by simp)
    rw [Nat.add_zero] at h
    rw [b0.cell (p := ⟨bb, _, none⟩) (World.block_lt_of_cell? _ _ h), h]
  clear hcell
  obtain ⟨x0, x1, x2, x3⟩ := lx.four_lit w (.int .i64 13) (.string t) (.int .i64 n) (.int .i64 s) 27
  go_enter Tryz.func31, Tryz.ntmps31
  go_wp2_with fail
  go_quiet (fail)
  go_wp2_with fail
  go_ret
  exact ⟨_, rfl, .funN _, Go.below_drewN b0 _⟩

set_option maxRecDepth 100000 in
set_option maxHeartbeats 400000 in
theorem node14_any (t : ByteArray) (n s : Int) (vs : List Value) (xt : TypeId) (xp : Value) (O : Nat → Prop) (a : Option Addr) (cap : Nat) (w : World) (hO : ∀ bb, O bb → bb < w.heap.size) (hP : PsO w O a (vs ++ [Value.iface xt xp])) (hc : ((vs ++ [Value.iface xt xp])).length ≤ cap ∧ cap ≤ maxLen) (hs : ((vs ++ [Value.iface xt xp])).length ≤ 3000) :
    Calls Tryz.prog 31 #[.agg #[.int .i64 14, .string t, .int .i64 n, .int .i64 s], .slice a (vs.length + 1) cap] w fun e w' => ∃ v, e = .returned v ∧ NodeV w' O t n 14 (vs ++ [Value.iface xt xp]) v ∧ Below w.heap.size w w' := by
  have b0 : Below w.heap.size w (w.alloc (.cells #[.int .i64 14, .string t, .int .i64 n, .int .i64 s] 27)) := (Below.refl _ _).alloc (Nat.le_refl _) _
  obtain ⟨bb, off, ha, hcell⟩ := hP
  obtain ⟨rfl, hOb⟩ := ha.resolve_left (by simp)
  have c0 : (w.alloc (.cells #[.int .i64 14, .string t, .int .i64 n, .int .i64 s] 27)).cell? ⟨bb, off + vs.length, none⟩ = some (.iface xt xp) := by
    have h := hcell vs.length (.iface xt xp) (by simp)
    rw [b0.cell (p := ⟨bb, _, none⟩) (World.block_lt_of_cell? _ _ h), h]
  have hP0 : PsO (w.alloc (.cells #[.int .i64 14, .string t, .int .i64 n, .int .i64 s] 27)) O (some ⟨bb, off, none⟩) vs := (PsO.init ⟨bb, off, .inr ⟨rfl, hOb⟩, hcell⟩).below hO b0
  clear hcell
  simp only [List.length_append, List.length_cons, List.length_nil] at hc hs
  obtain ⟨L, hL⟩ : ∃ L, vs.length = L := ⟨_, rfl⟩
  rw [hL] at c0 hc hs
  have hL1 : (L : Int) < ((L + 1 : Nat) : Int) := by omega
  have hL2 : ((L + 1 : Nat) : Int) - 1 = (L : Int) := by omega
  obtain ⟨x0, x1, x2, x3⟩ := lx.four_lit w (.int .i64 14) (.string t) (.int .i64 n) (.int .i64 s) 27
  go_enter Tryz.func31, Tryz.ntmps31
  go_wp2_with fail
  go_quiet (fail)
  go_wp2_with fail
  go_ret
  exact ⟨_, rfl, by rw [← hL]; exact .takeN _ _ _ _ hP0, Go.below_drewN b0 _⟩

set_option maxRecDepth 100000 in
set_option maxHeartbeats 400000 in
theorem node17_any (t : ByteArray) (n s : Int) (xt : TypeId) (xp : Value) (O : Nat → Prop) (a : Option Addr) (cap : Nat) (w : World) (hO : ∀ bb, O bb → bb < w.heap.size) (hP : PsO w O a [Value.iface xt xp]) (hc : ([Value.iface xt xp]).length ≤ cap ∧ cap ≤ maxLen) (hs : ([Value.iface xt xp]).length ≤ 3000) :
    Calls Tryz.prog 31 #[.agg #[.int .i64 17, .string t, .int .i64 n, .int .i64 s], .slice a 1 cap] w fun e w' => ∃ v, e = .returned v ∧ NodeV w' O t n 17 [Value.iface xt xp] v ∧ Below w.heap.size w w' := by
  have b0 : Below w.heap.size w (w.alloc (.cells #[.int .i64 17, .string t, .int .i64 n, .int .i64 s] 27)) := (Below.refl _ _).alloc (Nat.le_refl _) _
  obtain ⟨bb, off, ha, hcell⟩ := hP
  obtain ⟨rfl, hOb⟩ := ha.resolve_left (by simp)
  have c0 : (w.alloc (.cells #[.int .i64 17, .string t, .int .i64 n, .int .i64 s] 27)).cell? ⟨bb, off, none⟩ = some (.iface xt xp) := by
    have h := hcell 0 (.iface xt xp) (by simp)
    rw [Nat.add_zero] at h
    rw [b0.cell (p := ⟨bb, _, none⟩) (World.block_lt_of_cell? _ _ h), h]
  clear hcell
  obtain ⟨x0, x1, x2, x3⟩ := lx.four_lit w (.int .i64 17) (.string t) (.int .i64 n) (.int .i64 s) 27
  go_enter Tryz.func31, Tryz.ntmps31
  go_wp2_with fail
  go_quiet (fail)
  go_wp2_with fail
  go_ret
  exact ⟨_, rfl, .hasN _, Go.below_drewN b0 _⟩

set_option maxRecDepth 100000 in
set_option maxHeartbeats 400000 in
theorem node18_any (t : ByteArray) (n s : Int) (xt : TypeId) (xp : Value) (yt : TypeId) (yp : Value) (O : Nat → Prop) (a : Option Addr) (cap : Nat) (w : World) (hO : ∀ bb, O bb → bb < w.heap.size) (hP : PsO w O a [Value.iface xt xp, Value.iface yt yp]) (hc : ([Value.iface xt xp, Value.iface yt yp]).length ≤ cap ∧ cap ≤ maxLen) (hs : ([Value.iface xt xp, Value.iface yt yp]).length ≤ 3000) :
    Calls Tryz.prog 31 #[.agg #[.int .i64 18, .string t, .int .i64 n, .int .i64 s], .slice a 2 cap] w fun e w' => ∃ v, e = .returned v ∧ NodeV w' O t n 18 [Value.iface xt xp, Value.iface yt yp] v ∧ Below w.heap.size w w' := by
  have b0 : Below w.heap.size w (w.alloc (.cells #[.int .i64 18, .string t, .int .i64 n, .int .i64 s] 27)) := (Below.refl _ _).alloc (Nat.le_refl _) _
  obtain ⟨bb, off, ha, hcell⟩ := hP
  obtain ⟨rfl, hOb⟩ := ha.resolve_left (by simp)
  have c0 : (w.alloc (.cells #[.int .i64 18, .string t, .int .i64 n, .int .i64 s] 27)).cell? ⟨bb, off, none⟩ = some (.iface xt xp) := by
    have h := hcell 0 (.iface xt xp) (by simp)
    rw [Nat.add_zero] at h
    rw [b0.cell (p := ⟨bb, _, none⟩) (World.block_lt_of_cell? _ _ h), h]
  have c1 : (w.alloc (.cells #[.int .i64 18, .string t, .int .i64 n, .int .i64 s] 27)).cell? ⟨bb, off + 1, none⟩ = some (.iface yt yp) := by
    have h := hcell 1 (.iface yt yp) (by simp)
    rw [b0.cell (p := ⟨bb, _, none⟩) (World.block_lt_of_cell? _ _ h), h]
  clear hcell
  obtain ⟨x0, x1, x2, x3⟩ := lx.four_lit w (.int .i64 18) (.string t) (.int .i64 n) (.int .i64 s) 27
  go_enter Tryz.func31, Tryz.ntmps31
  go_wp2_with fail
  go_quiet (fail)
  go_wp2_with fail
  go_ret
  exact ⟨_, rfl, .binN _ _, Go.below_drewN b0 _⟩

set_option maxRecDepth 100000 in
set_option maxHeartbeats 400000 in
theorem node19_any (t : ByteArray) (n s : Int) (xt : TypeId) (xp : Value) (O : Nat → Prop) (a : Option Addr) (cap : Nat) (w : World) (hO : ∀ bb, O bb → bb < w.heap.size) (hP : PsO w O a [Value.iface xt xp]) (hc : ([Value.iface xt xp]).length ≤ cap ∧ cap ≤ maxLen) (hs : ([Value.iface xt xp]).length ≤ 3000) :
    Calls Tryz.prog 31 #[.agg #[.int .i64 19, .string t, .int .i64 n, .int .i64 s], .slice a 1 cap] w fun e w' => ∃ v, e = .returned v ∧ NodeV w' O t n 19 [Value.iface xt xp] v ∧ Below w.heap.size w w' := by
  have b0 : Below w.heap.size w (w.alloc (.cells #[.int .i64 19, .string t, .int .i64 n, .int .i64 s] 27)) := (Below.refl _ _).alloc (Nat.le_refl _) _
  obtain ⟨bb, off, ha, hcell⟩ := hP
  obtain ⟨rfl, hOb⟩ := ha.resolve_left (by simp)
  have c0 : (w.alloc (.cells #[.int .i64 19, .string t, .int .i64 n, .int .i64 s] 27)).cell? ⟨bb, off, none⟩ = some (.iface xt xp) := by
    have h := hcell 0 (.iface xt xp) (by simp)
    rw [Nat.add_zero] at h
    rw [b0.cell (p := ⟨bb, _, none⟩) (World.block_lt_of_cell? _ _ h), h]
  clear hcell
  go_enter Tryz.func31, Tryz.ntmps31
  go_wp2_with fail
  go_ret
  exact ⟨_, rfl, .negN _, b0⟩

set_option maxRecDepth 100000 in
set_option maxHeartbeats 400000 in
theorem node20_any (t : ByteArray) (n s : Int) (xt : TypeId) (xp : Value) (O : Nat → Prop) (a : Option Addr) (cap : Nat) (w : World) (hO : ∀ bb, O bb → bb < w.heap.size) (hP : PsO w O a [Value.iface xt xp]) (hc : ([Value.iface xt xp]).length ≤ cap ∧ cap ≤ maxLen) (hs : ([Value.iface xt xp]).length ≤ 3000) :
    Calls Tryz.prog 31 #[.agg #[.int .i64 20, .string t, .int .i64 n, .int .i64 s], .slice a 1 cap] w fun e w' => ∃ v, e = .returned v ∧ NodeV w' O t n 20 [Value.iface xt xp] v ∧ Below w.heap.size w w' := by
  have b0 : Below w.heap.size w (w.alloc (.cells #[.int .i64 20, .string t, .int .i64 n, .int .i64 s] 27)) := (Below.refl _ _).alloc (Nat.le_refl _) _
  obtain ⟨bb, off, ha, hcell⟩ := hP
  obtain ⟨rfl, hOb⟩ := ha.resolve_left (by simp)
  have c0 : (w.alloc (.cells #[.int .i64 20, .string t, .int .i64 n, .int .i64 s] 27)).cell? ⟨bb, off, none⟩ = some (.iface xt xp) := by
    have h := hcell 0 (.iface xt xp) (by simp)
    rw [Nat.add_zero] at h
    rw [b0.cell (p := ⟨bb, _, none⟩) (World.block_lt_of_cell? _ _ h), h]
  clear hcell
  go_enter Tryz.func31, Tryz.ntmps31
  go_wp2_with fail
  go_ret
  exact ⟨_, rfl, .notN _, b0⟩

theorem partAt0 {w : World} {bb off len cap : Nat} {x : Value} (hi : 0 < len) (h : w.cell? ⟨bb, off, none⟩ = some x) :
    Calls Tryz.prog 52 #[.slice (some ⟨bb, off, none⟩) len cap, .int .i64 0] w fun e w' => e = .returned x ∧ w' = w := by
  have hi' : (0 : Int) < (len : Int) := by omega
  go_enter Tryz.func52, Tryz.ntmps52
  go_wp2
  go_ret
  exact ⟨rfl, rfl⟩
theorem partAt1 {w : World} {bb off len cap : Nat} {x : Value} (hi : 1 < len) (h : w.cell? ⟨bb, off + 1, none⟩ = some x) :
    Calls Tryz.prog 52 #[.slice (some ⟨bb, off, none⟩) len cap, .int .i64 1] w fun e w' => e = .returned x ∧ w' = w := by
  have hi' : (1 : Int) < (len : Int) := by omega
  go_enter Tryz.func52, Tryz.ntmps52
  go_wp2
  go_ret
  exact ⟨rfl, rfl⟩
theorem partAt0_no {w : World} {a : Option Addr} {cap : Nat} :
    Calls Tryz.prog 52 #[.slice a 0 cap, .int .i64 0] w fun e w' => e = .returned .nilIface ∧ w' = w := by
  go_enter Tryz.func52, Tryz.ntmps52
  go_wp2
  go_ret
  exact ⟨rfl, rfl⟩
theorem partAt1_no {w : World} {a : Option Addr} {cap : Nat} :
    Calls Tryz.prog 52 #[.slice a 1 cap, .int .i64 1] w fun e w' => e = .returned .nilIface ∧ w' = w := by
  go_enter Tryz.func52, Tryz.ntmps52
  go_wp2
  go_ret
  exact ⟨rfl, rfl⟩

set_option maxRecDepth 100000 in
set_option maxHeartbeats 400000 in
theorem node15a_any (t : ByteArray) (n s : Int) (O : Nat → Prop) (a : Option Addr) (cap : Nat) (w : World) (hO : ∀ bb, O bb → bb < w.heap.size) (hP : PsO w O a ([] : List Value)) (hc : (([] : List Value)).length ≤ cap ∧ cap ≤ maxLen) (hs : (([] : List Value)).length ≤ 3000) :
    Calls Tryz.prog 31 #[.agg #[.int .i64 15, .string t, .int .i64 n, .int .i64 s], .slice a 0 cap] w fun e w' => ∃ v, e = .returned v ∧ NodeV w' O t n 15 ([] : List Value) v ∧ Below w.heap.size w w' := by
  have b0 : Below w.heap.size w (w.alloc (.cells #[.int .i64 15, .string t, .int .i64 n, .int .i64 s] 27)) := (Below.refl _ _).alloc (Nat.le_refl _) _
  obtain ⟨x0, x1, x2, x3⟩ := lx.four_lit w (.int .i64 15) (.string t) (.int .i64 n) (.int .i64 s) 27
  go_enter Tryz.func31, Tryz.ntmps31
  go_wp2_with fail
  go_quiet (first | (go_at_call 52; refine Calls.quiet_of_same partAt0_no))
  go_wp2_with fail
  go_ret
  exact ⟨_, rfl, .param0, Go.below_drewN b0 _⟩

set_option maxRecDepth 100000 in
set_option maxHeartbeats 400000 in
theorem node15b_any (t : ByteArray) (n s : Int) (xt : TypeId) (xp : Value) (O : Nat → Prop) (a : Option Addr) (cap : Nat) (w : World) (hO : ∀ bb, O bb → bb < w.heap.size) (hP : PsO w O a [Value.iface xt xp]) (hc : ([Value.iface xt xp]).length ≤ cap ∧ cap ≤ maxLen) (hs : ([Value.iface xt xp]).length ≤ 3000) :
    Calls Tryz.prog 31 #[.agg #[.int .i64 15, .string t, .int .i64 n, .int .i64 s], .slice a 1 cap] w fun e w' => ∃ v, e = .returned v ∧ NodeV w' O t n 15 [Value.iface xt xp] v ∧ Below w.heap.size w w' := by
  have b0 : Below w.heap.size w (w.alloc (.cells #[.int .i64 15, .string t, .int .i64 n, .int .i64 s] 27)) := (Below.refl _ _).alloc (Nat.le_refl _) _
  obtain ⟨bb, off, ha, hcell⟩ := hP
  obtain ⟨rfl, hOb⟩ := ha.resolve_left (by simp)
  have c0 : (w.alloc (.cells #[.int .i64 15, .string t, .int .i64 n, .int .i64 s] 27)).cell? ⟨bb, off, none⟩ = some (.iface xt xp) := by
    have h := hcell 0 (.iface xt xp) (by simp)
    rw [Nat.add_zero] at h
    rw [b0.cell (p := ⟨bb, _, none⟩) (World.block_lt_of_cell? _ _ h), h]
  clear hcell
  obtain ⟨x0, x1, x2, x3⟩ := lx.four_lit w (.int .i64 15) (.string t) (.int .i64 n) (.int .i64 s) 27
  go_enter Tryz.func31, Tryz.ntmps31
  go_wp2_with fail
  go_quiet (first | (go_at_call 52; refine Calls.quiet_of_same (partAt0 (by omega) c0)))
  go_wp2_with fail
  go_ret
  exact ⟨_, rfl, .param1 _, Go.below_drewN b0 _⟩

set_option maxRecDepth 100000 in
set_option maxHeartbeats 400000 in
theorem node16a_any (t : ByteArray) (n s : Int) (xt : TypeId) (xp : Value) (O : Nat → Prop) (a : Option Addr) (cap : Nat) (w : World) (hO : ∀ bb, O bb → bb < w.heap.size) (hP : PsO w O a [Value.iface xt xp]) (hc : ([Value.iface xt xp]).length ≤ cap ∧ cap ≤ maxLen) (hs : ([Value.iface xt xp]).length ≤ 3000) :
    Calls Tryz.prog 31 #[.agg #[.int .i64 16, .string t, .int .i64 n, .int .i64 s], .slice a 1 cap] w fun e w' => ∃ v, e = .returned v ∧ NodeV w' O t n 16 [Value.iface xt xp] v ∧ Below w.heap.size w w' := by
  have b0 : Below w.heap.size w (w.alloc (.cells #[.int .i64 16, .string t, .int .i64 n, .int .i64 s] 27)) := (Below.refl _ _).alloc (Nat.le_refl _) _
  obtain ⟨bb, off, ha, hcell⟩ := hP
  obtain ⟨rfl, hOb⟩ := ha.resolve_left (by simp)
  have c0 : (w.alloc (.cells #[.int .i64 16, .string t, .int .i64 n, .int .i64 s] 27)).cell? ⟨bb, off, none⟩ = some (.iface xt xp) := by
    have h := hcell 0 (.iface xt xp) (by simp)
    rw [Nat.add_zero] at h
    rw [b0.cell (p := ⟨bb, _, none⟩) (World.block_lt_of_cell? _ _ h), h]
  clear hcell
  obtain ⟨x0, x1, x2, x3⟩ := lx.four_lit w (.int .i64 16) (.string t) (.int .i64 n) (.int .i64 s) 27
  go_enter Tryz.func31, Tryz.ntmps31
  go_wp2_with fail
  go_quiet (first | (go_at_call 52; refine Calls.quiet_of_same partAt1_no))
  go_wp2_with fail
  go_ret
  exact ⟨_, rfl, .get1 _, Go.below_drewN b0 _⟩

set_option maxRecDepth 100000 in
set_option maxHeartbeats 400000 in
theorem node16b_any (t : ByteArray) (n s : Int) (xt : TypeId) (xp : Value) (yt : TypeId) (yp : Value) (O : Nat → Prop) (a : Option Addr) (cap : Nat) (w : World) (hO : ∀ bb, O bb → bb < w.heap.size) (hP : PsO w O a [Value.iface xt xp, Value.iface yt yp]) (hc : ([Value.iface xt xp, Value.iface yt yp]).length ≤ cap ∧ cap ≤ maxLen) (hs : ([Value.iface xt xp, Value.iface yt yp]).length ≤ 3000) :
    Calls Tryz.prog 31 #[.agg #[.int .i64 16, .string t, .int .i64 n, .int .i64 s], .slice a 2 cap] w fun e w' => ∃ v, e = .returned v ∧ NodeV w' O t n 16 [Value.iface xt xp, Value.iface yt yp] v ∧ Below w.heap.size w w' := by
  have b0 : Below w.heap.size w (w.alloc (.cells #[.int .i64 16, .string t, .int .i64 n, .int .i64 s] 27)) := (Below.refl _ _).alloc (Nat.le_refl _) _
  obtain ⟨bb, off, ha, hcell⟩ := hP
  obtain ⟨rfl, hOb⟩ := ha.resolve_left (by simp)
  have c0 : (w.alloc (.cells #[.int .i64 16, .string t, .int .i64 n, .int .i64 s] 27)).cell? ⟨bb, off, none⟩ = some (.iface xt xp) := by
    have h := hcell 0 (.iface xt xp) (by simp)
    rw [Nat.add_zero] at h
    rw [b0.cell (p := ⟨bb, _, none⟩) (World.block_lt_of_cell? _ _ h), h]
  have c1 : (w.alloc (.cells #[.int .i64 16, .string t, .int .i64 n, .int .i64 s] 27)).cell? ⟨bb, off + 1, none⟩ = some (.iface yt yp) := by
    have h := hcell 1 (.iface yt yp) (by simp)
    rw [b0.cell (p := ⟨bb, _, none⟩) (World.block_lt_of_cell? _ _ h), h]
  clear hcell
  obtain ⟨x0, x1, x2, x3⟩ := lx.four_lit w (.int .i64 16) (.string t) (.int .i64 n) (.int .i64 s) 27
  go_enter Tryz.func31, Tryz.ntmps31
  go_wp2_with fail
  go_quiet (first | (go_at_call 52; refine Calls.quiet_of_same (partAt1 (by omega) c1)))
  go_wp2_with fail
  go_ret
  exact ⟨_, rfl, .get2 _ _, Go.below_drewN b0 _⟩


end Go.Proofs.YtifgaaemdojmpaaGreatDoor.ex
