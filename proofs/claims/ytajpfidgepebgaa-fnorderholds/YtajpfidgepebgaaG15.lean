import Derived.Test.YtajpfidgepebgaaG14
import Derived.Conc.SmallLaws
namespace Go.Proofs.Ytajpfidgepebgaa.hp
open Go.ChangeShapes Go.WideShapes Go.ChangeAt Go.RowKit Go.Deep Go.Maps
open fa (Us uNo nds aw aws BhV)
open fw (ndA ndA_some bhL Ua Ah WebR2 web2_any)
set_option linter.unusedVariables false
set_option linter.unusedSimpArgs false

/-! ### A web as it lies, whatever else changes; startingOf -/

/-- What stands ahead of each, as it lies. -/
def Ad (us : List ty.Un) (A : Nat) (w : World) : Prop := ∀ (k : Nat) (u : ty.Un), us[k]? = some u → ∃ g o cap, w.cell? ⟨A, k, none⟩ = some (.slice (some ⟨g, o, none⟩) (aw us u).length cap) ∧ ∀ (j y : Nat), (aw us u)[j]? = some y → w.cell? ⟨g, o + j, none⟩ = some (.int .i64 (y : Int))
structure WebX (us : List ty.Un) (n A U : Nat) (ad : Nat → Option Addr) (cp : Nat → Nat) (lo hi : Nat) (w : World) : Prop where
  rA : lo ≤ A ∧ A < hi
  rU : lo ≤ U ∧ U < hi
  ne : A ≠ U
  is : ∀ W : World, (∀ k, lo ≤ k → k < hi → W.heap[k]? = w.heap[k]?) → Bd U n (bhL us n) ad cp W ∧ Ad us A W

theorem WebX.kept {us : List ty.Un} {n A U : Nat} {ad : Nat → Option Addr} {cp : Nat → Nat} {lo hi : Nat} {w w' : World} (h : WebX us n A U ad cp lo hi w) (e : ∀ k, lo ≤ k → k < hi → w'.heap[k]? = w.heap[k]?) : WebX us n A U ad cp lo hi w' :=
  ⟨h.rA, h.rU, h.ne, fun W hW => h.is W fun k h1 h2 => (hW k h1 h2).trans (e k h1 h2)⟩

theorem webx_of {us : List ty.Un} {w w' : World} {e : Ending} (h : WebR2 us us.length w w' e) : ∃ A U ad cp, e = .returned (.agg #[.slice (some ⟨A, 0, none⟩) us.length us.length, .slice (some ⟨U, 0, none⟩) (us.length + 1) (us.length + 1)]) ∧ WebX us us.length A U ad cp w.heap.size w'.heap.size w' := by
  obtain ⟨A, U, Bs, V, rfl, hB, ⟨h1, h2, h3⟩, hA, h4, h5, h6⟩ := h
  have hv : ∀ x, ∃ p : Option Addr × Nat, x ≤ us.length → V x = .slice p.1 (bhL us us.length x).length p.2 := fun x => by
    by_cases hx : x ≤ us.length
    · rcases (hB.own x (by omega)).2 with ⟨e, h0⟩ | ⟨g, cap, cur, e, _⟩
      · exact ⟨(none, 0), fun _ => by rw [e, h0]⟩
      · exact ⟨(_, _), fun _ => e⟩
    · exact ⟨(none, 0), fun h => absurd h hx⟩
  obtain ⟨F, hF⟩ := Classical.axiomOfChoice hv
  refine ⟨A, U, fun x => (F x).1, fun x => (F x).2, rfl, ⟨h4, by omega⟩, ⟨h1, by omega⟩, h6, fun W hW => ⟨fun x hx => ?_, fun k u hu => ?_⟩⟩
  · have hvx := hF x hx
    refine ⟨?_, fun j y hy => ?_⟩
    · have := (hB.row.of_block (hW U h1 (by omega))).cell (i := x) (by omega)
      rw [hvx] at this
      exact this
    · have how := hB.own x (by omega)
      have hj := (List.getElem?_eq_some_iff.1 hy).1
      rcases how.2 with ⟨e, h0⟩ | ⟨g, cap, cur, e, h7, h8, h9⟩
      · omega
      · have hoW : W.ownsRow Bs 3 1 (V x) (bhL us us.length x).length (fi.nV (bhL us us.length x)) := ⟨how.1, .inr ⟨g, cap, cur, e, h7, (hW g (by omega) (Array.getElem?_eq_some_iff.1 h8).1).trans h8, h9⟩⟩
        obtain ⟨a', c', e', hr⟩ := fa.rdn_own hoW
        rw [hvx] at e'
        simp only [Value.slice.injEq] at e'
        show ∃ g o, (F x).1 = _ ∧ _
        rw [e'.1]
        exact hr j y hy
  · obtain ⟨g, o, cap, h7, h8, _⟩ := hA k u (List.getElem?_eq_some_iff.1 hu).1 hu
    refine ⟨g, o, cap, (World.cell?_of_block (a := ⟨A, k, none⟩) (hW A h4 (by omega))).trans h7, fun j y hy => ?_⟩
    obtain ⟨hj, rfl⟩ := List.getElem?_eq_some_iff.1 hy
    exact (World.cell?_of_block (a := ⟨g, o + j, none⟩) (hW g (by have := h8.new; omega) h8.lt)).trans (h8.cells j hj)

/-- What startingOf answers. -/
def StX (us : List ty.Un) (n : Nat) (w w' : World) (e : Ending) : Prop := ∃ M S A U L C ad cp, e = .returned (.pointer (some ⟨S, 0, none⟩)) ∧ Sg M S A U L C n (f0 us n) (b0 us n) [] (.slice none 0 0) w' ∧ w.heap.size ≤ S ∧ w.heap.size ≤ L ∧ w.heap.size ≤ C ∧ ∀ W : World, (∀ k, w.heap.size ≤ k → k < M → k ≠ S → k ≠ L → k ≠ C → W.heap[k]? = w'.heap[k]?) → Bd U n (bhL us n) ad cp W

/-- What is there once all has been made. -/
structure Mk (us : List ty.Un) (n : Nat) (w : World) (M S A U L C : Nat) (ad : Nat → Option Addr) (cp : Nat → Nat) (f : Nat → Nat) (buf : List Nat) (W : World) : Prop where
  sg : Sg M S A U L C n f buf [] (.slice none 0 0) W
  lS : w.heap.size ≤ S
  lL : w.heap.size ≤ L
  lC : w.heap.size ≤ C
  web : ∃ lo hi, WebX us n A U ad cp lo hi W ∧ w.heap.size ≤ lo ∧ hi ≤ M ∧ ¬ (lo ≤ S ∧ S < hi) ∧ ¬ (lo ≤ L ∧ L < hi) ∧ ¬ (lo ≤ C ∧ C < hi)
  bel : Below w.heap.size w W

theorem mk_new {us : List ty.Un} {n A U L C : Nat} {ad : Nat → Option Addr} {cp : Nat → Nat} {lo hi : Nat} {w W : World} (hb : Below w.heap.size w W) (hL : W.heap[L]? = some (.cells (madeCells #[.int .i64 0] n) 3)) (hC : W.heap[C]? = some (.chan n #[] false 0 0 false)) (hX : WebX us n A U ad cp lo hi W)
    (h1 : w.heap.size ≤ lo) (h2 : hi ≤ W.heap.size) (h3 : w.heap.size ≤ L) (h4 : w.heap.size ≤ C) (h5 : ¬ (lo ≤ L ∧ L < hi)) (h6 : ¬ (lo ≤ C ∧ C < hi)) :
    Mk us n w (W.heap.size + 1) W.heap.size A U L C ad cp (f0 us 0) (b0 us 0) (W.alloc (.cells #[.slice (some ⟨A, 0, none⟩) n n, .slice (some ⟨U, 0, none⟩) (n + 1) (n + 1), .slice (some ⟨L, 0, none⟩) n n, .chan (some C), .slice none 0 0] 84)) := by
  have hLl := (Array.getElem?_eq_some_iff.1 hL).1
  have hCl := (Array.getElem?_eq_some_iff.1 hC).1
  have kp : ∀ (o : Obj) k, k < W.heap.size → (W.alloc o).heap[k]? = W.heap[k]? := fun o k hk => Below.heap_alloc W o k hk
  have hne : L ≠ C := fun e => by rw [e, hC] at hL; cases hL
  refine ⟨⟨⟨⟨#[.slice (some ⟨A, 0, none⟩) n n, .slice (some ⟨U, 0, none⟩) (n + 1) (n + 1), .slice (some ⟨L, 0, none⟩) n n, .chan (some C), .slice none 0 0], fa.blk_new _ _, rfl, fun k hk => ?_⟩, .inl ⟨rfl, rfl⟩, by omega, by simp⟩, ?_, ⟨0, 0, (kp _ C hCl).trans hC⟩, by omega, by omega, by omega, by omega, hne⟩, hb.size, h3, h4, ⟨lo, hi, hX.kept fun k _ hk => kp _ k (by omega), h1, by omega, by omega, h5, h6⟩, hb.alloc hb.size _⟩
  · match k, hk with
    | 0, _ => rfl
    | 1, _ => rfl
    | 2, _ => rfl
    | 3, _ => rfl
    | 4, _ => rfl
  · refine ⟨madeCells #[.int .i64 0] n, (kp _ L hLl).trans hL, ?_, fun k hk => ?_⟩
    · simp [madeCells]
    · show _ = some (Value.int .i64 (f0 us 0 k : Int))
      rw [show f0 us 0 k = 0 by simp [f0]]
      simp [madeCells, hk, Nat.mod_one]

theorem Mk.lack {us : List ty.Un} {n : Nat} {w : World} {M S A U L C : Nat} {ad : Nat → Option Addr} {cp : Nat → Nat} {f f' : Nat → Nat} {buf buf' : List Nat} {W W' : World} (h : Mk us n w M S A U L C ad cp f buf W) (hs : Sg M S A U L C n f' buf' [] (.slice none 0 0) W') (ho : Oth (fun k => k = L ∨ k = C) W W') : Mk us n w M S A U L C ad cp f' buf' W' := by
  obtain ⟨lo, hi, h1, h2, h3, h4, h5, h6⟩ := h.web
  have hb := ho.below (B := w.heap.size) h.bel.size (fun k hk e => by have := h.lL; have := h.lC; omega)
  have hM := h.sg.ho.le
  exact ⟨hs, h.lS, h.lL, h.lC, ⟨lo, hi, h1.kept fun k k1 k2 => ho.block k (by omega) (fun e => by rcases e with e | e; exact h5 (e ▸ ⟨k1, k2⟩); exact h6 (e ▸ ⟨k1, k2⟩)), h2, by omega, h4, h5, h6⟩, h.bel.trans (hb.mono (Nat.le_refl _))⟩
theorem Mk.done {us : List ty.Un} {n : Nat} {w : World} {M S A U L C : Nat} {ad : Nat → Option Addr} {cp : Nat → Nat} {W : World} (h : Mk us n w M S A U L C ad cp (f0 us n) (b0 us n) W) : StX us n w W (.returned (.pointer (some ⟨S, 0, none⟩))) := by
  obtain ⟨lo, hi, h1, h2, h3, h4, h5, h6⟩ := h.web
  exact ⟨M, S, A, U, L, C, ad, cp, rfl, h.sg, h.lS, h.lL, h.lC, fun W hW => (h1.is W fun k k1 k2 => hW k (by omega) (by omega) (fun e => h4 (e ▸ ⟨k1, k2⟩)) (fun e => h5 (e ▸ ⟨k1, k2⟩)) (fun e => h6 (e ▸ ⟨k1, k2⟩))).1⟩

theorem webx_n {us : List ty.Un} {n : Nat} (hn : us.length = n) {w w' : World} {e : Ending} (h : WebR2 us us.length w w' e) : ∃ A U ad cp, e = .returned (.agg #[.slice (some ⟨A, 0, none⟩) n n, .slice (some ⟨U, 0, none⟩) (n + 1) (n + 1)]) ∧ WebX us n A U ad cp w.heap.size w'.heap.size w' := by
  subst hn
  exact webx_of h

set_option maxRecDepth 100000 in
set_option maxHeartbeats 16000000 in
theorem starting_any (md : Option Nat) (a : Option Addr) (c : Nat) (us : List ty.Un) (w : World) (hb : ty.SrcUn md w a us) (hU : Ua us) :
    Calls Try.prog 36 #[.slice a us.length c] w fun e w' => StX us us.length w w' e ∧ Below w.heap.size w w' := by
  have hn1 := hU.few
  have HWB : Hid (∀ W, Below w.heap.size w W → Calls Try.prog 20 #[.slice a us.length c, .func (.func 21) #[] #[]] W fun e w' => WebR2 us us.length W w' e ∧ Below W.heap.size W w') := fun W h => web2_any md a c us W (hb.below h) hU
  have HLE : Hid (∀ i, (ndA us i).length ≤ 40) := fun i => by
    have := lk_le hU [] i
    unfold lk at this
    rwa [List.filter_eq_self.2 (by simp)] at this
  have hmk := ty.makeN (P := Try.prog) 41 3 (.int .i64 0) 1 8 Try.underlying41 fi.infoI .i64 .i64 us.length (by omega) (by omega)
  rw [Nat.mul_one] at hmk
  have hmc : ∀ W : World, (Instr.makeChan 81 (.int .i64 (us.length : Int))).run Try.prog W = .ok (.chan (some W.heap.size)) (W.alloc (.chan us.length #[] false 0 0 false)) := fun W => by
    obtain ⟨i0, hi, hzz⟩ := Option.map_eq_some_iff.1 fi.infoI
    simp only [Prod.mk.injEq] at hzz
    exact Go.Conc.run_makeChan Try.underlying81 hi .i64 us.length (by omega) (by rw [hzz.2.2]; omega)
  obtain ⟨n, hnn⟩ : ∃ n, us.length = n := ⟨_, rfl⟩
  have HN : Hid (us.length = n) := hnn
  rw [hnn] at hn1 hmk hmc ⊢
  have HWB : Hid (∀ W, Below w.heap.size w W → Calls Try.prog 20 #[.slice a n c, .func (.func 21) #[] #[]] W fun e w' => WebR2 us us.length W w' e ∧ Below W.heap.size W w') := by intro W h; have := HWB.out W h; rw [hnn] at this ⊢; exact this
  obtain ⟨ML, hML⟩ : ∃ M, M = madeCells (Value.int .i64 0).cells n := ⟨_, rfl⟩
  rw [← hML] at hmk
  have HML : Hid (ML = madeCells #[.int .i64 0] n) := hML
  clear hb hU hnn hML
  go_enter Try.func36, Try.ntmps36
  go_upto_region 1 with fail
  go_cut [3] from 4 (fun p w' => ∃ (M S A U L C : Nat) (ad : Nat → Option Addr) (cp : Nat → Nat), p = .pointer (some ⟨S, 0, none⟩) ∧ Mk us n w M S A U L C ad cp (f0 us 0) (b0 us 0) w')
  case first =>
    obtain ⟨wd, hwd⟩ : ∃ z, w.drew = z := ⟨_, rfl⟩
    have HB0 : Hid (Below w.heap.size w wd) := by show Below _ _ _; rw [← hwd]; exact (Below.refl _ _).drew
    refine wq 11 (S := fun _ => True) (by kernel_rfl) trivial fun hHeld => ?_
    rw [hwd]
    clear hwd
    refine uq (i := 0) rfl ?_
    try simp only [aP]
    refine uq (i := 2) rfl ?_
    try simp only [aP]
    refine uq (i := 3) rfl ?_
    try simp only [aP]
    refine uq (i := 5) rfl ?_
    try simp only [aP]
    refine uq (i := 6) rfl ?_
    try simp only [aP]
    refine wpAnyH_ready (rs := [1, 4, 7]) (by kernel_rfl) (by simp) ?_
    refine cq rfl (fun K hK => ?_) (cq rfl (fun K hK => ?_) (cq rfl (fun K hK => ?_) AllReadyH.nil))
    · go_simp
      (go_at_call 20; refine (HWB.out wd HB0.out).mono ?_; rintro e wk1 ⟨hx, hbx⟩; obtain ⟨A, U, ad, cp, rfl, hX⟩ := webx_n HN.out hx; clear hx)
      try go_wp2_with fail
      have HBX : Hid (Below wd.heap.size wd wk1) := hbx
      have HX1 : Hid (WebX us n A U ad cp wd.heap.size wk1.heap.size wk1) := hX
      clear hX hbx
      have HZ1 : Hid (wk1.heap.size ≤ wk1.heap.size) := Nat.le_refl _
      have HB1 : Hid (Below w.heap.size w wk1) := HB0.out.trans (HBX.out.mono HB0.out.size)
      have HZB1 : Hid (wd.heap.size ≤ wk1.heap.size) := HBX.out.size
      clear HBX
      refine hK.out _ _ trivial (fun hHeld => ?_)
      clear hK K
      try simp only [aP]
      refine wpAnyH_ready (rs := [4, 7]) (by kernel_rfl) (by simp) ?_
      refine cq rfl (fun K hK => ?_) (cq rfl (fun K hK => ?_) AllReadyH.nil)
      · obtain ⟨wk2, hwk2⟩ : ∃ z, z = wk1.alloc (.cells ML 3) := ⟨_, rfl⟩
        have HBX : Hid (Below wk1.heap.size wk1 wk2) := by show Below _ _ _; rw [hwk2]; exact (Below.refl _ _).alloc (Nat.le_refl _) _
        have HL2 : Hid (wk2.heap[wk1.heap.size]? = some (.cells ML 3)) := by show _ = _; rw [hwk2]; exact fa.blk_new _ _
        have HSZ2 : Hid (wk2.heap.size = wk1.heap.size + 1) := by show _ = _; rw [hwk2]; simp
        go_simp
        try go_wp2_with fail
        rw [← hwk2]
        clear hwk2
        have HX1' := Lib.hid (HX1.out.kept fun k h1 h2 => HBX.out.block k (Nat.lt_of_lt_of_le h2 HZ1.out))
        have HZ1' : Hid (wk1.heap.size ≤ wk2.heap.size) := Nat.le_trans HZ1.out HBX.out.size
        have HB2 : Hid (Below w.heap.size w wk2) := HB1.out.trans (HBX.out.mono HB1.out.size)
        have HZB2 : Hid (wk1.heap.size ≤ wk2.heap.size) := HBX.out.size
        clear HBX
        refine hK.out _ _ trivial (fun hHeld => ?_)
        clear hK K
        try simp only [aP]
        refine rq 7 rfl fun K hK => ?_
        obtain ⟨wk3, hwk3⟩ : ∃ z, z = wk2.alloc (.chan n #[] false 0 0 false) := ⟨_, rfl⟩
        have HBX : Hid (Below wk2.heap.size wk2 wk3) := by show Below _ _ _; rw [hwk3]; exact (Below.refl _ _).alloc (Nat.le_refl _) _
        have HH3 : Hid (wk3.heap[wk2.heap.size]? = some (.chan n #[] false 0 0 false)) := by show _ = _; rw [hwk3]; exact fa.blk_new _ _
        have HSZ3 : Hid (wk3.heap.size = wk2.heap.size + 1) := by show _ = _; rw [hwk3]; simp
        go_simp
        try go_wp2_with fail
        rw [← hwk3]
        clear hwk3
        have HX1'' := Lib.hid (HX1'.out.kept fun k h1 h2 => HBX.out.block k (Nat.lt_of_lt_of_le h2 HZ1'.out))
        have HL2' : Hid (wk3.heap[wk1.heap.size]? = some (.cells ML 3)) := (HBX.out.block _ (Array.getElem?_eq_some_iff.1 HL2.out).1).trans HL2.out
        have HZ1'' : Hid (wk1.heap.size ≤ wk3.heap.size) := Nat.le_trans HZ1'.out HBX.out.size
        have HB3 : Hid (Below w.heap.size w wk3) := HB2.out.trans (HBX.out.mono HB2.out.size)
        have HZB3 : Hid (wk2.heap.size ≤ wk3.heap.size) := HBX.out.size
        clear HBX
        refine hK.out _ _ trivial (fun hHeld => ?_)
        clear hK K
        try simp only [aP]
        have HM := Lib.hid (mk_new (us := us) HB3.out (HML.out ▸ HL2'.out) HH3.out HX1''.out (by have := HB0.out.size; have := HZB1.out; have := HZB2.out; have := HZB3.out; have := HSZ2.out; have := HSZ3.out; omega) HZ1''.out (by have := HB0.out.size; have := HZB1.out; have := HZB2.out; have := HZB3.out; have := HSZ2.out; have := HSZ3.out; omega) (by have := HB0.out.size; have := HZB1.out; have := HZB2.out; have := HZB3.out; have := HSZ2.out; have := HSZ3.out; omega) (by have := HB0.out.size; have := HZB1.out; have := HZB2.out; have := HZB3.out; have := HSZ2.out; have := HSZ3.out; omega) (by have := HB0.out.size; have := HZB1.out; have := HZB2.out; have := HZB3.out; have := HSZ2.out; have := HSZ3.out; omega))
        refine uq (i := 8) rfl ?_
        try simp only [aP]
        refine rq 9 rfl fun K hK => ?_
        go_simp
        try go_wp2_with fail
        refine hK.out _ _ trivial (fun hHeld => ?_)
        clear hK K
        try simp only [aP]
        refine uq (i := 10) rfl ?_
        try simp only [aP]
        refine dq ?_
        go_wp2_with fail
        go_meet
        case rel => exact ⟨_, _, _, _, _, _, _, _, rfl, HM.out⟩
      · obtain ⟨wk2, hwk2⟩ : ∃ z, z = wk1.alloc (.chan n #[] false 0 0 false) := ⟨_, rfl⟩
        have HBX : Hid (Below wk1.heap.size wk1 wk2) := by show Below _ _ _; rw [hwk2]; exact (Below.refl _ _).alloc (Nat.le_refl _) _
        have HH2 : Hid (wk2.heap[wk1.heap.size]? = some (.chan n #[] false 0 0 false)) := by show _ = _; rw [hwk2]; exact fa.blk_new _ _
        have HSZ2 : Hid (wk2.heap.size = wk1.heap.size + 1) := by show _ = _; rw [hwk2]; simp
        go_simp
        try go_wp2_with fail
        rw [← hwk2]
        clear hwk2
        have HX1' := Lib.hid (HX1.out.kept fun k h1 h2 => HBX.out.block k (Nat.lt_of_lt_of_le h2 HZ1.out))
        have HZ1' : Hid (wk1.heap.size ≤ wk2.heap.size) := Nat.le_trans HZ1.out HBX.out.size
        have HB2 : Hid (Below w.heap.size w wk2) := HB1.out.trans (HBX.out.mono HB1.out.size)
        have HZB2 : Hid (wk1.heap.size ≤ wk2.heap.size) := HBX.out.size
        clear HBX
        refine hK.out _ _ trivial (fun hHeld => ?_)
        clear hK K
        try simp only [aP]
        refine rq 4 rfl fun K hK => ?_
        obtain ⟨wk3, hwk3⟩ : ∃ z, z = wk2.alloc (.cells ML 3) := ⟨_, rfl⟩
        have HBX : Hid (Below wk2.heap.size wk2 wk3) := by show Below _ _ _; rw [hwk3]; exact (Below.refl _ _).alloc (Nat.le_refl _) _
        have HL3 : Hid (wk3.heap[wk2.heap.size]? = some (.cells ML 3)) := by show _ = _; rw [hwk3]; exact fa.blk_new _ _
        have HSZ3 : Hid (wk3.heap.size = wk2.heap.size + 1) := by show _ = _; rw [hwk3]; simp
        go_simp
        try go_wp2_with fail
        rw [← hwk3]
        clear hwk3
        have HX1'' := Lib.hid (HX1'.out.kept fun k h1 h2 => HBX.out.block k (Nat.lt_of_lt_of_le h2 HZ1'.out))
        have HH2' : Hid (wk3.heap[wk1.heap.size]? = some (.chan n #[] false 0 0 false)) := (HBX.out.block _ (Array.getElem?_eq_some_iff.1 HH2.out).1).trans HH2.out
        have HZ1'' : Hid (wk1.heap.size ≤ wk3.heap.size) := Nat.le_trans HZ1'.out HBX.out.size
        have HB3 : Hid (Below w.heap.size w wk3) := HB2.out.trans (HBX.out.mono HB2.out.size)
        have HZB3 : Hid (wk2.heap.size ≤ wk3.heap.size) := HBX.out.size
        clear HBX
        refine hK.out _ _ trivial (fun hHeld => ?_)
        clear hK K
        try simp only [aP]
        have HM := Lib.hid (mk_new (us := us) HB3.out (HML.out ▸ HL3.out) HH2'.out HX1''.out (by have := HB0.out.size; have := HZB1.out; have := HZB2.out; have := HZB3.out; have := HSZ3.out; have := HSZ2.out; omega) HZ1''.out (by have := HB0.out.size; have := HZB1.out; have := HZB2.out; have := HZB3.out; have := HSZ3.out; have := HSZ2.out; omega) (by have := HB0.out.size; have := HZB1.out; have := HZB2.out; have := HZB3.out; have := HSZ3.out; have := HSZ2.out; omega) (by have := HB0.out.size; have := HZB1.out; have := HZB2.out; have := HZB3.out; have := HSZ3.out; have := HSZ2.out; omega) (by have := HB0.out.size; have := HZB1.out; have := HZB2.out; have := HZB3.out; have := HSZ3.out; have := HSZ2.out; omega))
        refine uq (i := 8) rfl ?_
        try simp only [aP]
        refine rq 9 rfl fun K hK => ?_
        go_simp
        try go_wp2_with fail
        refine hK.out _ _ trivial (fun hHeld => ?_)
        clear hK K
        try simp only [aP]
        refine uq (i := 10) rfl ?_
        try simp only [aP]
        refine dq ?_
        go_wp2_with fail
        go_meet
        case rel => exact ⟨_, _, _, _, _, _, _, _, rfl, HM.out⟩
    · obtain ⟨wk1, hwk1⟩ : ∃ z, z = wd.alloc (.cells ML 3) := ⟨_, rfl⟩
      have HBX : Hid (Below wd.heap.size wd wk1) := by show Below _ _ _; rw [hwk1]; exact (Below.refl _ _).alloc (Nat.le_refl _) _
      have HL1 : Hid (wk1.heap[wd.heap.size]? = some (.cells ML 3)) := by show _ = _; rw [hwk1]; exact fa.blk_new _ _
      have HSZ1 : Hid (wk1.heap.size = wd.heap.size + 1) := by show _ = _; rw [hwk1]; simp
      go_simp
      try go_wp2_with fail
      rw [← hwk1]
      clear hwk1
      have HB1 : Hid (Below w.heap.size w wk1) := HB0.out.trans (HBX.out.mono HB0.out.size)
      have HZB1 : Hid (wd.heap.size ≤ wk1.heap.size) := HBX.out.size
      clear HBX
      refine hK.out _ _ trivial (fun hHeld => ?_)
      clear hK K
      try simp only [aP]
      refine wpAnyH_ready (rs := [1, 7]) (by kernel_rfl) (by simp) ?_
      refine cq rfl (fun K hK => ?_) (cq rfl (fun K hK => ?_) AllReadyH.nil)
      · go_simp
        (go_at_call 20; refine (HWB.out wk1 HB1.out).mono ?_; rintro e wk2 ⟨hx, hbx⟩; obtain ⟨A, U, ad, cp, rfl, hX⟩ := webx_n HN.out hx; clear hx)
        try go_wp2_with fail
        have HBX : Hid (Below wk1.heap.size wk1 wk2) := hbx
        have HX2 : Hid (WebX us n A U ad cp wk1.heap.size wk2.heap.size wk2) := hX
        clear hX hbx
        have HL1' : Hid (wk2.heap[wd.heap.size]? = some (.cells ML 3)) := (HBX.out.block _ (Array.getElem?_eq_some_iff.1 HL1.out).1).trans HL1.out
        have HZ2 : Hid (wk2.heap.size ≤ wk2.heap.size) := Nat.le_refl _
        have HB2 : Hid (Below w.heap.size w wk2) := HB1.out.trans (HBX.out.mono HB1.out.size)
        have HZB2 : Hid (wk1.heap.size ≤ wk2.heap.size) := HBX.out.size
        clear HBX
        refine hK.out _ _ trivial (fun hHeld => ?_)
        clear hK K
        try simp only [aP]
        refine rq 7 rfl fun K hK => ?_
        obtain ⟨wk3, hwk3⟩ : ∃ z, z = wk2.alloc (.chan n #[] false 0 0 false) := ⟨_, rfl⟩
        have HBX : Hid (Below wk2.heap.size wk2 wk3) := by show Below _ _ _; rw [hwk3]; exact (Below.refl _ _).alloc (Nat.le_refl _) _
        have HH3 : Hid (wk3.heap[wk2.heap.size]? = some (.chan n #[] false 0 0 false)) := by show _ = _; rw [hwk3]; exact fa.blk_new _ _
        have HSZ3 : Hid (wk3.heap.size = wk2.heap.size + 1) := by show _ = _; rw [hwk3]; simp
        go_simp
        try go_wp2_with fail
        rw [← hwk3]
        clear hwk3
        have HL1'' : Hid (wk3.heap[wd.heap.size]? = some (.cells ML 3)) := (HBX.out.block _ (Array.getElem?_eq_some_iff.1 HL1'.out).1).trans HL1'.out
        have HX2' := Lib.hid (HX2.out.kept fun k h1 h2 => HBX.out.block k (Nat.lt_of_lt_of_le h2 HZ2.out))
        have HZ2' : Hid (wk2.heap.size ≤ wk3.heap.size) := Nat.le_trans HZ2.out HBX.out.size
        have HB3 : Hid (Below w.heap.size w wk3) := HB2.out.trans (HBX.out.mono HB2.out.size)
        have HZB3 : Hid (wk2.heap.size ≤ wk3.heap.size) := HBX.out.size
        clear HBX
        refine hK.out _ _ trivial (fun hHeld => ?_)
        clear hK K
        try simp only [aP]
        have HM := Lib.hid (mk_new (us := us) HB3.out (HML.out ▸ HL1''.out) HH3.out HX2'.out (by have := HB0.out.size; have := HZB1.out; have := HZB2.out; have := HZB3.out; have := HSZ1.out; have := HSZ3.out; omega) HZ2'.out (by have := HB0.out.size; have := HZB1.out; have := HZB2.out; have := HZB3.out; have := HSZ1.out; have := HSZ3.out; omega) (by have := HB0.out.size; have := HZB1.out; have := HZB2.out; have := HZB3.out; have := HSZ1.out; have := HSZ3.out; omega) (by have := HB0.out.size; have := HZB1.out; have := HZB2.out; have := HZB3.out; have := HSZ1.out; have := HSZ3.out; omega) (by have := HB0.out.size; have := HZB1.out; have := HZB2.out; have := HZB3.out; have := HSZ1.out; have := HSZ3.out; omega))
        refine uq (i := 8) rfl ?_
        try simp only [aP]
        refine rq 9 rfl fun K hK => ?_
        go_simp
        try go_wp2_with fail
        refine hK.out _ _ trivial (fun hHeld => ?_)
        clear hK K
        try simp only [aP]
        refine uq (i := 10) rfl ?_
        try simp only [aP]
        refine dq ?_
        go_wp2_with fail
        go_meet
        case rel => exact ⟨_, _, _, _, _, _, _, _, rfl, HM.out⟩
      · obtain ⟨wk2, hwk2⟩ : ∃ z, z = wk1.alloc (.chan n #[] false 0 0 false) := ⟨_, rfl⟩
        have HBX : Hid (Below wk1.heap.size wk1 wk2) := by show Below _ _ _; rw [hwk2]; exact (Below.refl _ _).alloc (Nat.le_refl _) _
        have HH2 : Hid (wk2.heap[wk1.heap.size]? = some (.chan n #[] false 0 0 false)) := by show _ = _; rw [hwk2]; exact fa.blk_new _ _
        have HSZ2 : Hid (wk2.heap.size = wk1.heap.size + 1) := by show _ = _; rw [hwk2]; simp
        go_simp
        try go_wp2_with fail
        rw [← hwk2]
        clear hwk2
        have HL1' : Hid (wk2.heap[wd.heap.size]? = some (.cells ML 3)) := (HBX.out.block _ (Array.getElem?_eq_some_iff.1 HL1.out).1).trans HL1.out
        have HB2 : Hid (Below w.heap.size w wk2) := HB1.out.trans (HBX.out.mono HB1.out.size)
        have HZB2 : Hid (wk1.heap.size ≤ wk2.heap.size) := HBX.out.size
        clear HBX
        refine hK.out _ _ trivial (fun hHeld => ?_)
        clear hK K
        try simp only [aP]
        refine rq 1 rfl fun K hK => ?_
        go_simp
        (go_at_call 20; refine (HWB.out wk2 HB2.out).mono ?_; rintro e wk3 ⟨hx, hbx⟩; obtain ⟨A, U, ad, cp, rfl, hX⟩ := webx_n HN.out hx; clear hx)
        try go_wp2_with fail
        have HBX : Hid (Below wk2.heap.size wk2 wk3) := hbx
        have HX3 : Hid (WebX us n A U ad cp wk2.heap.size wk3.heap.size wk3) := hX
        clear hX hbx
        have HL1'' : Hid (wk3.heap[wd.heap.size]? = some (.cells ML 3)) := (HBX.out.block _ (Array.getElem?_eq_some_iff.1 HL1'.out).1).trans HL1'.out
        have HH2' : Hid (wk3.heap[wk1.heap.size]? = some (.chan n #[] false 0 0 false)) := (HBX.out.block _ (Array.getElem?_eq_some_iff.1 HH2.out).1).trans HH2.out
        have HZ3 : Hid (wk3.heap.size ≤ wk3.heap.size) := Nat.le_refl _
        have HB3 : Hid (Below w.heap.size w wk3) := HB2.out.trans (HBX.out.mono HB2.out.size)
        have HZB3 : Hid (wk2.heap.size ≤ wk3.heap.size) := HBX.out.size
        clear HBX
        refine hK.out _ _ trivial (fun hHeld => ?_)
        clear hK K
        try simp only [aP]
        have HM := Lib.hid (mk_new (us := us) HB3.out (HML.out ▸ HL1''.out) HH2'.out HX3.out (by have := HB0.out.size; have := HZB1.out; have := HZB2.out; have := HZB3.out; have := HSZ1.out; have := HSZ2.out; omega) HZ3.out (by have := HB0.out.size; have := HZB1.out; have := HZB2.out; have := HZB3.out; have := HSZ1.out; have := HSZ2.out; omega) (by have := HB0.out.size; have := HZB1.out; have := HZB2.out; have := HZB3.out; have := HSZ1.out; have := HSZ2.out; omega) (by have := HB0.out.size; have := HZB1.out; have := HZB2.out; have := HZB3.out; have := HSZ1.out; have := HSZ2.out; omega) (by have := HB0.out.size; have := HZB1.out; have := HZB2.out; have := HZB3.out; have := HSZ1.out; have := HSZ2.out; omega))
        refine uq (i := 8) rfl ?_
        try simp only [aP]
        refine rq 9 rfl fun K hK => ?_
        go_simp
        try go_wp2_with fail
        refine hK.out _ _ trivial (fun hHeld => ?_)
        clear hK K
        try simp only [aP]
        refine uq (i := 10) rfl ?_
        try simp only [aP]
        refine dq ?_
        go_wp2_with fail
        go_meet
        case rel => exact ⟨_, _, _, _, _, _, _, _, rfl, HM.out⟩
    · obtain ⟨wk1, hwk1⟩ : ∃ z, z = wd.alloc (.chan n #[] false 0 0 false) := ⟨_, rfl⟩
      have HBX : Hid (Below wd.heap.size wd wk1) := by show Below _ _ _; rw [hwk1]; exact (Below.refl _ _).alloc (Nat.le_refl _) _
      have HH1 : Hid (wk1.heap[wd.heap.size]? = some (.chan n #[] false 0 0 false)) := by show _ = _; rw [hwk1]; exact fa.blk_new _ _
      have HSZ1 : Hid (wk1.heap.size = wd.heap.size + 1) := by show _ = _; rw [hwk1]; simp
      go_simp
      try go_wp2_with fail
      rw [← hwk1]
      clear hwk1
      have HB1 : Hid (Below w.heap.size w wk1) := HB0.out.trans (HBX.out.mono HB0.out.size)
      have HZB1 : Hid (wd.heap.size ≤ wk1.heap.size) := HBX.out.size
      clear HBX
      refine hK.out _ _ trivial (fun hHeld => ?_)
      clear hK K
      try simp only [aP]
      refine wpAnyH_ready (rs := [1, 4]) (by kernel_rfl) (by simp) ?_
      refine cq rfl (fun K hK => ?_) (cq rfl (fun K hK => ?_) AllReadyH.nil)
      · go_simp
        (go_at_call 20; refine (HWB.out wk1 HB1.out).mono ?_; rintro e wk2 ⟨hx, hbx⟩; obtain ⟨A, U, ad, cp, rfl, hX⟩ := webx_n HN.out hx; clear hx)
        try go_wp2_with fail
        have HBX : Hid (Below wk1.heap.size wk1 wk2) := hbx
        have HX2 : Hid (WebX us n A U ad cp wk1.heap.size wk2.heap.size wk2) := hX
        clear hX hbx
        have HH1' : Hid (wk2.heap[wd.heap.size]? = some (.chan n #[] false 0 0 false)) := (HBX.out.block _ (Array.getElem?_eq_some_iff.1 HH1.out).1).trans HH1.out
        have HZ2 : Hid (wk2.heap.size ≤ wk2.heap.size) := Nat.le_refl _
        have HB2 : Hid (Below w.heap.size w wk2) := HB1.out.trans (HBX.out.mono HB1.out.size)
        have HZB2 : Hid (wk1.heap.size ≤ wk2.heap.size) := HBX.out.size
        clear HBX
        refine hK.out _ _ trivial (fun hHeld => ?_)
        clear hK K
        try simp only [aP]
        refine rq 4 rfl fun K hK => ?_
        obtain ⟨wk3, hwk3⟩ : ∃ z, z = wk2.alloc (.cells ML 3) := ⟨_, rfl⟩
        have HBX : Hid (Below wk2.heap.size wk2 wk3) := by show Below _ _ _; rw [hwk3]; exact (Below.refl _ _).alloc (Nat.le_refl _) _
        have HL3 : Hid (wk3.heap[wk2.heap.size]? = some (.cells ML 3)) := by show _ = _; rw [hwk3]; exact fa.blk_new _ _
        have HSZ3 : Hid (wk3.heap.size = wk2.heap.size + 1) := by show _ = _; rw [hwk3]; simp
        go_simp
        try go_wp2_with fail
        rw [← hwk3]
        clear hwk3
        have HH1'' : Hid (wk3.heap[wd.heap.size]? = some (.chan n #[] false 0 0 false)) := (HBX.out.block _ (Array.getElem?_eq_some_iff.1 HH1'.out).1).trans HH1'.out
        have HX2' := Lib.hid (HX2.out.kept fun k h1 h2 => HBX.out.block k (Nat.lt_of_lt_of_le h2 HZ2.out))
        have HZ2' : Hid (wk2.heap.size ≤ wk3.heap.size) := Nat.le_trans HZ2.out HBX.out.size
        have HB3 : Hid (Below w.heap.size w wk3) := HB2.out.trans (HBX.out.mono HB2.out.size)
        have HZB3 : Hid (wk2.heap.size ≤ wk3.heap.size) := HBX.out.size
        clear HBX
        refine hK.out _ _ trivial (fun hHeld => ?_)
        clear hK K
        try simp only [aP]
        have HM := Lib.hid (mk_new (us := us) HB3.out (HML.out ▸ HL3.out) HH1''.out HX2'.out (by have := HB0.out.size; have := HZB1.out; have := HZB2.out; have := HZB3.out; have := HSZ3.out; have := HSZ1.out; omega) HZ2'.out (by have := HB0.out.size; have := HZB1.out; have := HZB2.out; have := HZB3.out; have := HSZ3.out; have := HSZ1.out; omega) (by have := HB0.out.size; have := HZB1.out; have := HZB2.out; have := HZB3.out; have := HSZ3.out; have := HSZ1.out; omega) (by have := HB0.out.size; have := HZB1.out; have := HZB2.out; have := HZB3.out; have := HSZ3.out; have := HSZ1.out; omega) (by have := HB0.out.size; have := HZB1.out; have := HZB2.out; have := HZB3.out; have := HSZ3.out; have := HSZ1.out; omega))
        refine uq (i := 8) rfl ?_
        try simp only [aP]
        refine rq 9 rfl fun K hK => ?_
        go_simp
        try go_wp2_with fail
        refine hK.out _ _ trivial (fun hHeld => ?_)
        clear hK K
        try simp only [aP]
        refine uq (i := 10) rfl ?_
        try simp only [aP]
        refine dq ?_
        go_wp2_with fail
        go_meet
        case rel => exact ⟨_, _, _, _, _, _, _, _, rfl, HM.out⟩
      · obtain ⟨wk2, hwk2⟩ : ∃ z, z = wk1.alloc (.cells ML 3) := ⟨_, rfl⟩
        have HBX : Hid (Below wk1.heap.size wk1 wk2) := by show Below _ _ _; rw [hwk2]; exact (Below.refl _ _).alloc (Nat.le_refl _) _
        have HL2 : Hid (wk2.heap[wk1.heap.size]? = some (.cells ML 3)) := by show _ = _; rw [hwk2]; exact fa.blk_new _ _
        have HSZ2 : Hid (wk2.heap.size = wk1.heap.size + 1) := by show _ = _; rw [hwk2]; simp
        go_simp
        try go_wp2_with fail
        rw [← hwk2]
        clear hwk2
        have HH1' : Hid (wk2.heap[wd.heap.size]? = some (.chan n #[] false 0 0 false)) := (HBX.out.block _ (Array.getElem?_eq_some_iff.1 HH1.out).1).trans HH1.out
        have HB2 : Hid (Below w.heap.size w wk2) := HB1.out.trans (HBX.out.mono HB1.out.size)
        have HZB2 : Hid (wk1.heap.size ≤ wk2.heap.size) := HBX.out.size
        clear HBX
        refine hK.out _ _ trivial (fun hHeld => ?_)
        clear hK K
        try simp only [aP]
        refine rq 1 rfl fun K hK => ?_
        go_simp
        (go_at_call 20; refine (HWB.out wk2 HB2.out).mono ?_; rintro e wk3 ⟨hx, hbx⟩; obtain ⟨A, U, ad, cp, rfl, hX⟩ := webx_n HN.out hx; clear hx)
        try go_wp2_with fail
        have HBX : Hid (Below wk2.heap.size wk2 wk3) := hbx
        have HX3 : Hid (WebX us n A U ad cp wk2.heap.size wk3.heap.size wk3) := hX
        clear hX hbx
        have HH1'' : Hid (wk3.heap[wd.heap.size]? = some (.chan n #[] false 0 0 false)) := (HBX.out.block _ (Array.getElem?_eq_some_iff.1 HH1'.out).1).trans HH1'.out
        have HL2' : Hid (wk3.heap[wk1.heap.size]? = some (.cells ML 3)) := (HBX.out.block _ (Array.getElem?_eq_some_iff.1 HL2.out).1).trans HL2.out
        have HZ3 : Hid (wk3.heap.size ≤ wk3.heap.size) := Nat.le_refl _
        have HB3 : Hid (Below w.heap.size w wk3) := HB2.out.trans (HBX.out.mono HB2.out.size)
        have HZB3 : Hid (wk2.heap.size ≤ wk3.heap.size) := HBX.out.size
        clear HBX
        refine hK.out _ _ trivial (fun hHeld => ?_)
        clear hK K
        try simp only [aP]
        have HM := Lib.hid (mk_new (us := us) HB3.out (HML.out ▸ HL2'.out) HH1''.out HX3.out (by have := HB0.out.size; have := HZB1.out; have := HZB2.out; have := HZB3.out; have := HSZ2.out; have := HSZ1.out; omega) HZ3.out (by have := HB0.out.size; have := HZB1.out; have := HZB2.out; have := HZB3.out; have := HSZ2.out; have := HSZ1.out; omega) (by have := HB0.out.size; have := HZB1.out; have := HZB2.out; have := HZB3.out; have := HSZ2.out; have := HSZ1.out; omega) (by have := HB0.out.size; have := HZB1.out; have := HZB2.out; have := HZB3.out; have := HSZ2.out; have := HSZ1.out; omega) (by have := HB0.out.size; have := HZB1.out; have := HZB2.out; have := HZB3.out; have := HSZ2.out; have := HSZ1.out; omega))
        refine uq (i := 8) rfl ?_
        try simp only [aP]
        refine rq 9 rfl fun K hK => ?_
        go_simp
        try go_wp2_with fail
        refine hK.out _ _ trivial (fun hHeld => ?_)
        clear hK K
        try simp only [aP]
        refine uq (i := 10) rfl ?_
        try simp only [aP]
        refine dq ?_
        go_wp2_with fail
        go_meet
        case rel => exact ⟨_, _, _, _, _, _, _, _, rfl, HM.out⟩
  case rest =>
    obtain ⟨M, S, A, U, L, C, ad, cp, rfl, hM⟩ := hcut
    have HM0 := Lib.hid hM
    clear hM hmk hmc HWB HML
    go_wp2
    go_loopw [4, 17] (fun _ y wr => ∃ i : Nat, i ≤ n ∧ y = .int .i64 (i : Int) ∧ Mk us n w M S A U L C ad cp (f0 us i) (b0 us i) wr) (fun _ y _ => n - (intOf y).toNat)
    case atStart => exact ⟨0, Nat.zero_le _, rfl, HM0.out⟩
    case round =>
      obtain ⟨i, hi, rfl, hM⟩ := hrel
      have HM := Lib.hid hM
      clear hM HM0
      by_cases hil : i < n
      · have hil' : (i : Int) < (n : Int) := by omega
        have hi0 : (0 : Int) ≤ (i : Int) := by omega
        have hwi : IntKind.i64.wrap ((i : Int) + 1) = (i : Int) + 1 := by rw [IntKind.wrap_i64]; omega
        obtain ⟨u, hu⟩ : ∃ u, us[i]? = some u := ⟨_, List.getElem?_eq_getElem (by rw [HN.out]; exact hil)⟩
        obtain ⟨lo, hh, hx, _⟩ := HM.out.web
        obtain ⟨g, o, cap, cg, _⟩ := (hx.is wr fun _ _ _ => rfl).2 i u hu
        rw [← ndA_some hu] at cg
        have c0 : wr.cell? ⟨S, 0, none⟩ = some (.slice (some ⟨A, 0, none⟩) n n) := HM.out.sg.ho.row.cell (i := 0) (by decide)
        have HLK := Lib.hid (lack_any wr HM.out.sg i ((ndA us i).length : Int) (ndA us i).length hil (by omega) (by unfold f0; rw [if_neg (Nat.lt_irrefl _)]; omega) (by have := HLE.out i; omega) (fun _ => Nat.lt_of_le_of_lt (b0_len us i) hil))
        rw [f0_step, b0_step] at HLK
        clear hx hu
        obtain ⟨nl, hnl⟩ : ∃ q, (ndA us i).length = q := ⟨_, rfl⟩
        rw [hnl] at cg HLK
        clear hnl
        go_wp2_with (go_at_call 58; refine HLK.out.mono ?_; rintro e w5 ⟨rfl, h51, h52⟩; refine Hid.out ?_)
        refine Lib.hid ?_
        have HM5 := Lib.hid (HM.out.lack h51 h52)
        clear h51 h52 c0 cg
        go_wp2
        go_roundw
        case rel => exact ⟨i + 1, by omega, by go_num, HM5.out⟩
        case measure => simp [intOf]; omega
      · have hil' : ¬ (i : Int) < (n : Int) := by omega
        obtain rfl : i = n := by omega
        go_wp2
        go_ret
        exact ⟨HM.out.done, HM.out.bel⟩

end Go.Proofs.Ytajpfidgepebgaa.hp

namespace Go.Proofs.Ytajpfidgepebgaa.hp
open Go.ChangeShapes Go.WideShapes Go.ChangeAt Go.RowKit Go.Deep Go.Maps
open fa (Us uNo nds aw aws nAt app_one new_one)
open fw (ndA ndA_some bhL Ua soA soB)
set_option linter.unusedVariables false
set_option linter.unusedSimpArgs false

/-! ### startNumbers -/

theorem Sg.keep {M S A U L C n : Nat} {f : Nat → Nat} {buf hp : List Nat} {v : Value} {w w' : World} (h : Sg M S A U L C n f buf hp v w) (hs : w.heap.size ≤ w'.heap.size) (hk : ∀ k, k < M → w'.heap[k]? = w.heap[k]?) (hv : ∀ b, v.ownBlock = some b → w'.heap[b]? = w.heap[b]?) : Sg M S A U L C n f buf hp v w' :=
  ⟨⟨h.ho.row.of_block (hk S h.ho.lt), h.ho.hv.kept fun g _ _ e => hv g e, h.ho.lt, Nat.le_trans h.ho.le hs⟩, h.lk.of_block (hk L h.lL), by obtain ⟨s, r, e⟩ := h.ch; exact ⟨s, r, (hk C h.lC).trans e⟩, h.lL, h.lC, h.dSL, h.dSC, h.dLC⟩

/-- All but what startingOf made to be written into stays. -/
def Kp (w0 : World) (lo M S L C : Nat) (W : World) : Prop := ∀ k, lo ≤ k → k < M → k ≠ S → k ≠ L → k ≠ C → W.heap[k]? = w0.heap[k]?

/-- Where its rounds stand: what is told, and what is ready. -/
structure Rd (us : List ty.Un) (n : Nat) (w w0 : World) (M S A U L C : Nat) (O : List Nat) (f : Nat → Nat) (buf hp : List Nat) (v : Value) (g o cap : Nat) (W : World) : Prop where
  ib : fi.Ib M W g o cap O
  ne : v.ownBlock ≠ some g
  bel : Below w.heap.size w W
  kp : Kp w0 w.heap.size M S L C W
  sg : Sg M S A U L C n f buf hp v W
  isHp : Hp hp
  f0 : ∀ y, n ≤ y → f y = 0

/-- What next leaves. -/
def RdX (us : List ty.Un) (n : Nat) (w w0 : World) (M S A U L C : Nat) (O : List Nat) (x5 x6 : Value) (g o cap : Nat) (W : World) : Prop :=
  (x5 = .int .i64 0 ∧ x6 = .bool false ∧ fi.Ib M W g o cap O ∧ Below w.heap.size w W ∧ ∃ f, Iv us O f []) ∨
  ∃ (x : Nat) (f : Nat → Nat) (hp : List Nat) (v : Value), x5 = .int .i64 (x : Int) ∧ x6 = .bool true ∧ Rd us n w w0 M S A U L C O f [] hp v g o cap W ∧ Iv us O f (x :: hp) ∧ ∀ y ∈ x :: hp, x ≤ y

theorem Rd.next {us : List ty.Un} {n : Nat} {w w0 : World} {M S A U L C : Nat} {O : List Nat} {f : Nat → Nat} {buf hp : List Nat} {v : Value} {g o cap : Nat} {W W' : World} {e : Ending} (h : Rd us n w w0 M S A U L C O f buf hp v g o cap W) (hi : Iv us O f (hp ++ buf)) (hS : w.heap.size ≤ S) (hC : w.heap.size ≤ C) (hM : w.heap.size ≤ M) (hx : NxR M S A U L C n f buf hp v W e W') :
    ∃ x5 x6, e = .returned (.tuple #[x5, x6]) ∧ RdX us n w w0 M S A U L C O x5 x6 g o cap W' := by
  have key : Oth (fun k => k = S ∨ k = C ∨ v.ownBlock = some k) W W' → fi.Ib M W' g o cap O ∧ Below w.heap.size w W' ∧ Kp w0 w.heap.size M S L C W' := fun ho => by
    have hv : ∀ k, v.ownBlock = some k → M ≤ k := fun k e => (h.sg.ho.hv.own.lt k e).1
    refine ⟨h.ib.kept ho.size (ho.block g h.ib.lt fun e => ?_), h.bel.trans ((ho.below h.bel.size fun k hk e => ?_)), fun k h1 h2 h3 h4 h5 => (ho.block k (by have := h.sg.ho.le; omega) fun e => ?_).trans (h.kp k h1 h2 h3 h4 h5)⟩
    · have := h.ib.new
      have := h.sg.ho.lt
      have := h.sg.lC
      rcases e with e | e | e
      · omega
      · omega
      · exact h.ne e
    · rcases e with e | e | e
      · omega
      · omega
      · have := hv k e; omega
    · rcases e with e | e | e
      · exact h3 e
      · exact h5 e
      · have := hv k e; omega
  rcases hx with ⟨rfl, rfl, rfl, ho⟩ | ⟨x, hp', v', rfl, hpm, hmin, hh, hsg, ho, hfr⟩
  · obtain ⟨k1, k2, k3⟩ := key ho
    exact ⟨_, _, rfl, .inl ⟨rfl, rfl, k1, k2, f, hi⟩⟩
  · obtain ⟨k1, k2, k3⟩ := key ho
    refine ⟨_, _, rfl, .inr ⟨x, f, hp', v', rfl, rfl, ⟨k1, ?_, k2, k3, hsg, hh, h.f0⟩, hi.perm hpm, fun y hy => hmin y (hpm.mem_iff.2 hy)⟩⟩
    rcases hfr with e | e
    · rw [e]; exact h.ne
    · intro e2
      have := e g e2
      have := h.ib.lt
      omega
/-- One more is told. -/
theorem Rd.app {us : List ty.Un} {n : Nat} {w w0 : World} {M S A U L C : Nat} {O O' : List Nat} {f : Nat → Nat} {buf hp : List Nat} {v : Value} {g o cap : Nat} {W W1 W' : World} {g' o' cap' : Nat} (h : Rd us n w w0 M S A U L C O f buf hp v g o cap W) (hb1 : Below W.heap.size W W1) (hA : fi.Ap M W1 g W' g' o' cap' O') (hM : w.heap.size ≤ M) : Rd us n w w0 M S A U L C O' f buf hp v g' o' cap' W' := by
  have hgl := h.ib.lt
  have hgn := h.ib.new
  have hk : ∀ k, k < W.heap.size → k ≠ g → W'.heap[k]? = W.heap[k]? := fun k h1 h2 => (hA.grown.block k (by have := hb1.size; omega) fun e => h2 (Option.some.inj e)).trans (hb1.block k h1)
  have hz : W.heap.size ≤ W'.heap.size := Nat.le_trans hb1.size hA.grown.size
  have hle := h.sg.ho.le
  have hv : ∀ b, v.ownBlock = some b → b < W.heap.size := fun b e => (h.sg.ho.hv.own.lt b e).2
  refine ⟨hA.ib, fun e => ?_, ?_, fun k h1 h2 h3 h4 h5 => (hk k (by omega) (by omega)).trans (h.kp k h1 h2 h3 h4 h5), h.sg.keep hz (fun k hkm => hk k (by omega) (by omega)) (fun b e => hk b (hv b e) fun e2 => h.ne (e2 ▸ e)), h.isHp, h.f0⟩
  · rcases hA.here with e2 | e2
    · exact h.ne (e2 ▸ e)
    · have := hv g' e
      have := hb1.size
      omega
  · exact (h.bel.trans (hb1.mono h.bel.size)).trans (hA.bel hgn (by have := hb1.size; omega) |>.mono hM)
/-- A unit stands. -/
theorem Rd.stood {us : List ty.Un} {n : Nat} {w w0 : World} {M S A U L C : Nat} {O : List Nat} {f f' : Nat → Nat} {buf buf' hp : List Nat} {v : Value} {g o cap : Nat} {W W' : World} (h : Rd us n w w0 M S A U L C O f buf hp v g o cap W) (hs : Sg M S A U L C n f' buf' hp v W') (ho : Oth (fun k => k = L ∨ k = C) W W') (hf : ∀ y, n ≤ y → f' y = 0) (hL : w.heap.size ≤ L) (hC : w.heap.size ≤ C) : Rd us n w w0 M S A U L C O f' buf' hp v g o cap W' := by
  have hgn := h.ib.new
  have := h.sg.lL
  have := h.sg.lC
  have hle := h.sg.ho.le
  exact ⟨h.ib.kept ho.size (ho.block g h.ib.lt (by omega)), h.ne, h.bel.trans (ho.below h.bel.size (by omega)), fun k h1 h2 h3 h4 h5 => (ho.block k (by omega) (by omega)).trans (h.kp k h1 h2 h3 h4 h5), hs, h.isHp, hf⟩

def lenS : Value → Nat
  | .slice _ n _ => n
  | _ => 0

/-- What startNumbers answers. -/
def SnR (us : List ty.Un) (w w' : World) (e : Ending) : Prop := ∃ (O : List Nat) (f : Nat → Nat) (g o cap : Nat), e = .returned (.slice (some ⟨g, o, none⟩) O.length cap) ∧ fi.Ib w.heap.size w' g o cap O ∧ Iv us O f []

theorem ib_zero (W : World) (M : Nat) (h : M ≤ W.heap.size) (t : TypeId) : fi.Ib M (W.alloc (.cells #[] t)) W.heap.size 0 0 [] := ⟨h, by simp, fun j hj => by simp at hj, fun j hj => by omega, Nat.le_refl _, Nat.zero_le _⟩

set_option maxRecDepth 100000 in
set_option maxHeartbeats 8000000 in
theorem snum_any (md : Option Nat) (a : Option Addr) (c : Nat) (us : List ty.Un) (w : World) (hb : ty.SrcUn md w a us) (hU : Ua us) :
    Calls Try.prog 18 #[.slice a us.length c] w fun e w' => SnR us w w' e ∧ Below w.heap.size w w' := by
  have hn1 := hU.few
  have HST := Lib.hid (starting_any md a c us w hb hU)
  have HU := Lib.hid hU
  obtain ⟨n, hnn⟩ : ∃ n, us.length = n := ⟨_, rfl⟩
  have HN : Hid (us.length = n) := hnn
  rw [hnn] at hn1 HST ⊢
  have HBL : Hid (∀ x, (bhL us n x).length ≤ 1000000) := fun x => by have := fw.bhL_len HU.out x n; omega
  clear hb hU hnn
  go_enter Try.func18, Try.ntmps18
  go_wp2_with (go_at_call 36; refine HST.out.mono ?_; rintro e w1 ⟨⟨M, S, A, U, L, C, ad, cp, rfl, hsg, hS, hL, hC, hBd⟩, hb1⟩; refine Hid.out ?_)
  refine Lib.hid ?_
  have hM : w.heap.size ≤ M := by have := hsg.ho.lt; omega
  have HBD := Lib.hid hBd
  have HIV : Hid (Iv us [] (f0 us n) ([] ++ b0 us n)) := by have := Iv.zero us; rw [HN.out] at this; exact this
  have HRD : Hid (Rd us n w w1 M S A U L C [] (f0 us n) (b0 us n) [] (.slice none 0 0) w1.heap.size 0 0 (w1.alloc (.cells #[] 3))) :=
    ⟨ib_zero w1 M hsg.ho.le 3, by simp [Value.ownBlock], hb1.alloc hb1.size _, fun k h1 h2 _ _ _ => Below.heap_alloc w1 _ k (by have := hsg.ho.le; omega), hsg.keep (by simp) (fun k hk => Below.heap_alloc w1 _ k (by have := hsg.ho.le; omega)) (fun b e => by simp [Value.ownBlock] at e), Hp.nil, fun y hy => by unfold f0; rw [if_neg (by omega)]⟩
  have HNX := Lib.hid (next_any _ HRD.out.sg HRD.out.isHp (by have := b0_len us n; simp; omega))
  clear hsg hb1 hBd HST
  go_wp2_with (go_at_call 37; refine HNX.out.mono ?_; rintro e w2 hx; obtain ⟨x5, x6, rfl, hrx⟩ := HRD.out.next HIV.out hS hC hM hx; clear hx; refine Hid.out ?_)
  refine Lib.hid ?_
  have HRX := Lib.hid hrx
  clear hrx HNX HRD HIV
  go_wp2
  go_loopw [4, 5, 6] (fun v4 v5 v6 wr => ∃ (O : List Nat) (g o cap : Nat), v4 = .slice (some ⟨g, o, none⟩) O.length cap ∧ RdX us n w w1 M S A U L C O v5 v6 g o cap wr) (fun v4 _ _ _ => n - lenS v4)
  case atStart => exact ⟨[], _, 0, 0, rfl, HRX.out⟩
  case round =>
    obtain ⟨O, g, o, cap, rfl, hrx⟩ := hrel
    rcases hrx with ⟨rfl, rfl, hib, hbe, f, hiv⟩ | ⟨x, f, hp, v, rfl, rfl, hrd, hiv, hmin⟩
    · have HE : Hid (SnR us w wr (.returned (.slice (some ⟨g, o, none⟩) O.length cap)) ∧ Below w.heap.size w wr) := ⟨⟨O, f, g, o, cap, rfl, hib.mono hM, hiv⟩, hbe⟩
      clear hib hbe hiv HRX
      go_wp2
      go_ret
      exact HE.out
    · have HRD := Lib.hid hrd
      have HIV := Lib.hid hiv
      have HMN := Lib.hid hmin
      have hOl := hiv.olen
      rw [HN.out] at hOl
      have hws := hrd.bel.size
      have HMW : Hid (M ≤ wr.heap.size) := hrd.sg.ho.le
      have hxn : x < n := by have := ((hiv.mem x).1 List.mem_cons_self).1; rw [HN.out] at this; exact this
      clear hrd hiv hmin HRX
      have HIB : Hid (fi.Ib M (wr.alloc (.cells #[.int .i64 (x : Int)] 3)) g o cap O) := HRD.out.ib.below ((Below.refl _ _).alloc (Nat.le_refl _) _)
      go_wp2_with (at_builtin; refine app_one (base := M) (l := O) (m := [x]) (ad := ⟨wr.heap.size, 0, none⟩) (c := 1) (g := g) («of» := o) (cap := cap) rfl _ _ rfl rfl rfl HIB.out (by have := HMW.out; simp; omega) (new_one wr x) (by simp; omega) ?_; intro g4 o4 cap4 w4 hA4; refine Hid.out ?_)
      refine Lib.hid ?_
      have HR4 : Hid (Rd us n w w1 M S A U L C (O ++ [x]) f [] hp v g4 o4 cap4 w4) := HRD.out.app ((Below.refl _ _).alloc (Nat.le_refl _) _) hA4 hM
      have hstd := Iv.stand HU.out HIV.out (by rw [HN.out]; exact HR4.out.f0)
      rw [HN.out] at hstd
      have HSD := Lib.hid (stand_any w4 HR4.out.sg (fun W hW => HBD.out W fun k h1 h2 h3 h4 h5 => (hW.block k (by have := HR4.out.sg.ho.le; omega) (by omega)).trans (HR4.out.kp k h1 h2 h3 h4 h5)) x hxn (by omega) (HBL.out x) hstd.1)
      have HIV5 := Lib.hid (hstd.2 HMN.out).1
      have HF5 := Lib.hid (hstd.2 HMN.out).2
      have HLN : Hid ((O ++ [x]).length = O.length + 1) := by show _ = _; simp
      clear hA4 hstd HIB
      go_wp2_with (go_at_call 38; refine HSD.out.mono ?_; rintro e w5 ⟨rfl, h51, h52⟩; refine Hid.out ?_)
      refine Lib.hid ?_
      have HR5 := Lib.hid (HR4.out.stood h51 h52 HF5.out hL hC)
      have hr5 := HIV5.out.rlen
      rw [HN.out, List.length_append] at hr5
      have hO5 := HIV5.out.olen
      rw [HN.out, List.length_append] at hO5
      have HNX := Lib.hid (next_any w5 HR5.out.sg HR5.out.isHp (by omega))
      clear h51 h52 hr5
      go_wp2_with (go_at_call 37; refine HNX.out.mono ?_; rintro e w6 hx; obtain ⟨x5, x6, rfl, hrx⟩ := HR5.out.next HIV5.out hS hC hM hx; clear hx; refine Hid.out ?_)
      refine Lib.hid ?_
      have HRX := Lib.hid hrx
      clear hrx HNX
      go_wp2
      go_roundw
      case rel => exact ⟨O ++ [x], g4, o4, cap4, by rw [HLN.out], HRX.out⟩
      case measure => simp [lenS] at hO5 ⊢; omega
end Go.Proofs.Ytajpfidgepebgaa.hp

namespace Go.Proofs.Ytajpfidgepebgaa.hp
open Go.ChangeShapes Go.WideShapes Go.ChangeAt Go.RowKit Go.Deep Go.Maps
open fa (Us uNo nds aw aws nAt names_any RdN)
open fw (ndA ndA_some bhL Ua ua_of soA soB)
set_option linter.unusedVariables false
set_option linter.unusedSimpArgs false

/-! ### impl.StartOrder -/

theorem rdn_ib {base : Nat} {w : World} {g o cap : Nat} {l : List Nat} (h : fi.Ib base w g o cap l) : RdN w (.slice (some ⟨g, o, none⟩) l.length cap) l := ⟨_, _, rfl, fun i x hx => ⟨g, o, rfl, by
  obtain ⟨hi, rfl⟩ := List.getElem?_eq_some_iff.1 hx
  exact h.cells i hi⟩⟩

set_option maxRecDepth 100000 in
set_option maxHeartbeats 8000000 in
theorem iso_any (md : Option Nat) (a : Option Addr) (c : Nat) (us : List ty.Un) (w : World) (hb : ty.SrcUn md w a us) (hw : ty.wtUn us ≤ 1048576) :
    Calls Try.prog 6 #[.slice a us.length c] w fun e w' => (∃ v, e = .returned (.tuple #[v, .bool (soB us)]) ∧ sr.OwnS w.heap.size w' v (soA us)) ∧ Below w.heap.size w w' := by
  have HUO := Lib.hid (un.iunits_any a c us w hb.any hw)
  cases hu : un.usB us with
  | false =>
    rw [hu] at HUO
    have HA : Hid (soA us = [] ∧ soB us = false) := ⟨by unfold soA; rw [if_neg (by rw [hu]; decide)], by unfold soB; rw [if_neg (by rw [hu]; decide)]⟩
    rw [HA.out.1, HA.out.2]
    go_enter Try.func6, Try.ntmps6
    go_wp2_with (go_at_call 17; refine HUO.out.mono ?_; rintro e w1 ⟨rfl, hl1⟩)
    go_ret2
    exact ⟨⟨_, rfl, sr.OwnS.mono (base := w1.heap.size) ⟨sr.own_zero w1, sr.not_nil _ _ _⟩ hl1.size⟩, hl1.alloc hl1.size _⟩
  | true =>
    rw [hu] at HUO
    have hU := ua_of hu
    have HSN : Hid (∀ W, Below w.heap.size w W → Calls Try.prog 18 #[.slice a us.length c] W fun e w' => SnR us W w' e ∧ Below W.heap.size W w') := fun W h => snum_any md a c us W (hb.below h) hU
    have HNM : Hid (∀ (L : List Nat) (v : Value) (W : World), Below w.heap.size w W → RdN W v L → (∀ x ∈ L, x < us.length) → L.length ≤ 1000 → Calls Try.prog 19 #[.slice a us.length c, v] W fun e w' => (∃ v', e = .returned v' ∧ sr.OwnS W.heap.size w' v' (L.map (nAt us))) ∧ Below W.heap.size W w') := fun L v W h h1 h2 h3 => names_any md a c us L v W (hb.below h) hw hU.few h1 h2 h3
    have HDN : Hid (∀ (O : List Nat) (f : Nat → Nat), Iv us O f [] → soA us = O.map (nAt us) ∧ soB us = decide (O.length = us.length)) := fun O f h => h.done hU hu
    have hn1 := hU.few
    obtain ⟨n, hnn⟩ : ∃ n, us.length = n := ⟨_, rfl⟩
    have HN : Hid (us.length = n) := hnn
    rw [hnn] at HUO HSN HNM HDN hn1 ⊢
    clear hb hw hu hU hnn
    go_enter Try.func6, Try.ntmps6
    go_wp2_with (go_at_call 17; refine HUO.out.mono ?_; rintro e w1 ⟨rfl, hl1⟩; refine Hid.out ?_)
    refine Lib.hid ?_
    have HS1 := Lib.hid (HSN.out w1 hl1)
    have HB1 := Lib.hid hl1
    clear hl1 HUO
    go_wp2_with (go_at_call 18; refine HS1.out.mono ?_; rintro e w2 ⟨⟨O, f, g, o, cap, rfl, hib, hiv⟩, hl2⟩; refine Hid.out ?_)
    refine Lib.hid ?_
    have hol := hiv.olen
    have HB2 := Lib.hid (HB1.out.trans (hl2.mono HB1.out.size))
    have HN2 := Lib.hid (HNM.out O _ w2 HB2.out (rdn_ib hib) (by have := hiv.lt; rw [HN.out] at this; exact this) (by rw [HN.out] at hol; omega))
    have HE := Lib.hid (HDN.out O f hiv)
    have hdd : ((O.length : Int) == (n : Int)) = decide (O.length = n) := by rw [Bool.eq_iff_iff, beq_iff_eq, decide_eq_true_eq]; omega
    clear hib hiv hl2 hol HS1
    go_wp2_with (go_at_call 19; refine HN2.out.mono ?_; rintro e w3 ⟨⟨v3, rfl, ho3⟩, hl3⟩)
    go_ret2
    rw [HE.out.1, HE.out.2]
    exact ⟨⟨_, by first | rfl | (simp; exact hdd), ho3.mono HB2.out.size⟩, HB2.out.trans (hl3.mono HB2.out.size)⟩

theorem soA_small (us : List ty.Un) : (soA us).length ≤ 1000000 := by
  unfold soA
  split
  · next h => have := fw.soN_len us us.length; have := (ua_of h).few; omega
  · simp
end Go.Proofs.Ytajpfidgepebgaa.hp
