import Derived.Test.YtccnepenfglfoaaGreatSK
namespace Go.Proofs.YtccnepenfglfoaaGreat.hp
open Go.ChangeShapes Go.WideShapes Go.ChangeAt Go.RowKit Go.Deep Go.Maps
open fa (Us uNo nds aw aws nAt app_one new_one)
open fw (ndA ndA_some bhL Ua soA soB)
set_option linter.unusedVariables false
set_option linter.unusedSimpArgs false

/-! ### startNumbers -/

theorem Sg.keep {M S A U L C n : Nat} {f : Nat → Nat} {buf hp : List Nat} {v : Value} {w w' : World} (h : Sg M S A U L C n f buf hp v w) (hs : w.heap.size ≤ w'.heap.size) (hk : ∀ k, k < M → w'.heap[k]? = w.heap[k]?) (hv : ∀ b, v.ownBlock = some b → w'.heap[b]? = w.heap[b]?) : Sg M S A U L C n f buf hp v w' :=
  ⟨⟨h.ho.row.of_block (hk S h.ho.lt), h.ho.hv.kept fun g _ _ e => hv g e, h.ho.lt, Nat.le_trans h.ho.le hs⟩, h.lk.of_block (hk L h.lL), by obtain ⟨s, r, e⟩ := h.ch; exact ⟨s, r, (hk C h.lC).trans e⟩, h.lL, h.lC, h.dSL, h.dSC, h.dLC⟩

/-- All but what startingOf made to be written into stays. -/
def Kp (w0 : World) (lo M S L C : Nat) (W : World) : Prop := ∀ k, lo ≤ k → k < M → k ≠ S → k ≠ L → k ≠ C → W.heap[k]? = w0.heap[k]?

/-- Where its rounds stand: what is told, and what is ready. -/
structure Rd (us : List ty.Un) (n : Nat) (w w0 : World) (M S A U L C : Nat) (O : List Nat) (f : Nat → Nat) (buf hp : List Nat) (v : Value) (g o cap : Nat) (W : World) : Prop where
  ib : fi.Ib M W g o cap O
  ne : v.ownBlock ≠ some g
  bel : Below w.heap.size w W
  kp : Kp w0 w.heap.size M S L C W
  sg : Sg M S A U L C n f buf hp v W
  isHp : Hp hp
  f0 : ∀ y, n ≤ y → f y = 0

/-- What next leaves. -/
def RdX (us : List ty.Un) (n : Nat) (w w0 : World) (M S A U L C : Nat) (O : List Nat) (x5 x6 : Value) (g o cap : Nat) (W : World) : Prop :=
  (x5 = .int .i64 0 ∧ x6 = .bool false ∧ fi.Ib M W g o cap O ∧ Below w.heap.size w W ∧ ∃ f, Iv us O f []) ∨
  ∃ (x : Nat) (f : Nat → Nat) (hp : List Nat) (v : Value), x5 = .int .i64 (x : Int) ∧ x6 = .bool true ∧ Rd us n w w0 M S A U L C O f [] hp v g o cap W ∧ Iv us O f (x :: hp) ∧ ∀ y ∈ x :: hp, x ≤ y

theorem Rd.next {us : List ty.Un} {n : Nat} {w w0 : World} {M S A U L C : Nat} {O : List Nat} {f : Nat → Nat} {buf hp : List Nat} {v : Value} {g o cap : Nat} {W W' : World} {e : Ending} (h : Rd us n w w0 M S A U L C O f buf hp v g o cap W) (hi : Iv us O f (hp ++ buf)) (hS : w.heap.size ≤ S) (hC : w.heap.size ≤ C) (hM : w.heap.size ≤ M) (hx : NxR M S A U L C n f buf hp v W e W') :
    ∃ x5 x6, e = .returned (.tuple #[x5, x6]) ∧ RdX us n w w0 M S A U L C O x5 x6 g o cap W' := by
  have key : Oth (fun k => k = S ∨ k = C ∨ v.ownBlock = some k) W W' → fi.Ib M W' g o cap O ∧ Below w.heap.size w W' ∧ Kp w0 w.heap.size M S L C W' := fun ho => by
    have hv : ∀ k, v.ownBlock = some k → M ≤ k := fun k e => (h.sg.ho.hv.own.lt k e).1
    refine ⟨h.ib.kept ho.size (ho.block g h.ib.lt fun e => ?_), h.bel.trans ((ho.below h.bel.size fun k hk e => ?_)), fun k h1 h2 h3 h4 h5 => (ho.block k (by have := h.sg.ho.le; omega) fun e => ?_).trans (h.kp k h1 h2 h3 h4 h5)⟩
    · have := h.ib.new
      have := h.sg.ho.lt
      have := h.sg.lC
      rcases e with e | e | e
      · omega
      · omega
      · exact h.ne e
    · rcases e with e | e | e
      · omega
      · omega
      · have := hv k e; omega
    · rcases e with e | e | e
      · exact h3 e
      · exact h5 e
      · have := hv k e; omega
  rcases hx with ⟨rfl, rfl, rfl, ho⟩ | ⟨x, hp', v', rfl, hpm, hmin, hh, hsg, ho, hfr⟩
  · obtain ⟨k1, k2, k3⟩ := key ho
    exact ⟨_, _, rfl, .inl ⟨rfl, rfl, k1, k2, f, hi⟩⟩
  · obtain ⟨k1, k2, k3⟩ := key ho
    refine ⟨_, _, rfl, .inr ⟨x, f, hp', v', rfl, rfl, ⟨k1, ?_, k2, k3, hsg, hh, h.f0⟩, hi.perm hpm, fun y hy => hmin y (hpm.mem_iff.2 hy)⟩⟩
    rcases hfr with e | e
    · rw [e]; exact h.ne
    · intro e2
      have := e g e2
      have := h.ib.lt
      omega
/-- One more is told. -/
theorem Rd.app {us : List ty.Un} {n : Nat} {w w0 : World} {M S A U L C : Nat} {O O' : List Nat} {f : Nat → Nat} {buf hp : List Nat} {v : Value} {g o cap : Nat} {W W1 W' : World} {g' o' cap' : Nat} (h : Rd us n w w0 M S A U L C O f buf hp v g o cap W) (hb1 : Below W.heap.size W W1) (hA : fi.Ap M W1 g W' g' o' cap' O') (hM : w.heap.size ≤ M) : Rd us n w w0 M S A U L C O' f buf hp v g' o' cap' W' := by
  have hgl := h.ib.lt
  have hgn := h.ib.new
  have hk : ∀ k, k < W.heap.size → k ≠ g → W'.heap[k]? = W.heap[k]? := fun k h1 h2 => (hA.grown.block k (by have := hb1.size; omega) fun e => h2 (Option.some.inj e)).trans (hb1.block k h1)
  have hz : W.heap.size ≤ W'.heap.size := Nat.le_trans hb1.size hA.grown.size
  have hle := h.sg.ho.le
  have hv : ∀ b, v.ownBlock = some b → b < W.heap.size := fun b e => (h.sg.ho.hv.own.lt b e).2
  refine ⟨hA.ib, fun e => ?_, ?_, fun k h1 h2 h3 h4 h5 => (hk k (by omega) (by omega)).trans (h.kp k h1 h2 h3 h4 h5), h.sg.keep hz (fun k hkm => hk k (by omega) (by omega)) (fun b e => hk b (hv b e) fun e2 => h.ne (e2 ▸ e)), h.isHp, h.f0⟩
  · rcases hA.here with e2 | e2
    · exact h.ne (e2 ▸ e)
    · have := hv g' e
      have := hb1.size
      omega
  · exact (h.bel.trans (hb1.mono h.bel.size)).trans (hA.bel hgn (by have := hb1.size; omega) |>.mono hM)
/-- A unit stands. -/
theorem Rd.stood {us : List ty.Un} {n : Nat} {w w0 : World} {M S A U L C : Nat} {O : List Nat} {f f' : Nat → Nat} {buf buf' hp : List Nat} {v : Value} {g o cap : Nat} {W W' : World} (h : Rd us n w w0 M S A U L C O f buf hp v g o cap W) (hs : Sg M S A U L C n f' buf' hp v W') (ho : Oth (fun k => k = L ∨ k = C) W W') (hf : ∀ y, n ≤ y → f' y = 0) (hL : w.heap.size ≤ L) (hC : w.heap.size ≤ C) : Rd us n w w0 M S A U L C O f' buf' hp v g o cap W' := by
  have hgn := h.ib.new
  have := h.sg.lL
  have := h.sg.lC
  have hle := h.sg.ho.le
  exact ⟨h.ib.kept ho.size (ho.block g h.ib.lt (by omega)), h.ne, h.bel.trans (ho.below h.bel.size (by omega)), fun k h1 h2 h3 h4 h5 => (ho.block k (by omega) (by omega)).trans (h.kp k h1 h2 h3 h4 h5), hs, h.isHp, hf⟩

def lenS : Value → Nat
  | .slice _ n _ => n
  | _ => 0

/-- What startNumbers answers. -/
def SnR (us : List ty.Un) (w w' : World) (e : Ending) : Prop := ∃ (O : List Nat) (f : Nat → Nat) (g o cap : Nat), e = .returned (.slice (some ⟨g, o, none⟩) O.length cap) ∧ fi.Ib w.heap.size w' g o cap O ∧ Iv us O f []

theorem ib_zero (W : World) (M : Nat) (h : M ≤ W.heap.size) (t : TypeId) : fi.Ib M (W.alloc (.cells #[] t)) W.heap.size 0 0 [] := ⟨h, by simp, fun j hj => by simp at hj, fun j hj => by omega, Nat.le_refl _, Nat.zero_le _⟩

set_option maxRecDepth 100000 in
set_option maxHeartbeats 8000000 in
theorem snum_any (md : Option Nat) (a : Option Addr) (c : Nat) (us : List ty.Un) (w : World) (hb : ty.SrcUn md w a us) (hU : Ua us) :
    Calls Tryz.prog 23 #[.slice a us.length c] w fun e w' => SnR us w w' e ∧ Below w.heap.size w w' := by
  have hn1 := hU.few
  have HST := Lib.hid (starting_any md a c us w hb hU)
  have HU := Lib.hid hU
  obtain ⟨n, hnn⟩ : ∃ n, us.length = n := ⟨_, rfl⟩
  have HN : Hid (us.length = n) := hnn
  rw [hnn] at hn1 HST ⊢
  have HBL : Hid (∀ x, (bhL us n x).length ≤ 1000000) := fun x => by have := fw.bhL_len HU.out x n; omega
  clear hb hU hnn
  go_enter Tryz.func23, Tryz.ntmps23
  go_wp2_with (go_at_call 48; refine HST.out.mono ?_; rintro e w1 ⟨⟨M, S, A, U, L, C, ad, cp, rfl, hsg, hS, hL, hC, hBd⟩, hb1⟩; refine Hid.out ?_)
  refine Lib.hid ?_
  have hM : w.heap.size ≤ M := by have := hsg.ho.lt; omega
  have HBD := Lib.hid hBd
  have HIV : Hid (Iv us [] (f0 us n) ([] ++ b0 us n)) := by have := Iv.zero us; rw [HN.out] at this; exact this
  have HRD : Hid (Rd us n w w1 M S A U L C [] (f0 us n) (b0 us n) [] (.slice none 0 0) w1.heap.size 0 0 (w1.alloc (.cells #[] 3))) :=
    ⟨ib_zero w1 M hsg.ho.le 3, by simp [Value.ownBlock], hb1.alloc hb1.size _, fun k h1 h2 _ _ _ => Below.heap_alloc w1 _ k (by have := hsg.ho.le; omega), hsg.keep (by simp) (fun k hk => Below.heap_alloc w1 _ k (by have := hsg.ho.le; omega)) (fun b e => by simp [Value.ownBlock] at e), Hp.nil, fun y hy => by unfold f0; rw [if_neg (by omega)]⟩
  have HNX := Lib.hid (next_any _ HRD.out.sg HRD.out.isHp (by have := b0_len us n; simp; omega))
  clear hsg hb1 hBd HST
  go_wp2_with (go_at_call 49; refine HNX.out.mono ?_; rintro e w2 hx; obtain ⟨x5, x6, rfl, hrx⟩ := HRD.out.next HIV.out hS hC hM hx; clear hx; refine Hid.out ?_)
  refine Lib.hid ?_
  have HRX := Lib.hid hrx
  clear hrx HNX HRD HIV
  go_wp2
  go_loopw [4, 5, 6] (fun v4 v5 v6 wr => ∃ (O : List Nat) (g o cap : Nat), v4 = .slice (some ⟨g, o, none⟩) O.length cap ∧ RdX us n w w1 M S A U L C O v5 v6 g o cap wr) (fun v4 _ _ _ => n - lenS v4)
  case atStart => exact ⟨[], _, 0, 0, rfl, HRX.out⟩
  case round =>
    obtain ⟨O, g, o, cap, rfl, hrx⟩ := hrel
    rcases hrx with ⟨rfl, rfl, hib, hbe, f, hiv⟩ | ⟨x, f, hp, v, rfl, rfl, hrd, hiv, hmin⟩
    · have HE : Hid (SnR us w wr (.returned (.slice (some ⟨g, o, none⟩) O.length cap)) ∧ Below w.heap.size w wr) := ⟨⟨O, f, g, o, cap, rfl, hib.mono hM, hiv⟩, hbe⟩
      clear hib hbe hiv HRX
      go_wp2
      go_ret
      exact HE.out
    · have HRD := Lib.hid hrd
      have HIV := Lib.hid hiv
      have HMN := Lib.hid hmin
      have hOl := hiv.olen
      rw [HN.out] at hOl
      have hws := hrd.bel.size
      have HMW : Hid (M ≤ wr.heap.size) := hrd.sg.ho.le
      have hxn : x < n := by have := ((hiv.mem x).1 List.mem_cons_self).1; rw [HN.out] at this; exact this
      clear hrd hiv hmin HRX
      have HIB : Hid (fi.Ib M (wr.alloc (.cells #[.int .i64 (x : Int)] 3)) g o cap O) := HRD.out.ib.below ((Below.refl _ _).alloc (Nat.le_refl _) _)
      go_wp2_with (at_builtin; refine app_one (base := M) (l := O) (m := [x]) (ad := ⟨wr.heap.size, 0, none⟩) (c := 1) (g := g) («of» := o) (cap := cap) rfl _ _ rfl rfl rfl HIB.out (by have := HMW.out; simp; omega) (new_one wr x) (by simp; omega) ?_; intro g4 o4 cap4 w4 hA4; refine Hid.out ?_)
      refine Lib.hid ?_
      have HR4 : Hid (Rd us n w w1 M S A U L C (O ++ [x]) f [] hp v g4 o4 cap4 w4) := HRD.out.app ((Below.refl _ _).alloc (Nat.le_refl _) _) hA4 hM
      have hstd := Iv.stand HU.out HIV.out (by rw [HN.out]; exact HR4.out.f0)
      rw [HN.out] at hstd
      have HSD := Lib.hid (stand_any w4 HR4.out.sg (fun W hW => HBD.out W fun k h1 h2 h3 h4 h5 => (hW.block k (by have := HR4.out.sg.ho.le; omega) (by omega)).trans (HR4.out.kp k h1 h2 h3 h4 h5)) x hxn (by omega) (HBL.out x) hstd.1)
      have HIV5 := Lib.hid (hstd.2 HMN.out).1
      have HF5 := Lib.hid (hstd.2 HMN.out).2
      have HLN : Hid ((O ++ [x]).length = O.length + 1) := by show _ = _; simp
      clear hA4 hstd HIB
      go_wp2_with (go_at_call 50; refine HSD.out.mono ?_; rintro e w5 ⟨rfl, h51, h52⟩; refine Hid.out ?_)
      refine Lib.hid ?_
      have HR5 := Lib.hid (HR4.out.stood h51 h52 HF5.out hL hC)
      have hr5 := HIV5.out.rlen
      rw [HN.out, List.length_append] at hr5
      have hO5 := HIV5.out.olen
      rw [HN.out, List.length_append] at hO5
      have HNX := Lib.hid (next_any w5 HR5.out.sg HR5.out.isHp (by omega))
      clear h51 h52 hr5
      go_wp2_with (go_at_call 49; refine HNX.out.mono ?_; rintro e w6 hx; obtain ⟨x5, x6, rfl, hrx⟩ := HR5.out.next HIV5.out hS hC hM hx; clear hx; refine Hid.out ?_)
      refine Lib.hid ?_
      have HRX := Lib.hid hrx
      clear hrx HNX
      go_wp2
      go_roundw
      case rel => exact ⟨O ++ [x], g4, o4, cap4, by rw [HLN.out], HRX.out⟩
      case measure => simp [lenS] at hO5 ⊢; omega
end Go.Proofs.YtccnepenfglfoaaGreat.hp
