import Derived.Test.YtogakignaaoklaaNI
import Derived.Test.YtogakignaaoklaaDT
import Derived.Lib.ConvBytes
namespace Go.Proofs.Ytogakignaaoklaa.dl
open Go.ChangeShapes Go.WideShapes Go.ChangeAt Go.RowKit Go.Deep
open bf (Bf Ap num)
open up (Rs CutR NumR cut_any number_any)
set_option linter.unusedVariables false
set_option linter.unusedSimpArgs false

/-! ### impl.ReadDelta -/

/-- These bytes are these steps'. -/
def GoodD (l : List UInt8) (ss : List Sp) : Prop := good ss = true ∧ dbB ss = l
def encT (ss : List Sp) : List UInt8 := (ss.map enc).flatten
theorem enc_ne (x : Sp) : enc x ≠ [] := by unfold enc; split <;> simp
theorem encT_nil {ss : List Sp} (h : encT ss = []) : ss = [] := by
  cases ss with
  | nil => rfl
  | cons x ss =>
    unfold encT at h
    rw [List.map_cons, List.flatten_cons] at h
    exact absurd (List.append_eq_nil_iff.1 h).1 (enc_ne x)
theorem goodD_l {l : List UInt8} {ss : List Sp} (h : GoodD l ss) : l = ldt ++ encT ss := by
  rw [← h.2, dbB_yes h.1]
  unfold encL encT
  rw [List.take_length]
theorem wt_app (ss : List Sp) (x : Sp) : wt (ss ++ [x]) = wt ss + 1 + x.d.length := by
  unfold wt wtS
  rw [List.take_length, List.take_length]
  simp
  omega

/-- Where a reader stands: what it has, and that it is what any steps of these bytes begin with. -/
structure RdP (l : List UInt8) (i : Nat) (X : List Sp) : Prop where
  w : wt X ≤ i
  e : l.length ≤ 4 → X = []
  le : i ≤ l.length
  pr : ∀ ss, GoodD l ss → X = ss.take X.length ∧ l.drop i = encT (ss.drop X.length)

theorem RdP.start {l : List UInt8} {i : Nat} (hi : i = min 4 (l.length - 0)) : RdP l i [] :=
  ⟨Nat.zero_le _, fun _ => rfl, by omega, fun ss hs => ⟨rfl, by
    have h := goodD_l hs
    have hl : 4 ≤ l.length := by rw [h, List.length_append, show ldt.length = 4 from rfl]; omega
    rw [hi, show min 4 (l.length - 0) = 4 by omega, h]
    exact List.drop_left' rfl⟩⟩
theorem RdP.step {l : List UInt8} {i i' : Nat} {X : List Sp} {x : Sp} (h : RdP l i X) (hi : i < l.length) (h4 : ¬ l.length ≤ 4) (hw : i + 1 + x.d.length ≤ i') (hle : i' ≤ l.length) (hp : ∀ y tail, okS y = true → lowS y = true → l.drop i = enc y ++ tail → x = y ∧ l.drop i' = tail) : RdP l i' (X ++ [x]) :=
  ⟨by rw [wt_app]; have := h.w; omega, fun e => absurd e h4, hle, fun ss hs => by
    obtain ⟨e1, e2⟩ := h.pr ss hs
    have hlt : X.length < ss.length := by
      apply Classical.byContradiction
      intro hn
      have hd : ss.drop X.length = [] := List.drop_eq_nil_of_le (by omega)
      rw [hd] at e2
      have := congrArg List.length e2
      rw [List.length_drop] at this
      unfold encT at this
      simp at this
      omega
    rw [List.drop_eq_getElem_cons hlt] at e2
    have hm := (good_iff.1 hs.1).2 ss[X.length] (List.getElem_mem hlt)
    obtain ⟨f1, f2⟩ := hp ss[X.length] (encT (ss.drop (X.length + 1))) hm.1 hm.2 (by rw [e2]; unfold encT; rw [List.map_cons, List.flatten_cons])
    rw [List.length_append, List.length_singleton]
    refine ⟨?_, f2⟩
    rw [List.take_add_one, ← e1, List.getElem?_eq_getElem hlt, f1]
    rfl⟩
theorem RdP.stop {l : List UInt8} {i : Nat} {X : List Sp} (h : RdP l i X) (hs : l.length ≤ i ∨ 10000 ≤ X.length) : ∀ ss, GoodD l ss → X = ss := fun ss hg => by
  obtain ⟨e1, e2⟩ := h.pr ss hg
  have hd : ss.drop X.length = [] := by
    rcases hs with hs | hs
    · rw [List.drop_eq_nil_of_le hs] at e2
      exact encT_nil e2.symm
    · exact List.drop_eq_nil_of_le (by have := (good_iff.1 hg.1).1; omega)
  rw [e1]
  have := List.take_append_drop X.length ss
  rw [hd, List.append_nil] at this
  exact this
theorem RdP.yes {l : List UInt8} {i : Nat} {X : List Sp} (h : RdP l i X) (he : dbB X = l) : GoodD l X := by
  cases hg : good X with
  | true => exact ⟨hg, he⟩
  | false =>
    rw [dbB_no hg] at he
    have hx := h.e (by rw [← he]; simp)
    rw [hx] at hg
    cases hg

/-- What is handed back. -/
def RdR (w w' : World) (l : List UInt8) (e : Ending) : Prop := ∃ (v : Value) (ok : Bool) (zs : List Sz) (base : Nat), e = .returned (.tuple #[v, .bool ok]) ∧ w.heap.size ≤ base ∧ RowS base w' v zs ∧ wt (xs zs) ≤ 1048576 ∧ ((ok = true ∧ GoodD l (xs zs) ∧ ∀ ss, GoodD l ss → xs zs = ss) ∨ (ok = false ∧ zs = [] ∧ ∀ ss, ¬ GoodD l ss))

theorem bytes_eq_any (g z c b N c' : Nat) (l1 l2 : List UInt8) (w : World) (h1 : up.By w g l1) (h2 : up.By w b l2) (hz : z = l1.length) (hN : N = l2.length) :
    Calls Try.prog 25 #[.slice (some ⟨g, 0, none⟩) z c, .slice (some ⟨b, 0, none⟩) N c'] w fun e w' => e = .returned (.bool (decide (l1 = l2))) ∧ w' = w := by
  have hc : ∀ (k cc : Nat) (m : List UInt8), up.By w k m → (convert 22 9 (.slice (some ⟨k, 0, none⟩) m.length cc)).run Try.prog w = .ok (.string ⟨m.toArray⟩) w := fun k cc m hk => by
    have hB : Lib.Bytes w k 0 ⟨m.toArray⟩ := fun i hi => by
      have hi' : i < m.length := by simpa [ByteArray.size] using hi
      rw [Nat.zero_add, hk i hi']
      rfl
    have := Lib.run_convert_whole (P := Try.prog) w 22 5 9 Try.underlying22 Try.underlying5 Try.underlying9 k 0 ⟨m.toArray⟩ hB cc
    simpa [ByteArray.size] using this
  subst hz hN
  have c1 := hc g c l1 h1
  have c2 := hc b c' l2 h2
  have he : ((⟨l1.toArray⟩ : ByteArray).toList == (⟨l2.toArray⟩ : ByteArray).toList) = decide (l1 = l2) := by
    rw [ByteArray.toList_eq, ByteArray.toList_eq, Bool.eq_iff_iff]
    simp
  clear hc
  obtain ⟨z1, hz1⟩ : ∃ z, l1.length = z := ⟨_, rfl⟩
  obtain ⟨z2, hz2⟩ : ∃ z, l2.length = z := ⟨_, rfl⟩
  obtain ⟨s1, hs1⟩ : ∃ s : ByteArray, ⟨l1.toArray⟩ = s := ⟨_, rfl⟩
  obtain ⟨s2, hs2⟩ : ∃ s : ByteArray, ⟨l2.toArray⟩ = s := ⟨_, rfl⟩
  rw [hs1] at c1 he
  rw [hs2] at c2 he
  rw [hz1] at c1 ⊢
  rw [hz2] at c2 ⊢
  obtain ⟨bb, hbb⟩ : ∃ bb, decide (l1 = l2) = bb := ⟨_, rfl⟩
  rw [hbb] at he ⊢
  clear hz1 hz2 hs1 hs2 hbb h1 h2
  go_enter Try.func25, Try.ntmps25
  go_wp2
  go_ret
  first | exact ⟨rfl, rfl⟩ | exact ⟨by rw [he], rfl⟩

theorem rd_ow {lo hi : Nat} {w : World} {b : Nat} {gs : Nat → Nat} {ss : List Sp} (h : OwS lo hi w b gs ss) : Rd w b 0 ss := fun i x hx => by
  rcases h.src with h' | ⟨b', o', e, h'⟩
  · rw [h'] at hx; simp at hx
  · cases e; exact h' i x hx
theorem slc_app (zs : List Sz) (z : Sz) : (zs ++ [z]).length = zs.length + 1 := by simp

set_option maxRecDepth 100000 in
set_option maxHeartbeats 8000000 in
theorem ird_any {C : Nat} (b N : Nat) (l : List UInt8) (hNl : N = l.length) (hN : l.length ≤ 1048576) (w : World) (hB : up.By w b l) (hbw : b < w.heap.size) (hC : N ≤ C) (hCm : C ≤ 9223372036854775807) :
    Calls Try.prog 9 #[.slice (some ⟨b, 0, none⟩) N C] w fun e w' => RdR w w' l e ∧ Below w.heap.size w w' := by
  have HNL : Hid (N = l.length) := hNl
  have HBY : Hid (∀ W, Below w.heap.size w W → up.By W b l) := fun W hW => hB.below hW
  have hbp : b ≠ w.heap.size := by omega
  have hN2 : N ≤ 1048576 := by omega
  have HR0 : Hid (∀ T, Rs (w.alloc (.cells #[.slice (some ⟨b, 0, none⟩) N C] T)) w.heap.size b l.length 0) := fun T => by
    have hc : (w.alloc (.cells #[.slice (some ⟨b, 0, none⟩) N C] T)).cell? ⟨w.heap.size, 0, none⟩ = some (.slice (some ⟨b, 0, none⟩) N C) := by
      have := World.cell?_alloc_new w #[Value.slice (some ⟨b, 0, none⟩) N C] T 0
      rw [this]; rfl
    have hbk := heap_alloc_new w (.cells #[Value.slice (some ⟨b, 0, none⟩) N C] T)
    refine ⟨0, C, by rw [← hNl]; exact hc, by unfold World.frozen?; simp only [hbk]; simp, fun _ => rfl, by omega, by omega, by omega⟩
  have HG0 : Hid (∀ T, Below w.heap.size w (w.alloc (.cells #[.slice (some ⟨b, 0, none⟩) N C] T))) := fun T => (Below.refl _ _).alloc (Nat.le_refl _) _
  have HCU : Hid (∀ W, Rs W w.heap.size b l.length 0 → Calls Try.prog 23 #[.pointer (some ⟨w.heap.size, 0, none⟩), .int .u64 4] W fun e w' => CutR W w' w.heap.size b l.length 0 4 e) := fun W hW => cut_any b w.heap.size l.length 0 4 (by omega) W hW hN
  have HST : Hid (∀ W (i : Nat), i < l.length → Below w.heap.size w W → Rs W w.heap.size b l.length i → Calls Try.prog 24 #[.pointer (some ⟨w.heap.size, 0, none⟩)] W fun e w' => StpR W w' w.heap.size b l i e) := fun W i hi hW hR => step_any b w.heap.size i l hbp hN hi W hR (HBY.out W hW)
  have HBG : Hid (∀ W W', Below w.heap.size w W → W.grownBy W' (some w.heap.size) → Below w.heap.size w W') := fun W W' h1 h2 => h1.grown h2 h1.size (fun k hk => by cases hk; exact Nat.le_refl _)
  clear hNl hB
  go_enter Try.func9, Try.ntmps9
  go_wp2_with (go_at_call 23; refine (HCU.out _ (HR0.out _)).mono ?_; rintro e w1 ⟨o1, k1, hk1, rfl, ho1, hr1, hg1⟩; have HK1 : Hid (0 + k1 = min 4 (l.length - 0)) := (by show _ = _; omega); clear hk1; refine Hid.out ?_)
  refine Lib.hid ?_
  have HB1 : Hid (Below w.heap.size w w1) := HBG.out _ _ (HG0.out _) hg1
  have hw1 : w.heap.size + 1 ≤ w1.heap.size := by have := hg1.size; simp only [World.size_alloc] at this; omega
  have HRA : Hid (∀ ob, Rs (w1.alloc ob) w.heap.size b l.length (0 + k1)) := fun ob => hr1.below ((Below.refl _ _).alloc (Nat.le_refl _) _)
  have HBA : Hid (∀ ob, Below w.heap.size w (w1.alloc ob)) := fun ob => HB1.out.alloc HB1.out.size _
  have HS0 : Hid (RowS (w.heap.size + 1) (w1.alloc (.cells #[] 41)) (.slice (some ⟨w1.heap.size, 0, none⟩) 0 0) []) := RowS.nil _ w1 hw1
  clear hr1 hg1 ho1
  go_wp2_with fail
  go_loopw [5] (fun v wr => ∃ (i : Nat) (zs : List Sz) (va : Option Addr) (vc : Nat), v = .slice va zs.length vc ∧ Rs wr w.heap.size b l.length i ∧ RowS (w.heap.size + 1) wr (.slice va zs.length vc) zs ∧ RdP l i (xs zs) ∧ zs.length ≤ 10000 ∧ (l.length ≤ 4 → i = l.length) ∧ Below w.heap.size w wr) (fun _ wr => up.leftN w.heap.size wr)
  case atStart => exact ⟨0 + k1, [], _, _, rfl, HRA.out _, HS0.out, RdP.start HK1.out, by simp, fun h => by have := HK1.out; omega, HBA.out _⟩
  case round =>
    obtain ⟨i, zs, va, vc, rfl, hr, hrow, hrdp, hlen, h4, hbel⟩ := hrel
    by_cases hi : i < l.length
    · by_cases hz : zs.length < 10000
      · have hz' : (zs.length : Int) < 10000 := by omega
        have HSTP : Hid (∀ W, W = wr → Calls Try.prog 24 #[.pointer (some ⟨w.heap.size, 0, none⟩)] W fun e w' => StpR W w' w.heap.size b l i e) := fun W hW => by subst hW; exact HST.out W i hi hbel hr
        have HRO : Hid (RowS (w.heap.size + 1) wr (.slice va zs.length vc) zs) := hrow
        have HRP : Hid (RdP l i (xs zs)) := hrdp
        have HBE : Hid (Below w.heap.size w wr) := hbel
        have HI : Hid (i < l.length) := hi
        have HLF : Hid (up.leftN w.heap.size wr = l.length - i) := up.leftN_of hr
        have h4' : ¬ l.length ≤ 4 := fun h => by have := h4 h; omega
        have hpw : w.heap.size < wr.heap.size := hr.lt
        obtain ⟨o, c, hc, hf, ho, hcN, hcm, hiN⟩ := hr
        obtain ⟨n, hn⟩ : ∃ n, l.length - i = n := ⟨_, rfl⟩
        rw [hn] at hc
        have hn0 : (0 : Int) < (n : Int) := by omega
        obtain ⟨zl, hzl⟩ : ∃ n, zs.length = n := ⟨_, rfl⟩
        have HZL : Hid (zs.length = zl) := hzl
        rw [hzl] at hz hz' HRO ⊢
        have hzb : zl ≤ 10000 := by omega
        clear hrow hrdp hbel hn hzl ho hcN h4 hlen hi
        go_wp2_with (go_at_call 24; refine (HSTP.out _ rfl).mono ?_; rintro e w2 ⟨z, i2, rfl, hi2, hr2, hd2, hg2, hp2⟩; refine Hid.out ?_)
        refine Lib.hid ?_
        have HRO2 : Hid (RowS (w.heap.size + 1) w2 (.slice va zl vc) zs) := HRO.out.kept hg2 (by omega)
        have HB2 : Hid (Below w.heap.size w w2) := HBG.out _ _ HBE.out hg2
        have HR2 : Hid (Rs w2 w.heap.size b l.length i2) := hr2
        have hi2l : i2 ≤ l.length := by obtain ⟨_, _, _, _, _, _, _, h⟩ := hr2; exact h
        have HRP2 : Hid (RdP l i2 (xs (zs ++ [z]))) := by show RdP _ _ _; rw [xs_app]; exact HRP.out.step HI.out h4' hi2 hi2l hp2
        have HIL : Hid (i + 1 + z.x.d.length ≤ i2) := hi2
        have HD2 : Hid (z.x.d ≠ [] → ∃ g, z.a = some ⟨g, 0, none⟩ ∧ OwC w2 g z.c z.x.d ∧ w.heap.size + 1 ≤ g ∧ ∀ (j : Nat) (y : Sz), zs[j]? = some y → y.x.d ≠ [] → y.a ≠ some ⟨g, 0, none⟩) := fun hd => by
          obtain ⟨g, e, ho, hg⟩ := hd2 hd
          refine ⟨g, e, ho, by omega, fun j y hy hyd e2 => ?_⟩
          obtain ⟨g', e', ho', _⟩ := HRO.out.dat j y hy hyd
          rw [e'] at e2
          simp only [Option.some.injEq, Addr.mk.injEq, and_true] at e2
          have := ho'.lt
          omega
        have HNEW : Hid (∀ j u, (szV z)[j]? = some u → (w2.alloc (.cells (szV z).toArray 41)).cell? ((⟨w2.heap.size, 0, none⟩ : Addr).add j) = some u) := szV_at w2 z _
        have HONE : Hid (∀ u ∈ szV z, u.oneCell' = true) := szV_one z
        have HLEN : Hid ((szV z).length = 1 * 4) := rfl
        have hcl1 : zl + 1 ≤ maxLen := by unfold maxLen; omega
        have hcl2 : (zl + 1) * 48 ≤ 140737488355328 := by omega
        have HOWN : Hid ((w2.alloc (.cells (szV z).toArray 41)).ownsRow (w.heap.size + 1) 41 4 (.slice va zl vc) zl (szC zs)) := by
          have := (HRO2.out.own.alloc (.cells (szV z).toArray 41))
          rw [HZL.out] at this
          exact this
        have HSZ2 : Hid (w.heap.size + 1 ≤ (w2.alloc (.cells (szV z).toArray 41)).heap.size) := by show _ ≤ _; rw [World.size_alloc]; have := HR2.out.lt; omega
        have HBA2 : Hid (Below w2.heap.size w2 (w2.alloc (.cells (szV z).toArray 41))) := (Below.refl _ _).alloc (Nat.le_refl _) _
        have HZC : Hid (zl + 1 = zs.length + 1) := by show _ = _; rw [HZL.out]
        unfold szV at HNEW HONE HLEN HOWN HSZ2 HBA2 ⊢
        clear hi2 hr2 hd2 hg2 hp2 hc hf
        go_wp2_with (first
          | (at_builtin; refine app_ownS _ rfl _ _ 26 rfl (w.heap.size + 1) 41 (.agg #[.int .i64 0, .int .i64 0, .int .i64 0, .slice none 0 0]) 4 48 Try.underlying26 infoSt rfl (by decide) (.slice va zl vc) zl (szC zs) rfl HOWN.out ⟨w2.heap.size, 0, none⟩ 1 1 _ rfl HLEN.out HNEW.out HONE.out hcl1 hcl2 HSZ2.out ?_; intro v3 w3 hown3 hg3; refine Hid.out ?_)
          | go_in)
        refine Lib.hid ?_
        have HRO3 : Hid (RowS (w.heap.size + 1) w3 v3 (zs ++ [z])) := RowS.push (HRO2.out.below HBA2.out) (by rw [← HZC.out]; exact hown3) hg3 (fun hd => by
          obtain ⟨g, e, ho, h1, h2⟩ := HD2.out hd
          exact ⟨g, e, ho.kept HBA2.out.size (HBA2.out.block g ho.lt), h1, h2⟩)
        obtain ⟨va3, vc3, rfl⟩ := own_shape hown3
        have HBA3 : Hid (Below w.heap.size w w3) := (HB2.out.trans (HBA2.out.mono HB2.out.size)).grown hg3 (Nat.le_trans HB2.out.size HBA2.out.size) (fun k hk => by have := (HOWN.out.lt k hk).1; omega)
        have HR3 : Hid (Rs w3 w.heap.size b l.length i2) := (HR2.out.below HBA2.out).kept (hg3.block _ (Nat.lt_of_lt_of_le HR2.out.lt HBA2.out.size) (fun e => by have := (HOWN.out.lt _ e.symm).1; omega))
        have HLF3 : Hid (up.leftN w.heap.size w3 = l.length - i2) := up.leftN_of HR3.out
        clear hown3 hg3
        go_wp2
        go_roundw
        case rel => exact ⟨i2, zs ++ [z], va3, vc3, by rw [slc_app, HZC.out], HR3.out, by rw [slc_app, ← HZC.out]; exact HRO3.out, HRP2.out, by rw [slc_app, ← HZC.out]; omega, fun h => absurd h h4', HBA3.out⟩
        case measure => rw [HLF.out, HLF3.out]; have := HI.out; have := HIL.out; omega
      · have HEND : Hid (∀ ss, GoodD l ss → xs zs = ss) := hrdp.stop (.inr (by rw [xs_len]; omega))
        obtain ⟨G, cap, gs, hv, how⟩ := hrow.ow
        simp only [Value.slice.injEq] at hv
        obtain ⟨rfl, _, rfl⟩ := hv
        have HDB : Hid (Calls Try.prog 12 #[.slice (some ⟨G, 0, none⟩) zs.length vc] wr fun e w' => (∃ g c z, e = .returned (.slice (some ⟨g, 0, none⟩) z c) ∧ Bys wr w' (dbB (xs zs)) g c z) ∧ Below wr.heap.size wr w') := by
          have := idb_any G 0 vc (xs zs) wr (rd_ow how) (by have := hrdp.w; have := hrdp.le; omega)
          rwa [xs_len] at this
        have HRO : Hid (RowS (w.heap.size + 1) wr (.slice (some ⟨G, 0, none⟩) zs.length vc) zs) := hrow
        have HRP : Hid (RdP l i (xs zs)) := hrdp
        have HBE : Hid (Below w.heap.size w wr) := hbel
        have HWT : Hid (wt (xs zs) ≤ 1048576) := by show _ ≤ _; have := hrdp.w; have := hrdp.le; omega
        obtain ⟨o, c, hc, hf, ho, hcN, hcm, hiN⟩ := hr
        obtain ⟨n, hn⟩ : ∃ n, l.length - i = n := ⟨_, rfl⟩
        rw [hn] at hc
        have hn0 : (0 : Int) < (n : Int) := by omega
        have hz' : ¬ (zs.length : Int) < 10000 := by omega
        obtain ⟨zl, hzl⟩ : ∃ n, zs.length = n := ⟨_, rfl⟩
        have HZL : Hid (zs.length = zl) := hzl
        rw [hzl] at HDB HRO
        rw [hzl] at hz'
        rw [hzl]
        clear hrow hrdp hbel how hn hzl ho hcN h4 hlen
        go_wp2_with (go_at_call 12; refine HDB.out.mono ?_; rintro e w5 ⟨⟨g5, c5, z5, rfl, hz5, hbf5⟩, hl5⟩; have HZ5 : Hid (z5 = (dbB (xs zs)).length) := hz5; clear hz5; refine Hid.out ?_)
        refine Lib.hid ?_
        have HB5 : Hid (Below w.heap.size w w5) := HBE.out.trans (hl5.mono HBE.out.size)
        have HR5 : Hid (RowS (w.heap.size + 1) w5 (.slice (some ⟨G, 0, none⟩) zs.length vc) zs) := by rw [← HZL.out] at HRO; exact HRO.out.below hl5
        have HEQ : Hid (Calls Try.prog 25 #[.slice (some ⟨g5, 0, none⟩) z5 c5, .slice (some ⟨b, 0, none⟩) N C] w5 fun e w' => e = .returned (.bool (decide (dbB (xs zs) = l))) ∧ w' = w5) := bytes_eq_any g5 z5 c5 b N C _ _ w5 hbf5.cells (HBY.out _ HB5.out) HZ5.out HNL.out
        have hs5 : w.heap.size + 1 ≤ w5.heap.size := by have := HR5.out.own.lt G rfl; omega
        clear hbf5 hl5
        by_cases hq : dbB (xs zs) = l
        · rw [decide_eq_true hq] at HEQ
          have HQ : Hid (dbB (xs zs) = l) := hq
          clear hq
          go_wp2_with (go_at_call 25; refine HEQ.out.mono ?_; rintro e w6 ⟨rfl, hw6⟩; obtain rfl := hw6.symm)
          go_ret2
          exact ⟨⟨.slice (some ⟨G, 0, none⟩) zs.length vc, true, zs, w.heap.size + 1, by rw [HZL.out]; rfl, by omega, HR5.out, HWT.out, .inl ⟨rfl, HRP.out.yes HQ.out, HEND.out⟩⟩, HB5.out⟩
        · rw [decide_eq_false hq] at HEQ
          have HQ : Hid (¬ dbB (xs zs) = l) := hq
          clear hq
          go_wp2_with (go_at_call 25; refine HEQ.out.mono ?_; rintro e w6 ⟨rfl, hw6⟩; obtain rfl := hw6.symm)
          go_ret2
          exact ⟨⟨_, false, [], w.heap.size + 1, rfl, by omega, RowS.nil _ _ hs5, by simp [xs, wt, wtS], .inr ⟨rfl, rfl, fun ss hg => HQ.out (by rw [HEND.out ss hg]; exact hg.2)⟩⟩, HB5.out.alloc HB5.out.size _⟩
    · have HEND : Hid (∀ ss, GoodD l ss → xs zs = ss) := hrdp.stop (.inl (by omega))
      obtain ⟨G, cap, gs, hv, how⟩ := hrow.ow
      simp only [Value.slice.injEq] at hv
      obtain ⟨rfl, _, rfl⟩ := hv
      have HDB : Hid (Calls Try.prog 12 #[.slice (some ⟨G, 0, none⟩) zs.length vc] wr fun e w' => (∃ g c z, e = .returned (.slice (some ⟨g, 0, none⟩) z c) ∧ Bys wr w' (dbB (xs zs)) g c z) ∧ Below wr.heap.size wr w') := by
        have := idb_any G 0 vc (xs zs) wr (rd_ow how) (by have := hrdp.w; have := hrdp.le; omega)
        rwa [xs_len] at this
      have HRO : Hid (RowS (w.heap.size + 1) wr (.slice (some ⟨G, 0, none⟩) zs.length vc) zs) := hrow
      have HRP : Hid (RdP l i (xs zs)) := hrdp
      have HBE : Hid (Below w.heap.size w wr) := hbel
      have HWT : Hid (wt (xs zs) ≤ 1048576) := by show _ ≤ _; have := hrdp.w; have := hrdp.le; omega
      obtain ⟨o, c, hc, hf, ho, hcN, hcm, hiN⟩ := hr
      obtain ⟨n, hn⟩ : ∃ n, l.length - i = n := ⟨_, rfl⟩
      rw [hn] at hc
      obtain rfl : n = 0 := by omega
      obtain ⟨zl, hzl⟩ : ∃ n, zs.length = n := ⟨_, rfl⟩
      have HZL : Hid (zs.length = zl) := hzl
      rw [hzl] at HDB HRO
      rw [hzl]
      clear hrow hrdp hbel how hn hzl ho hcN h4 hlen
      go_wp2_with (go_at_call 12; refine HDB.out.mono ?_; rintro e w5 ⟨⟨g5, c5, z5, rfl, hz5, hbf5⟩, hl5⟩; have HZ5 : Hid (z5 = (dbB (xs zs)).length) := hz5; clear hz5; refine Hid.out ?_)
      refine Lib.hid ?_
      have HB5 : Hid (Below w.heap.size w w5) := HBE.out.trans (hl5.mono HBE.out.size)
      have HR5 : Hid (RowS (w.heap.size + 1) w5 (.slice (some ⟨G, 0, none⟩) zs.length vc) zs) := by rw [← HZL.out] at HRO; exact HRO.out.below hl5
      have HEQ : Hid (Calls Try.prog 25 #[.slice (some ⟨g5, 0, none⟩) z5 c5, .slice (some ⟨b, 0, none⟩) N C] w5 fun e w' => e = .returned (.bool (decide (dbB (xs zs) = l))) ∧ w' = w5) := bytes_eq_any g5 z5 c5 b N C _ _ w5 hbf5.cells (HBY.out _ HB5.out) HZ5.out HNL.out
      have hs5 : w.heap.size + 1 ≤ w5.heap.size := by have := HR5.out.own.lt G rfl; omega
      clear hbf5 hl5
      by_cases hq : dbB (xs zs) = l
      · rw [decide_eq_true hq] at HEQ
        have HQ : Hid (dbB (xs zs) = l) := hq
        clear hq
        go_wp2_with (go_at_call 25; refine HEQ.out.mono ?_; rintro e w6 ⟨rfl, hw6⟩; obtain rfl := hw6.symm)
        go_ret2
        exact ⟨⟨.slice (some ⟨G, 0, none⟩) zs.length vc, true, zs, w.heap.size + 1, by rw [HZL.out]; rfl, by omega, HR5.out, HWT.out, .inl ⟨rfl, HRP.out.yes HQ.out, HEND.out⟩⟩, HB5.out⟩
      · rw [decide_eq_false hq] at HEQ
        have HQ : Hid (¬ dbB (xs zs) = l) := hq
        clear hq
        go_wp2_with (go_at_call 25; refine HEQ.out.mono ?_; rintro e w6 ⟨rfl, hw6⟩; obtain rfl := hw6.symm)
        go_ret2
        exact ⟨⟨_, false, [], w.heap.size + 1, rfl, by omega, RowS.nil _ _ hs5, by simp [xs, wt, wtS], .inr ⟨rfl, rfl, fun ss hg => HQ.out (by rw [HEND.out ss hg]; exact hg.2)⟩⟩, HB5.out.alloc HB5.out.size _⟩

end Go.Proofs.Ytogakignaaoklaa.dl
