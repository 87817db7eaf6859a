import Derived.Test.YtogakignaaoklaaNZ
import Derived.Deep.RegionHeld3
namespace Go.Proofs.Ytogakignaaoklaa.dl
open Go.ChangeShapes Go.WideShapes Go.ChangeAt Go.RowKit Go.Deep
open bf (Bf Ap num)
set_option linter.unusedVariables false
set_option linter.unusedSimpArgs false

/-! ### spec.MakeDelta -/

def NilD (zs : List Sz) : Prop := ∀ z ∈ zs, z.x.d = [] → z.a = none ∧ z.c = 0
theorem NilD.app {zs : List Sz} {z : Sz} (h : NilD zs) (hz : z.x.d = [] → z.a = none ∧ z.c = 0) : NilD (zs ++ [z]) := fun q hq hd => by
  rcases List.mem_append.1 hq with k | k
  · exact h q k hd
  · simp only [List.mem_singleton] at k; subst k; exact hz hd
def MkN (w w' : World) (X : List Sp) (e : Ending) : Prop := ∃ v zs base, e = .returned v ∧ xs zs = X ∧ w.heap.size ≤ base ∧ RowS base w' v zs ∧ NilD zs ∧ Below w.heap.size w w'
/-- Where the specification's loop stands. -/
def SI (nn : Nat) (old fresh : List UInt8) (R : List Sp) (w : World) (vd : Value) (wr : World) (i : Nat) : Prop :=
  ∃ (zs : List Sz) (va : Option Addr) (vc f : Nat), vd = .slice va zs.length vc ∧ RowS w.heap.size wr (.slice va zs.length vc) zs ∧ (LB w.heap.size wr zs ∧ NilD zs) ∧ LastD (xs zs) i ∧ zs.length ≤ i ∧ i ≤ nn ∧ nn - i ≤ f ∧ mkA old f (fresh.drop i) (xs zs) = R ∧ Below w.heap.size w wr

theorem addB_old {zs : List Sz} {z : Sz} {y : UInt8} (hk : z.x.k = 2) : addB (xs (zs ++ [z])) y = xs (zs ++ [⟨⟨z.x.k, z.x.p, z.x.n, z.x.d ++ [y]⟩, none, 0⟩]) := by
  rw [xs_app, xs_app]
  unfold addB
  rw [List.getLast?_concat]
  simp only [hk, List.dropLast_concat, if_true]

/-- Behind a byte of an addition. -/
theorem si_add {nn i f m G cap g2 c2 : Nat} {old fresh : List UInt8} {R : List Sp} {w w' : World} {zs : List Sz} {z : Sz} {y : UInt8} {X : List Sp} (hr : RowS w.heap.size w' (.slice (some ⟨G, 0, none⟩) (m + 1) cap) (zs ++ [⟨⟨z.x.k, z.x.p, z.x.n, z.x.d ++ [y]⟩, some ⟨g2, 0, none⟩, c2⟩])) (hbf : Bf w.heap.size w' g2 c2 (z.x.d ++ [y])) (hnd : NilD zs) (hm : zs.length = m) (hX : addB X y = xs (zs ++ [⟨⟨z.x.k, z.x.p, z.x.n, z.x.d ++ [y]⟩, some ⟨g2, 0, none⟩, c2⟩])) (hld : LastD X i) (hml : m ≤ i) (hin : i < nn) (hn3 : nn ≤ 3000) (hf : nn - i ≤ f + 1) (hmk : mkA old f (fresh.drop (i + 1)) (addB X y) = R) (hb : Below w.heap.size w w') :
    SI nn old fresh R w (.slice (some ⟨G, 0, none⟩) (m + 1) cap) w' (i + 1) := by
  have hl : (zs ++ [(⟨⟨z.x.k, z.x.p, z.x.n, z.x.d ++ [y]⟩, some ⟨g2, 0, none⟩, c2⟩ : Sz)]).length = m + 1 := by rw [List.length_append, hm]; rfl
  have hd := addB_last (y := y) hld
  rw [hX] at hd
  refine ⟨_, _, cap, f, by rw [hl], by rw [hl]; exact hr, ⟨fun q hq hk => ?_, hnd.app fun h => by simp at h⟩, hd, by omega, by omega, by omega, by rw [← hX]; exact hmk, hb⟩
  have := hd q.x (by rw [xs_last, hq]; rfl)
  rw [List.getLast?_concat] at hq
  cases hq
  exact ⟨by simp, by omega, g2, rfl, hbf⟩

set_option maxRecDepth 100000 in
set_option maxHeartbeats 8000000 in
theorem smk_any {oc nc : Nat} (ob nb on nn : Nat) (old fresh : List UInt8) (hon : old.length = on) (hnn : fresh.length = nn) (hol : on ≤ 1048576) (hnl : nn ≤ 1048576) (w : World) (hO : By w ob old) (hF : By w nb fresh) (hob : ob < w.heap.size) (hnb : nb < w.heap.size) :
    Calls Try.prog 11 #[.slice (some ⟨ob, 0, none⟩) on oc, .slice (some ⟨nb, 0, none⟩) nn nc] w fun e w' => MkN w w' (mkB' old fresh) e := by
  have HN0 : Hid (RowS w.heap.size (w.alloc (.cells #[] 41)) (.slice (some ⟨w.heap.size, 0, none⟩) 0 0) []) := RowS.nil w.heap.size w (Nat.le_refl _)
  have HB0 : Hid (Below w.heap.size w (w.alloc (.cells #[] 41))) := (Below.refl _ _).alloc (Nat.le_refl _) _
  by_cases h3 : on ≤ 3000 ∧ nn ≤ 3000
  case neg =>
    have hR : mkB' old fresh = [] := by unfold mkB'; rw [if_neg (by rw [hon, hnn]; exact h3)]
    rw [hR]
    by_cases h1 : on ≤ 3000
    · have h1' : ¬ (3000 : Int) < (on : Int) := by omega
      have h2' : (3000 : Int) < (nn : Int) := by omega
      clear hO hF hon hnn hR h3
      go_enter Try.func11, Try.ntmps11
      go_wp2
      go_ret
      exact ⟨_, [], w.heap.size, rfl, rfl, Nat.le_refl _, HN0.out, fun z hz => by simp at hz, HB0.out⟩
    · have h1' : (3000 : Int) < (on : Int) := by omega
      clear hO hF hon hnn hR h3
      go_enter Try.func11, Try.ntmps11
      go_wp2
      go_ret
      exact ⟨_, [], w.heap.size, rfl, rfl, Nat.le_refl _, HN0.out, fun z hz => by simp at hz, HB0.out⟩
  obtain ⟨h31, h32⟩ := h3
  have h1' : ¬ (3000 : Int) < (on : Int) := by omega
  have h2' : ¬ (3000 : Int) < (nn : Int) := by omega
  have hR : mkB' old fresh = mkA old fresh.length fresh [] := by unfold mkB'; rw [if_pos (by rw [hon, hnn]; exact ⟨h31, h32⟩)]
  obtain ⟨R, hRR⟩ : ∃ R, mkB' old fresh = R := ⟨_, rfl⟩
  have HRR : Hid (mkA old nn fresh [] = R) := by show _ = _; rw [← hRR, hR, hnn]
  rw [hRR]
  have HFD : Hid (∀ W i, Below w.heap.size w W → i ≤ nn → Calls Try.prog 29 #[.slice (some ⟨ob, 0, none⟩) on oc, .slice (some ⟨nb, 0, none⟩) nn nc, .int .i64 (i : Int)] W fun e w' => e = .returned (.tuple #[.int .i64 ((fd old (fresh.drop i) old.length).1 : Int), .int .i64 ((fd old (fresh.drop i) old.length).2 : Int)]) ∧ Below W.heap.size W w') := fun W i hW hi => by
    have := find_any (oc := oc) (nc := nc) ob nb on nn i old fresh hon hnn hol hnl hi W (hO.below hob hW) (hF.below hnb hW) (Nat.lt_of_lt_of_le hob hW.size) (Nat.lt_of_lt_of_le hnb hW.size)
    rw [← hon] at this ⊢
    exact this
  have HFC : Hid (∀ i, i < nn → ∃ y : UInt8, (∀ W, Below w.heap.size w W → W.cell? ⟨nb, i, none⟩ = some (.int .u8 (y.toNat : Int))) ∧ fresh.drop i = y :: fresh.drop (i + 1)) := fun i hi => by
    have hi' : i < fresh.length := by omega
    exact ⟨fresh[i], fun W hW => (hF.below hnb hW) i hi', List.drop_eq_getElem_cons hi'⟩
  have HON : Hid (old.length = on ∧ fresh.length = nn) := ⟨hon, hnn⟩
  have HNB : Hid (nb < w.heap.size) := hnb
  clear hO hF hon hnn hR hRR hob hnb hol hnl
  go_enter Try.func11, Try.ntmps11
  go_wp2
  go_loopw [5, 6, 7, 8, 9] (fun vd vi _ _ _ wr => ∃ i : Nat, vi = .int .i64 (i : Int) ∧ SI nn old fresh R w vd wr i) (fun _ vi _ _ _ _ => nn - (intOf vi).toNat)
  case atStart => exact ⟨0, rfl, [], _, 0, nn, rfl, HN0.out, ⟨fun z hz => by simp at hz, fun z hz => by simp at hz⟩, fun x hx => by simp [xs] at hx, Nat.le_refl _, Nat.zero_le _, by omega, HRR.out, HB0.out⟩
  case round =>
    obtain ⟨i, rfl, zs, va, vc, f, rfl, hrow, hlb, hld, hzl, hin, hnf, hmk, hbel⟩ := hrel
    obtain ⟨zl, hzlE⟩ : ∃ zl, zs.length = zl := ⟨_, rfl⟩
    have HZL : Hid (zs.length = zl) := hzlE
    have hzn : zl ≤ 3000 := by omega
    by_cases hil : i < nn
    case neg =>
      have hil' : ¬ (i : Int) < (nn : Int) := by omega
      have hX : xs zs = R := by rw [← hmk, List.drop_eq_nil_of_le (by rw [HON.out.2]; omega), mkA_nil]
      have HF : Hid (MkN w wr R (.returned (.slice va zs.length vc))) := ⟨_, zs, w.heap.size, rfl, hX, Nat.le_refl _, hrow, hlb.2, hbel⟩
      have h10 : ¬ (10000 : Int) < (zl : Int) := by omega
      rw [hzlE] at HF ⊢
      clear hrow hlb hld hmk hbel hX hzlE hzl
      go_wp2
      go_ret
      exact HF.out
    have hil' : (i : Int) < (nn : Int) := by omega
    have hi0 : (0 : Int) ≤ (i : Int) := by omega
    obtain ⟨f', rfl⟩ : ∃ f', f = f' + 1 := ⟨f - 1, by omega⟩
    obtain ⟨y, hsy, hyd⟩ := HFC.out i hil
    have HSY : Hid (∀ W, Below w.heap.size w W → W.cell? ⟨nb, i, none⟩ = some (.int .u8 (y.toNat : Int))) := hsy
    have HFD1 := HFD.out wr i hbel hin
    obtain ⟨q, hq⟩ : ∃ q, fd old (fresh.drop i) old.length = q := ⟨_, rfl⟩
    rw [hq] at HFD1
    have HFD2 : Hid (Calls Try.prog 29 #[.slice (some ⟨ob, 0, none⟩) on oc, .slice (some ⟨nb, 0, none⟩) nn nc, .int .i64 (i : Int)] wr fun e w' => e = .returned (.tuple #[.int .i64 (q.1 : Int), .int .i64 (q.2 : Int)]) ∧ Below wr.heap.size wr w') := HFD1
    have hqr : q.2 ≤ nn - i := by
      have := fd_rest old (fresh.drop i) old.length
      rw [hq, List.length_drop, HON.out.2] at this
      exact this
    have HRW : Hid (RowS w.heap.size wr (.slice va zs.length vc) zs) := hrow
    have HLB : Hid (LB w.heap.size wr zs) := hlb.1
    have HND : Hid (NilD zs) := hlb.2
    have HLD : Hid (LastD (xs zs) i) := hld
    have HBE : Hid (Below w.heap.size w wr) := hbel
    have hzr : zl ≤ i := by omega
    rw [hzlE]
    obtain ⟨G, cap, e, hcap⟩ := hrow.shape
    simp only [Value.slice.injEq] at e
    obtain ⟨rfl, _, rfl⟩ := e
    have hGl : G < wr.heap.size := (hrow.own.lt G rfl).2
    have hGb : w.heap.size ≤ G := (hrow.own.lt G rfl).1
    have HNG : Hid (¬ nb = G) := by have := HNB.out; show ¬ _; omega
    have HNGs : Hid (¬ G = nb) := fun h => HNG.out h.symm
    by_cases h6 : 6 ≤ q.2
    · have h6' : (6 : Int) ≤ (q.2 : Int) := by omega
      have HMK : Hid (mkA old f' (fresh.drop (i + q.2)) (xs zs ++ [⟨1, (q.1 : Int), (q.2 : Int), []⟩]) = R) := by
        show _ = _
        rw [← hmk, mkA_copy (by rw [hq]; exact h6) (by rw [hyd]; simp), hq, List.drop_drop]
      clear hrow hlb hld hmk hbel hq hyd HFD1 hzl hzlE hsy hcap
      go_wp2_with (first | (go_at_call 29; refine HFD2.out.mono ?_; rintro e w1 ⟨rfl, hl1⟩; refine Hid.out ?_) | go_in)
      refine Lib.hid ?_
      obtain ⟨W5, hW5⟩ : ∃ W5 : World, w1.alloc (.cells #[.int .i64 1, .int .i64 (q.1 : Int), .int .i64 (q.2 : Int), .slice none 0 0] 41) = W5 := ⟨_, rfl⟩
      have HW5 : Hid (w1.alloc (.cells #[.int .i64 1, .int .i64 (q.1 : Int), .int .i64 (q.2 : Int), .slice none 0 0] 41) = W5) := hW5
      have hb5 : Below w1.heap.size w1 W5 := by rw [← hW5]; exact (Below.refl _ _).alloc (Nat.le_refl _) _
      have hbr5 : Below wr.heap.size wr W5 := hl1.trans (hb5.mono hl1.size)
      have HNEW : Hid (∀ j u, (szV ⟨⟨1, (q.1 : Int), (q.2 : Int), []⟩, none, 0⟩)[j]? = some u → W5.cell? ((⟨w1.heap.size, 0, none⟩ : Addr).add j) = some u) := by
        intro j u hj
        rw [← hW5]
        exact szV_at w1 ⟨⟨1, (q.1 : Int), (q.2 : Int), []⟩, none, 0⟩ 41 j u hj
      have HB5 : Hid (Below w.heap.size w W5) := HBE.out.trans (hbr5.mono HBE.out.size)
      have HBS : Hid (w.heap.size ≤ W5.heap.size) := HB5.out.size
      have HRS : Hid (RowS w.heap.size W5 (.slice (some ⟨G, 0, none⟩) zs.length vc) zs) := HRW.out.below hbr5
      have HOWN : Hid (W5.ownsRow w.heap.size 41 4 (.slice (some ⟨G, 0, none⟩) zl vc) zl (szC zs)) := by
        have := HRS.out.own
        rwa [HZL.out] at this
      have hcl1 : zl + 1 ≤ maxLen := by unfold maxLen; omega
      have hcl2 : (zl + 1) * 48 ≤ 140737488355328 := by omega
      clear hW5 hb5 hbr5 hl1
      go_wp2_with (first
        | (at_builtin; rw [HW5.out]; refine app_ownS _ rfl _ _ 26 rfl w.heap.size 41 (.agg #[.int .i64 0, .int .i64 0, .int .i64 0, .slice none 0 0]) 4 48 Try.underlying26 infoSt rfl (by decide) (.slice (some ⟨G, 0, none⟩) zl vc) zl (szC zs) rfl HOWN.out ⟨w1.heap.size, 0, none⟩ 1 1 (szV ⟨⟨1, (q.1 : Int), (q.2 : Int), []⟩, none, 0⟩) rfl rfl HNEW.out (szV_one _) hcl1 hcl2 HBS.out ?_; intro v6 w6 hown6 hg6; refine Hid.out ?_)
        | go_in)
      refine Lib.hid ?_
      have HR6 : Hid (RowS w.heap.size w6 v6 (zs ++ [(⟨⟨1, (q.1 : Int), (q.2 : Int), []⟩, none, 0⟩ : Sz)])) := RowS.push HRS.out (by rw [HZL.out]; exact hown6) (by rw [HZL.out]; exact hg6) (fun h => absurd rfl h)
      have HB6 : Hid (Below w.heap.size w w6) := HB5.out.grown hg6 HBS.out (fun k hk => (HOWN.out.lt k hk).1)
      have HEND : Hid (SI nn old fresh R w v6 w6 (i + q.2)) := by
        obtain ⟨G6, cap6, rfl, _⟩ := HR6.out.shape
        refine ⟨_, _, cap6, f', rfl, HR6.out, ⟨fun z hz hk => ?_, HND.out.app fun _ => ⟨rfl, rfl⟩⟩, fun x hx => ?_, ?_, by omega, by omega, ?_, HB6.out⟩
        · rw [List.getLast?_concat] at hz
          cases hz
          cases hk
        · rw [xs_app, List.getLast?_concat] at hx
          cases hx
          exact Nat.zero_le _
        · rw [List.length_append, HZL.out]
          simp
          omega
        · rw [xs_app]
          exact HMK.out
      clear hown6 hg6
      go_wp2
      go_roundw
      case rel => exact ⟨i + q.2, by go_num, HEND.out⟩
      case measure => simp [intOf]; omega
    have h6' : ¬ (6 : Int) ≤ (q.2 : Int) := by omega
    have HMK : Hid (mkA old f' (fresh.drop (i + 1)) (addB (xs zs) y) = R) := by
      show _ = _
      rw [← hmk, mkA_add hyd (by rw [hq]; exact h6)]
    have hsml : nn - i ≤ f' + 1 := hnf
    by_cases hlast : ∃ zs1 z, zs = zs1 ++ [z] ∧ z.x.k = 2
    · obtain ⟨zs1, z, rfl, hk2⟩ := hlast
      obtain ⟨hdne, hdlen, g, hza, hbfz⟩ := HLB.out z (List.getLast?_concat) hk2
      obtain ⟨m, hmE⟩ : ∃ m, zs1.length = m := ⟨_, rfl⟩
      have HMM : Hid (zs1.length = m) := hmE
      obtain rfl : zl = m + 1 := by rw [← HZL.out, List.length_append, hmE]; rfl
      clear hrow hlb hld hmk hbel hq hyd HFD1 hzl hzlE hsy hcap hmE
      go_wp2_with (first | (go_at_call 29; refine HFD2.out.mono ?_; rintro e w1 ⟨rfl, hl1⟩; refine Hid.out ?_) | go_in)
      refine Lib.hid ?_
      have HROW : Hid (RowS w.heap.size w1 (.slice (some ⟨G, 0, none⟩) (zs1 ++ [z]).length vc) (zs1 ++ [z])) := HRW.out.below hl1
      have HDN : Hid (DatN w.heap.size w1 z.a z.c z.x.d) := .inr ⟨g, hza, hdne, hbfz.below hl1⟩
      have HBEL : Hid (Below w.heap.size w w1) := HBE.out.trans (hl1.mono HBE.out.size)
      have HBS : Hid (w.heap.size ≤ w1.heap.size) := HBEL.out.size
      have hzi : (zs1 ++ [z])[m]? = some z := by rw [← HMM.out, List.getElem?_append_right (Nat.le_refl _), Nat.sub_self]; rfl
      obtain ⟨za, hzaE⟩ : ∃ za, z.a = za := ⟨_, rfl⟩
      obtain ⟨zc, hzcE⟩ : ∃ zc, z.c = zc := ⟨_, rfl⟩
      obtain ⟨D, hDE⟩ : ∃ D, z.x.d = D := ⟨_, rfl⟩
      obtain ⟨dl, hdlE⟩ : ∃ dl, D.length = dl := ⟨_, rfl⟩
      have HDL : Hid (D.length = dl) := hdlE
      have HDLZ : Hid (z.x.d.length = dl) := by show _ = _; rw [hDE, hdlE]
      have HDM : Hid (dl ≤ 1048576) := by show _ ≤ _; rw [← hdlE, ← hDE]; exact hdlen
      have HZA : Hid (z.a = za) := hzaE
      have HZD : Hid (z.x.d = D) := hDE
      have HDNZ : Hid (DatN w.heap.size w1 za zc D) := by rw [← hzaE, ← hzcE, ← hDE]; exact HDN.out
      have c0 : w1.cell? ⟨G, m * 4, none⟩ = some (.int .i64 2) := by have := HROW.out.cell (j := 0) hzi (by omega); rw [Nat.add_zero] at this; rw [this]; unfold szV; rw [hk2]; rfl
      have c3 : w1.cell? ⟨G, m * 4 + 3, none⟩ = some (.slice za dl zc) := by rw [HROW.out.cell (j := 3) hzi (by omega)]; unfold szV; rw [hzaE, hzcE, hDE, hdlE]; rfl
      have c3f : w1.frozen? ⟨G, m * 4 + 3, none⟩ = false := HROW.out.own.frozenAt _
      have HEND : Hid (∀ g2 c2 w', RowS w.heap.size w' (.slice (some ⟨G, 0, none⟩) (m + 1) vc) (zs1 ++ [⟨⟨z.x.k, z.x.p, z.x.n, z.x.d ++ [y]⟩, some ⟨g2, 0, none⟩, c2⟩]) → Bf w.heap.size w' g2 c2 (z.x.d ++ [y]) → Below w.heap.size w w' → ∃ i' : Nat, Value.int .i64 ((i : Int) + 1) = .int .i64 (i' : Int) ∧ SI nn old fresh R w (.slice (some ⟨G, 0, none⟩) (m + 1) vc) w' i') := fun g2 c2 w' h1 h2 h3 => by
        refine ⟨i + 1, by go_num, si_add h1 h2 (by first | exact HND.out | exact fun z' hz' => HND.out z' (List.mem_append_left _ hz')) HMM.out ?_ HLD.out (by omega) hil h32 hsml HMK.out h3⟩
        rw [addB_old hk2, xs_app, xs_app]
      clear hza hbfz hdne hdlen hl1 hzaE hzcE hDE hdlE hzi HMK HLB HLD HRW HZL hsml HFD2
      have HBD : Hid (Below w.heap.size w w1.drew) := HBEL.out.drew
      have HBA : Hid (Below w.heap.size w (w1.alloc (.cells #[.int .u8 (y.toNat : Int)] 5)).drew) := (HBEL.out.alloc HBEL.out.size _).drew
      have HBWA : Hid (Below w1.heap.size w1 (w1.alloc (.cells #[.int .u8 (y.toNat : Int)] 5)).drew) := ((Below.refl _ _).alloc (Nat.le_refl _) _).drew
      have HBSA : Hid (w.heap.size ≤ (w1.alloc (.cells #[.int .u8 (y.toNat : Int)] 5)).drew.heap.size) := HBA.out.size
      have HDA : Hid (DatN w.heap.size (w1.alloc (.cells #[.int .u8 (y.toNat : Int)] 5)).drew za zc D) := HDNZ.out.below HBWA.out
      have c3a : (w1.alloc (.cells #[.int .u8 (y.toNat : Int)] 5)).cell? ⟨G, m * 4 + 3, none⟩ = some (.slice za dl zc) := (((Below.refl _ _).alloc (Nat.le_refl _) _).cell (p := ⟨G, m * 4 + 3, none⟩) (World.block_lt_of_cell? _ _ c3)).trans c3
      have hm0 : (0 : Int) ≤ (m : Int) := by omega
      go_wp2_with fail
      refine wp_region_held_drew (S := (fun X => X.cell? ⟨nb, i, none⟩ = some (.int .u8 (y.toNat : Int)))) (by kernel_rfl) (HSY.out _ HBD.out) (fun hHeld => ?_)
      refine wpAnyH_take (i := 0) (oi := ⟨some 61, .move (.tmp 5), 26, "l14_delta.go:72", #[], none⟩) (v := ?v1) rfl (by kernel_rfl) (by kernel_rfl) (by kernel_rfl) (fun _ _ _ h => h) (Or.inl ⟨by rfl, ?hy1⟩) (by assumption) ?r1
      case hy1 => (intro w hSw; (try dsimp only at hSw); go_simp; try with_reducible rfl)
      try simp only [Act.put, List.setIfInBounds_toArray, List.set_cons_zero, List.set_cons_succ]
      refine wpAnyH_take (i := 1) (oi := ⟨some 62, .move (.tmp 9), 3, "l14_delta.go:72", #[], none⟩) (v := ?v2) rfl (by kernel_rfl) (by kernel_rfl) (by kernel_rfl) (fun _ _ _ h => h) (Or.inl ⟨by rfl, ?hy2⟩) (by assumption) ?r2
      case hy2 => (intro w hSw; (try dsimp only at hSw); go_simp; try with_reducible rfl)
      try simp only [Act.put, List.setIfInBounds_toArray, List.set_cons_zero, List.set_cons_succ]
      refine wpAnyH_take (i := 2) (oi := ⟨some 63, .move (.tmp 5), 26, "l14_delta.go:72", #[], none⟩) (v := ?v3) rfl (by kernel_rfl) (by kernel_rfl) (by kernel_rfl) (fun _ _ _ h => h) (Or.inl ⟨by rfl, ?hy3⟩) (by assumption) ?r3
      case hy3 => (intro w hSw; (try dsimp only at hSw); go_simp; try with_reducible rfl)
      try simp only [Act.put, List.setIfInBounds_toArray, List.set_cons_zero, List.set_cons_succ]
      refine wpAnyH_take (i := 3) (oi := ⟨some 64, .move (.tmp 9), 3, "l14_delta.go:72", #[], none⟩) (v := ?v4) rfl (by kernel_rfl) (by kernel_rfl) (by kernel_rfl) (fun _ _ _ h => h) (Or.inl ⟨by rfl, ?hy4⟩) (by assumption) ?r4
      case hy4 => (intro w hSw; (try dsimp only at hSw); go_simp; try with_reducible rfl)
      try simp only [Act.put, List.setIfInBounds_toArray, List.set_cons_zero, List.set_cons_succ]
      refine wpAnyH_take (i := 4) (oi := ⟨some 65, .indexAddr 26 (.tmp 63) (.tmp 64), 0, "l14_delta.go:72", #[⟨2, .data⟩, ⟨3, .data⟩], none⟩) (v := ?v5) rfl (by kernel_rfl) (by kernel_rfl) (by kernel_rfl) (fun _ _ _ h => h) (Or.inl ⟨by rfl, ?hy5⟩) (by assumption) ?r5
      case hy5 => (intro w hSw; (try dsimp only at hSw); go_simp; try with_reducible rfl)
      try simp only [Act.put, List.setIfInBounds_toArray, List.set_cons_zero, List.set_cons_succ]
      refine wpAnyH_take (i := 5) (oi := ⟨some 66, .fieldAddr 41 (.tmp 65) 3, 0, "l14_delta.go:72", #[⟨4, .data⟩], none⟩) (v := ?v6) rfl (by kernel_rfl) (by kernel_rfl) (by kernel_rfl) (fun _ _ _ h => h) (Or.inl ⟨by rfl, ?hy6⟩) (by assumption) ?r6
      case hy6 => (intro w hSw; (try dsimp only at hSw); go_simp; try with_reducible rfl)
      try simp only [Act.put, List.setIfInBounds_toArray, List.set_cons_zero, List.set_cons_succ]
      refine wpAnyH_take (i := 7) (oi := ⟨some 68, .move (.tmp 1), 22, "l14_delta.go:72", #[], none⟩) (v := ?v7) rfl (by kernel_rfl) (by kernel_rfl) (by kernel_rfl) (fun _ _ _ h => h) (Or.inl ⟨by rfl, ?hy7⟩) (by assumption) ?r7
      case hy7 => (intro w hSw; (try dsimp only at hSw); go_simp; try with_reducible rfl)
      try simp only [Act.put, List.setIfInBounds_toArray, List.set_cons_zero, List.set_cons_succ]
      refine wpAnyH_take (i := 8) (oi := ⟨some 69, .move (.tmp 6), 3, "l14_delta.go:72", #[], none⟩) (v := ?v8) rfl (by kernel_rfl) (by kernel_rfl) (by kernel_rfl) (fun _ _ _ h => h) (Or.inl ⟨by rfl, ?hy8⟩) (by assumption) ?r8
      case hy8 => (intro w hSw; (try dsimp only at hSw); go_simp; try with_reducible rfl)
      try simp only [Act.put, List.setIfInBounds_toArray, List.set_cons_zero, List.set_cons_succ]
      refine wpAnyH_take (i := 9) (oi := ⟨some 70, .indexAddr 22 (.tmp 68) (.tmp 69), 0, "l14_delta.go:72", #[⟨7, .data⟩, ⟨8, .data⟩], none⟩) (v := ?v9) rfl (by kernel_rfl) (by kernel_rfl) (by kernel_rfl) (fun _ _ _ h => h) (Or.inl ⟨by rfl, ?hy9⟩) (by assumption) ?r9
      case hy9 => (intro w hSw; (try dsimp only at hSw); go_simp; try with_reducible rfl)
      try simp only [Act.put, List.setIfInBounds_toArray, List.set_cons_zero, List.set_cons_succ]
      refine wpAnyH_take (i := 10) (oi := ⟨some 71, .load 5 (.tmp 70), 5, "l14_delta.go:72", #[⟨9, .data⟩], none⟩) (v := ?v10) rfl (by kernel_rfl) (by kernel_rfl) (by kernel_rfl) (fun _ _ _ h => h) (Or.inl ⟨by rfl, ?hy10⟩) (by assumption) ?r10
      case hy10 => (intro w hSw; (try dsimp only at hSw); go_simp; try with_reducible rfl)
      try simp only [Act.put, List.setIfInBounds_toArray, List.set_cons_zero, List.set_cons_succ]
      refine wpAnyH_ready (rs := [6, 11]) (by kernel_rfl) (by simp) ?_
      refine AllReadyH.cons (o := ⟨some 67, .load 22 (.tmp 66), 22, "l14_delta.go:72", #[⟨5, .data⟩], none⟩) rfl (fun K hK => ?_) (AllReadyH.cons (o := ⟨some 72, .buildSlice 22 1 #[(0, .tmp 71)], 22, "l14_delta.go:72", #[⟨10, .data⟩], none⟩) rfl (fun K hK => ?_) AllReadyH.nil)
      · go_simp
        try go_wp2_with fail
        refine hK.out _ _ (HSY.out _ HBD.out) (fun hHeld => ?_)
        clear hK K
        try simp only [Act.put, List.setIfInBounds_toArray, List.set_cons_zero, List.set_cons_succ]
        refine wpAnyH_ready (rs := [11]) (by kernel_rfl) (by simp) ?_
        refine AllReadyH.cons (o := ⟨some 72, .buildSlice 22 1 #[(0, .tmp 71)], 22, "l14_delta.go:72", #[⟨10, .data⟩], none⟩) rfl (fun K hK => ?_) AllReadyH.nil
        go_simp
        try go_wp2_with fail
        refine hK.out _ _ (HSY.out _ HBA.out) (fun hHeld => ?_)
        clear hK K
        try simp only [Act.put, List.setIfInBounds_toArray, List.set_cons_zero, List.set_cons_succ]
        refine wpAnyH_ready (rs := [12]) (by kernel_rfl) (by simp) ?_
        refine AllReadyH.cons (o := ⟨some 73, .call { callee := .builtin .append, args := #[.tmp 67, .tmp 72], argTypes := #[22, 22] }, 22, "l14_delta.go:72", #[⟨6, .data⟩, ⟨11, .data⟩], none⟩) rfl (fun K hK => ?_) AllReadyH.nil
        refine stepN_any (by rfl) _ _ (by rfl) (base := w.heap.size) (by rfl) HDL.out ⟨w1.heap.size, 0, none⟩ y (by rfl) HDA.out (show (w1.alloc (.cells #[.int .u8 (y.toNat : Int)] 5)).cell? ⟨w1.heap.size, 0, none⟩ = _ by rw [World.cell?_alloc_new]; rfl) HDM.out HBSA.out ?_
        intro g2 c2 w5 hap
        rw [← HZA.out, ← HZD.out] at hap
        obtain ⟨hr5, hf5, hb5, hG5⟩ := row_add HMM.out HROW.out HDN.out HBWA.out hap HBS.out
        skip
        have p3 : w5.cell? ⟨G, m * 4 + 3, none⟩ = some (.slice za dl zc) := (World.cell?_of_block (a := ⟨G, m * 4 + 3, none⟩) hG5).trans c3
        have p3f : w5.frozen? ⟨G, m * 4 + 3, none⟩ = false := (World.frozen?_of_block (a := ⟨G, m * 4 + 3, none⟩) hG5).trans c3f
        have HR5 := Lib.hid hr5
        have HF5 := Lib.hid hf5
        have HB5 := Lib.hid (HBEL.out.trans hb5)
        rw [HDLZ.out] at HR5 HF5 HB5
        have HSY5 : Hid (w5.cell? ⟨nb, i, none⟩ = some (.int .u8 (y.toNat : Int))) := by
          have := HSY.out _ HB5.out
          rwa [World.cell?_setCell_other _ _ _ _ (by simp; intro h; exact absurd h HNGs.out)] at this
        clear hr5 hf5 hb5 hG5
        refine hK.out _ _ HSY5.out (fun hHeld => ?_)
        clear hK K
        try simp only [Act.put, List.setIfInBounds_toArray, List.set_cons_zero, List.set_cons_succ]
        refine wpAnyH_take (i := 13) (oi := ⟨some 74, .indexAddr 26 (.tmp 61) (.tmp 62), 0, "l14_delta.go:72", #[⟨0, .data⟩, ⟨1, .data⟩, ⟨0, .phase⟩, ⟨1, .phase⟩, ⟨2, .phase⟩, ⟨3, .phase⟩, ⟨4, .phase⟩, ⟨5, .phase⟩, ⟨6, .phase⟩, ⟨7, .phase⟩, ⟨8, .phase⟩, ⟨9, .phase⟩, ⟨10, .phase⟩, ⟨11, .phase⟩, ⟨12, .phase⟩], none⟩) (v := ?v11) rfl (by kernel_rfl) (by kernel_rfl) (by kernel_rfl) (fun _ _ _ h => h) (Or.inl ⟨by rfl, ?hy11⟩) (by assumption) ?r11
        case hy11 => (intro w hSw; (try dsimp only at hSw); go_simp; try with_reducible rfl)
        try simp only [Act.put, List.setIfInBounds_toArray, List.set_cons_zero, List.set_cons_succ]
        refine wpAnyH_take (i := 14) (oi := ⟨some 75, .fieldAddr 41 (.tmp 74) 3, 0, "l14_delta.go:72", #[⟨13, .data⟩, ⟨0, .phase⟩, ⟨1, .phase⟩, ⟨2, .phase⟩, ⟨3, .phase⟩, ⟨4, .phase⟩, ⟨5, .phase⟩, ⟨6, .phase⟩, ⟨7, .phase⟩, ⟨8, .phase⟩, ⟨9, .phase⟩, ⟨10, .phase⟩, ⟨11, .phase⟩, ⟨12, .phase⟩], none⟩) (v := ?v12) rfl (by kernel_rfl) (by kernel_rfl) (by kernel_rfl) (fun _ _ _ h => h) (Or.inl ⟨by rfl, ?hy12⟩) (by assumption) ?r12
        case hy12 => (intro w hSw; (try dsimp only at hSw); go_simp; try with_reducible rfl)
        try simp only [Act.put, List.setIfInBounds_toArray, List.set_cons_zero, List.set_cons_succ]
        refine wpAnyH_ready (rs := [15]) (by kernel_rfl) (by simp) ?_
        refine AllReadyH.cons (o := ⟨none, .store 22 (.tmp 75) (.tmp 73), 0, "l14_delta.go:72", #[⟨14, .data⟩, ⟨12, .data⟩, ⟨12, .chain⟩, ⟨0, .phase⟩, ⟨1, .phase⟩, ⟨2, .phase⟩, ⟨3, .phase⟩, ⟨4, .phase⟩, ⟨5, .phase⟩, ⟨6, .phase⟩, ⟨7, .phase⟩, ⟨8, .phase⟩, ⟨9, .phase⟩, ⟨10, .phase⟩, ⟨11, .phase⟩, ⟨12, .phase⟩], none⟩) rfl (fun K hK => ?_) AllReadyH.nil
        go_simp
        try go_wp2_with fail
        refine hK.out _ _ (HSY.out _ HB5.out) (fun hHeld => ?_)
        clear hK K
        try simp only [Act.put, List.setIfInBounds_toArray, List.set_cons_zero, List.set_cons_succ]
        refine wpAnyH_done (by kernel_rfl) ?_ _
        clear hHeld p3 p3f hap c3 c3f
        go_wp2
        go_roundw
        case rel => exact HEND.out g2 c2 _ HR5.out HF5.out HB5.out
        case measure => simp [intOf]; omega
      · go_simp
        try go_wp2_with fail
        refine hK.out _ _ (HSY.out _ HBA.out) (fun hHeld => ?_)
        clear hK K
        try simp only [Act.put, List.setIfInBounds_toArray, List.set_cons_zero, List.set_cons_succ]
        refine wpAnyH_ready (rs := [6]) (by kernel_rfl) (by simp) ?_
        refine AllReadyH.cons (o := ⟨some 67, .load 22 (.tmp 66), 22, "l14_delta.go:72", #[⟨5, .data⟩], none⟩) rfl (fun K hK => ?_) AllReadyH.nil
        go_simp
        try go_wp2_with fail
        refine hK.out _ _ (HSY.out _ HBA.out) (fun hHeld => ?_)
        clear hK K
        try simp only [Act.put, List.setIfInBounds_toArray, List.set_cons_zero, List.set_cons_succ]
        refine wpAnyH_ready (rs := [12]) (by kernel_rfl) (by simp) ?_
        refine AllReadyH.cons (o := ⟨some 73, .call { callee := .builtin .append, args := #[.tmp 67, .tmp 72], argTypes := #[22, 22] }, 22, "l14_delta.go:72", #[⟨6, .data⟩, ⟨11, .data⟩], none⟩) rfl (fun K hK => ?_) AllReadyH.nil
        refine stepN_any (by rfl) _ _ (by rfl) (base := w.heap.size) (by rfl) HDL.out ⟨w1.heap.size, 0, none⟩ y (by rfl) HDA.out (show (w1.alloc (.cells #[.int .u8 (y.toNat : Int)] 5)).cell? ⟨w1.heap.size, 0, none⟩ = _ by rw [World.cell?_alloc_new]; rfl) HDM.out HBSA.out ?_
        intro g2 c2 w5 hap
        rw [← HZA.out, ← HZD.out] at hap
        obtain ⟨hr5, hf5, hb5, hG5⟩ := row_add HMM.out HROW.out HDN.out HBWA.out hap HBS.out
        skip
        have p3 : w5.cell? ⟨G, m * 4 + 3, none⟩ = some (.slice za dl zc) := (World.cell?_of_block (a := ⟨G, m * 4 + 3, none⟩) hG5).trans c3
        have p3f : w5.frozen? ⟨G, m * 4 + 3, none⟩ = false := (World.frozen?_of_block (a := ⟨G, m * 4 + 3, none⟩) hG5).trans c3f
        have HR5 := Lib.hid hr5
        have HF5 := Lib.hid hf5
        have HB5 := Lib.hid (HBEL.out.trans hb5)
        rw [HDLZ.out] at HR5 HF5 HB5
        have HSY5 : Hid (w5.cell? ⟨nb, i, none⟩ = some (.int .u8 (y.toNat : Int))) := by
          have := HSY.out _ HB5.out
          rwa [World.cell?_setCell_other _ _ _ _ (by simp; intro h; exact absurd h HNGs.out)] at this
        clear hr5 hf5 hb5 hG5
        refine hK.out _ _ HSY5.out (fun hHeld => ?_)
        clear hK K
        try simp only [Act.put, List.setIfInBounds_toArray, List.set_cons_zero, List.set_cons_succ]
        refine wpAnyH_take (i := 13) (oi := ⟨some 74, .indexAddr 26 (.tmp 61) (.tmp 62), 0, "l14_delta.go:72", #[⟨0, .data⟩, ⟨1, .data⟩, ⟨0, .phase⟩, ⟨1, .phase⟩, ⟨2, .phase⟩, ⟨3, .phase⟩, ⟨4, .phase⟩, ⟨5, .phase⟩, ⟨6, .phase⟩, ⟨7, .phase⟩, ⟨8, .phase⟩, ⟨9, .phase⟩, ⟨10, .phase⟩, ⟨11, .phase⟩, ⟨12, .phase⟩], none⟩) (v := ?v13) rfl (by kernel_rfl) (by kernel_rfl) (by kernel_rfl) (fun _ _ _ h => h) (Or.inl ⟨by rfl, ?hy13⟩) (by assumption) ?r13
        case hy13 => (intro w hSw; (try dsimp only at hSw); go_simp; try with_reducible rfl)
        try simp only [Act.put, List.setIfInBounds_toArray, List.set_cons_zero, List.set_cons_succ]
        refine wpAnyH_take (i := 14) (oi := ⟨some 75, .fieldAddr 41 (.tmp 74) 3, 0, "l14_delta.go:72", #[⟨13, .data⟩, ⟨0, .phase⟩, ⟨1, .phase⟩, ⟨2, .phase⟩, ⟨3, .phase⟩, ⟨4, .phase⟩, ⟨5, .phase⟩, ⟨6, .phase⟩, ⟨7, .phase⟩, ⟨8, .phase⟩, ⟨9, .phase⟩, ⟨10, .phase⟩, ⟨11, .phase⟩, ⟨12, .phase⟩], none⟩) (v := ?v14) rfl (by kernel_rfl) (by kernel_rfl) (by kernel_rfl) (fun _ _ _ h => h) (Or.inl ⟨by rfl, ?hy14⟩) (by assumption) ?r14
        case hy14 => (intro w hSw; (try dsimp only at hSw); go_simp; try with_reducible rfl)
        try simp only [Act.put, List.setIfInBounds_toArray, List.set_cons_zero, List.set_cons_succ]
        refine wpAnyH_ready (rs := [15]) (by kernel_rfl) (by simp) ?_
        refine AllReadyH.cons (o := ⟨none, .store 22 (.tmp 75) (.tmp 73), 0, "l14_delta.go:72", #[⟨14, .data⟩, ⟨12, .data⟩, ⟨12, .chain⟩, ⟨0, .phase⟩, ⟨1, .phase⟩, ⟨2, .phase⟩, ⟨3, .phase⟩, ⟨4, .phase⟩, ⟨5, .phase⟩, ⟨6, .phase⟩, ⟨7, .phase⟩, ⟨8, .phase⟩, ⟨9, .phase⟩, ⟨10, .phase⟩, ⟨11, .phase⟩, ⟨12, .phase⟩], none⟩) rfl (fun K hK => ?_) AllReadyH.nil
        go_simp
        try go_wp2_with fail
        refine hK.out _ _ (HSY.out _ HB5.out) (fun hHeld => ?_)
        clear hK K
        try simp only [Act.put, List.setIfInBounds_toArray, List.set_cons_zero, List.set_cons_succ]
        refine wpAnyH_done (by kernel_rfl) ?_ _
        clear hHeld p3 p3f hap c3 c3f
        go_wp2
        go_roundw
        case rel => exact HEND.out g2 c2 _ HR5.out HF5.out HB5.out
        case measure => simp [intOf]; omega
    have HNK : Hid (∀ z, zs.getLast? = some z → z.x.k ≠ 2) := fun z hz hk => hlast ⟨_, z, (List.getLast?_eq_some_iff.1 hz).choose_spec, hk⟩
    rcases Nat.eq_zero_or_pos zl with h00 | h00
    · subst h00
      clear hrow hlb hld hmk hbel hq hyd HFD1 hzl hzlE hsy hcap hlast
      go_wp2_with (first | (go_at_call 29; refine HFD2.out.mono ?_; rintro e w1 ⟨rfl, hl1⟩; refine Hid.out ?_) | go_in)
      refine Lib.hid ?_
      obtain ⟨W5, hW5⟩ : ∃ W5 : World, w1.alloc (.cells #[.int .i64 2, .int .i64 0, .int .i64 0, .slice none 0 0] 41) = W5 := ⟨_, rfl⟩
      have HW5 : Hid (w1.alloc (.cells #[.int .i64 2, .int .i64 0, .int .i64 0, .slice none 0 0] 41) = W5) := hW5
      have hb5 : Below w1.heap.size w1 W5 := by rw [← hW5]; exact (Below.refl _ _).alloc (Nat.le_refl _) _
      have hbr5 : Below wr.heap.size wr W5 := hl1.trans (hb5.mono hl1.size)
      have HNEW : Hid (∀ j u, (szV ⟨⟨2, 0, 0, []⟩, none, 0⟩)[j]? = some u → W5.cell? ((⟨w1.heap.size, 0, none⟩ : Addr).add j) = some u) := by
        intro j u hj
        rw [← hW5]
        exact szV_at w1 ⟨⟨2, 0, 0, []⟩, none, 0⟩ 41 j u hj
      have HB5 : Hid (Below w.heap.size w W5) := HBE.out.trans (hbr5.mono HBE.out.size)
      have HBS5 : Hid (w.heap.size ≤ W5.heap.size) := HB5.out.size
      have HRS : Hid (RowS w.heap.size W5 (.slice (some ⟨G, 0, none⟩) zs.length vc) zs) := HRW.out.below hbr5
      have HOWN : Hid (W5.ownsRow w.heap.size 41 4 (.slice (some ⟨G, 0, none⟩) 0 vc) 0 (szC zs)) := by
        have := HRS.out.own
        rwa [HZL.out] at this

      have hcl1 : 0 + 1 ≤ maxLen := by unfold maxLen; omega
      have hcl2 : (0 + 1) * 48 ≤ 140737488355328 := by omega
      clear hW5 hb5 hbr5 hl1
      go_wp2_with (first
        | (at_builtin; rw [HW5.out]; refine app_ownS _ rfl _ _ 26 rfl w.heap.size 41 (.agg #[.int .i64 0, .int .i64 0, .int .i64 0, .slice none 0 0]) 4 48 Try.underlying26 infoSt rfl (by decide) (.slice (some ⟨G, 0, none⟩) 0 vc) 0 (szC zs) rfl HOWN.out ⟨w1.heap.size, 0, none⟩ 1 1 (szV ⟨⟨2, 0, 0, []⟩, none, 0⟩) rfl rfl HNEW.out (szV_one _) hcl1 hcl2 HBS5.out ?_; intro v6 w6 hown6 hg6; refine Hid.out ?_)
        | go_in)
      refine Lib.hid ?_
      have hr6 : RowS w.heap.size w6 v6 (zs ++ [(⟨⟨2, 0, 0, []⟩, none, 0⟩ : Sz)]) := RowS.push HRS.out (by rw [HZL.out]; exact hown6) (by rw [HZL.out]; exact hg6) (fun h => absurd rfl h)
      have HBEL : Hid (Below w.heap.size w w6) := HB5.out.grown hg6 HBS5.out (fun k hk => (HOWN.out.lt k hk).1)
      have HBS : Hid (w.heap.size ≤ w6.heap.size) := HBEL.out.size
      obtain ⟨G6, cap6, hv6, _⟩ := hr6.shape
      rw [show (zs ++ [(⟨⟨2, 0, 0, []⟩, none, 0⟩ : Sz)]).length = 0 + 1 by rw [List.length_append, HZL.out]; rfl] at hv6
      subst hv6
      have HROW : Hid (RowS w.heap.size w6 (.slice (some ⟨G6, 0, none⟩) (zs ++ [(⟨⟨2, 0, 0, []⟩, none, 0⟩ : Sz)]).length cap6) (zs ++ [(⟨⟨2, 0, 0, []⟩, none, 0⟩ : Sz)])) := by rw [show (zs ++ [(⟨⟨2, 0, 0, []⟩, none, 0⟩ : Sz)]).length = 0 + 1 by rw [List.length_append, HZL.out]; rfl]; exact hr6
      obtain ⟨z, hz⟩ : ∃ z : Sz, z = ⟨⟨2, 0, 0, []⟩, none, 0⟩ := ⟨_, rfl⟩
      rw [← hz] at HROW
      have HMM : Hid (zs.length = 0) := HZL.out
      have HDN : Hid (DatN w.heap.size w6 z.a z.c z.x.d) := by rw [hz]; exact .inl ⟨rfl, rfl, rfl⟩
      have hzi : (zs ++ [z])[0]? = some z := by rw [← HMM.out, List.getElem?_append_right (Nat.le_refl _), Nat.sub_self]; rfl
      obtain ⟨za, hzaE⟩ : ∃ za, z.a = za := ⟨_, rfl⟩
      obtain ⟨zc, hzcE⟩ : ∃ zc, z.c = zc := ⟨_, rfl⟩
      obtain ⟨D, hDE⟩ : ∃ D, z.x.d = D := ⟨_, rfl⟩
      obtain ⟨dl, hdlE⟩ : ∃ dl, D.length = dl := ⟨_, rfl⟩
      have HDL : Hid (D.length = dl) := hdlE
      have HDLZ : Hid (z.x.d.length = dl) := by show _ = _; rw [hDE, hdlE]
      have HDM : Hid (dl ≤ 1048576) := by show _ ≤ _; rw [← hdlE, ← hDE, hz]; simp
      have HZA : Hid (z.a = za) := hzaE
      have HZD : Hid (z.x.d = D) := hDE
      have HDNZ : Hid (DatN w.heap.size w6 za zc D) := by rw [← hzaE, ← hzcE, ← hDE]; exact HDN.out
      have c3 : w6.cell? ⟨G6, 3, none⟩ = some (.slice za dl zc) := by
        have := HROW.out.cell (j := 3) hzi (by omega)
        rw [Nat.zero_mul, Nat.zero_add] at this
        rw [this]; unfold szV; rw [hzaE, hzcE, hDE, hdlE]; rfl
      have c3f : w6.frozen? ⟨G6, 3, none⟩ = false := HROW.out.own.frozenAt _
      have hG6b : w.heap.size ≤ G6 := (HROW.out.own.lt G6 rfl).1
      have HADD : Hid (xs zs ++ [⟨2, 0, 0, [y]⟩] = addB (xs zs) y) := addB_new HNK.out
      have HEND : Hid (∀ g2 c2 w', RowS w.heap.size w' (.slice (some ⟨G6, 0, none⟩) (0 + 1) cap6) (zs ++ [⟨⟨z.x.k, z.x.p, z.x.n, z.x.d ++ [y]⟩, some ⟨g2, 0, none⟩, c2⟩]) → Bf w.heap.size w' g2 c2 (z.x.d ++ [y]) → Below w.heap.size w w' → ∃ i' : Nat, Value.int .i64 ((i : Int) + 1) = .int .i64 (i' : Int) ∧ SI nn old fresh R w (.slice (some ⟨G6, 0, none⟩) (0 + 1) cap6) w' i') := fun g2 c2 w' h1 h2 h3 => by
        refine ⟨i + 1, by go_num, si_add h1 h2 (by first | exact HND.out | exact fun z' hz' => HND.out z' (List.mem_append_left _ hz')) HMM.out ?_ HLD.out (by omega) hil h32 hsml HMK.out h3⟩
        rw [← HADD.out, xs_app, hz]
        rfl
      have HNGs6 : Hid (¬ G6 = nb) := by have := HNB.out; show ¬ _; omega
      clear HNGs HNG hGl hGb
      obtain ⟨G, rfl⟩ : ∃ G', G' = G6 := ⟨_, rfl⟩
      have HNGs : Hid (¬ G = nb) := HNGs6.out
      clear hr6 hown6 hg6 hzaE hzcE hDE hdlE hzi HMK HLB HLD HRW HZL hsml HFD2 HADD HNEW HRS HOWN hz
      have HBD : Hid (Below w.heap.size w w6.drew) := HBEL.out.drew
      have HBA : Hid (Below w.heap.size w (w6.alloc (.cells #[.int .u8 (y.toNat : Int)] 5)).drew) := (HBEL.out.alloc HBEL.out.size _).drew
      have HBWA : Hid (Below w6.heap.size w6 (w6.alloc (.cells #[.int .u8 (y.toNat : Int)] 5)).drew) := ((Below.refl _ _).alloc (Nat.le_refl _) _).drew
      have HBSA : Hid (w.heap.size ≤ (w6.alloc (.cells #[.int .u8 (y.toNat : Int)] 5)).drew.heap.size) := HBA.out.size
      have HDA : Hid (DatN w.heap.size (w6.alloc (.cells #[.int .u8 (y.toNat : Int)] 5)).drew za zc D) := HDNZ.out.below HBWA.out
      have c3a : (w6.alloc (.cells #[.int .u8 (y.toNat : Int)] 5)).cell? ⟨G, 3, none⟩ = some (.slice za dl zc) := (((Below.refl _ _).alloc (Nat.le_refl _) _).cell (p := ⟨G, 3, none⟩) (World.block_lt_of_cell? _ _ c3)).trans c3
      go_wp2_with fail
      refine wp_region_held_drew (S := (fun X => X.cell? ⟨nb, i, none⟩ = some (.int .u8 (y.toNat : Int)))) (by kernel_rfl) (HSY.out _ HBD.out) (fun hHeld => ?_)
      refine wpAnyH_take (i := 0) (oi := ⟨some 61, .move (.tmp 5), 26, "l14_delta.go:72", #[], none⟩) (v := ?v15) rfl (by kernel_rfl) (by kernel_rfl) (by kernel_rfl) (fun _ _ _ h => h) (Or.inl ⟨by rfl, ?hy15⟩) (by assumption) ?r15
      case hy15 => (intro w hSw; (try dsimp only at hSw); go_simp; try with_reducible rfl)
      try simp only [Act.put, List.setIfInBounds_toArray, List.set_cons_zero, List.set_cons_succ]
      refine wpAnyH_take (i := 1) (oi := ⟨some 62, .move (.tmp 9), 3, "l14_delta.go:72", #[], none⟩) (v := ?v16) rfl (by kernel_rfl) (by kernel_rfl) (by kernel_rfl) (fun _ _ _ h => h) (Or.inl ⟨by rfl, ?hy16⟩) (by assumption) ?r16
      case hy16 => (intro w hSw; (try dsimp only at hSw); go_simp; try with_reducible rfl)
      try simp only [Act.put, List.setIfInBounds_toArray, List.set_cons_zero, List.set_cons_succ]
      refine wpAnyH_take (i := 2) (oi := ⟨some 63, .move (.tmp 5), 26, "l14_delta.go:72", #[], none⟩) (v := ?v17) rfl (by kernel_rfl) (by kernel_rfl) (by kernel_rfl) (fun _ _ _ h => h) (Or.inl ⟨by rfl, ?hy17⟩) (by assumption) ?r17
      case hy17 => (intro w hSw; (try dsimp only at hSw); go_simp; try with_reducible rfl)
      try simp only [Act.put, List.setIfInBounds_toArray, List.set_cons_zero, List.set_cons_succ]
      refine wpAnyH_take (i := 3) (oi := ⟨some 64, .move (.tmp 9), 3, "l14_delta.go:72", #[], none⟩) (v := ?v18) rfl (by kernel_rfl) (by kernel_rfl) (by kernel_rfl) (fun _ _ _ h => h) (Or.inl ⟨by rfl, ?hy18⟩) (by assumption) ?r18
      case hy18 => (intro w hSw; (try dsimp only at hSw); go_simp; try with_reducible rfl)
      try simp only [Act.put, List.setIfInBounds_toArray, List.set_cons_zero, List.set_cons_succ]
      refine wpAnyH_take (i := 4) (oi := ⟨some 65, .indexAddr 26 (.tmp 63) (.tmp 64), 0, "l14_delta.go:72", #[⟨2, .data⟩, ⟨3, .data⟩], none⟩) (v := ?v19) rfl (by kernel_rfl) (by kernel_rfl) (by kernel_rfl) (fun _ _ _ h => h) (Or.inl ⟨by rfl, ?hy19⟩) (by assumption) ?r19
      case hy19 => (intro w hSw; (try dsimp only at hSw); go_simp; try with_reducible rfl)
      try simp only [Act.put, List.setIfInBounds_toArray, List.set_cons_zero, List.set_cons_succ]
      refine wpAnyH_take (i := 5) (oi := ⟨some 66, .fieldAddr 41 (.tmp 65) 3, 0, "l14_delta.go:72", #[⟨4, .data⟩], none⟩) (v := ?v20) rfl (by kernel_rfl) (by kernel_rfl) (by kernel_rfl) (fun _ _ _ h => h) (Or.inl ⟨by rfl, ?hy20⟩) (by assumption) ?r20
      case hy20 => (intro w hSw; (try dsimp only at hSw); go_simp; try with_reducible rfl)
      try simp only [Act.put, List.setIfInBounds_toArray, List.set_cons_zero, List.set_cons_succ]
      refine wpAnyH_take (i := 7) (oi := ⟨some 68, .move (.tmp 1), 22, "l14_delta.go:72", #[], none⟩) (v := ?v21) rfl (by kernel_rfl) (by kernel_rfl) (by kernel_rfl) (fun _ _ _ h => h) (Or.inl ⟨by rfl, ?hy21⟩) (by assumption) ?r21
      case hy21 => (intro w hSw; (try dsimp only at hSw); go_simp; try with_reducible rfl)
      try simp only [Act.put, List.setIfInBounds_toArray, List.set_cons_zero, List.set_cons_succ]
      refine wpAnyH_take (i := 8) (oi := ⟨some 69, .move (.tmp 6), 3, "l14_delta.go:72", #[], none⟩) (v := ?v22) rfl (by kernel_rfl) (by kernel_rfl) (by kernel_rfl) (fun _ _ _ h => h) (Or.inl ⟨by rfl, ?hy22⟩) (by assumption) ?r22
      case hy22 => (intro w hSw; (try dsimp only at hSw); go_simp; try with_reducible rfl)
      try simp only [Act.put, List.setIfInBounds_toArray, List.set_cons_zero, List.set_cons_succ]
      refine wpAnyH_take (i := 9) (oi := ⟨some 70, .indexAddr 22 (.tmp 68) (.tmp 69), 0, "l14_delta.go:72", #[⟨7, .data⟩, ⟨8, .data⟩], none⟩) (v := ?v23) rfl (by kernel_rfl) (by kernel_rfl) (by kernel_rfl) (fun _ _ _ h => h) (Or.inl ⟨by rfl, ?hy23⟩) (by assumption) ?r23
      case hy23 => (intro w hSw; (try dsimp only at hSw); go_simp; try with_reducible rfl)
      try simp only [Act.put, List.setIfInBounds_toArray, List.set_cons_zero, List.set_cons_succ]
      refine wpAnyH_take (i := 10) (oi := ⟨some 71, .load 5 (.tmp 70), 5, "l14_delta.go:72", #[⟨9, .data⟩], none⟩) (v := ?v24) rfl (by kernel_rfl) (by kernel_rfl) (by kernel_rfl) (fun _ _ _ h => h) (Or.inl ⟨by rfl, ?hy24⟩) (by assumption) ?r24
      case hy24 => (intro w hSw; (try dsimp only at hSw); go_simp; try with_reducible rfl)
      try simp only [Act.put, List.setIfInBounds_toArray, List.set_cons_zero, List.set_cons_succ]
      refine wpAnyH_ready (rs := [6, 11]) (by kernel_rfl) (by simp) ?_
      refine AllReadyH.cons (o := ⟨some 67, .load 22 (.tmp 66), 22, "l14_delta.go:72", #[⟨5, .data⟩], none⟩) rfl (fun K hK => ?_) (AllReadyH.cons (o := ⟨some 72, .buildSlice 22 1 #[(0, .tmp 71)], 22, "l14_delta.go:72", #[⟨10, .data⟩], none⟩) rfl (fun K hK => ?_) AllReadyH.nil)
      · go_simp
        try go_wp2_with fail
        refine hK.out _ _ (HSY.out _ HBD.out) (fun hHeld => ?_)
        clear hK K
        try simp only [Act.put, List.setIfInBounds_toArray, List.set_cons_zero, List.set_cons_succ]
        refine wpAnyH_ready (rs := [11]) (by kernel_rfl) (by simp) ?_
        refine AllReadyH.cons (o := ⟨some 72, .buildSlice 22 1 #[(0, .tmp 71)], 22, "l14_delta.go:72", #[⟨10, .data⟩], none⟩) rfl (fun K hK => ?_) AllReadyH.nil
        go_simp
        try go_wp2_with fail
        refine hK.out _ _ (HSY.out _ HBA.out) (fun hHeld => ?_)
        clear hK K
        try simp only [Act.put, List.setIfInBounds_toArray, List.set_cons_zero, List.set_cons_succ]
        refine wpAnyH_ready (rs := [12]) (by kernel_rfl) (by simp) ?_
        refine AllReadyH.cons (o := ⟨some 73, .call { callee := .builtin .append, args := #[.tmp 67, .tmp 72], argTypes := #[22, 22] }, 22, "l14_delta.go:72", #[⟨6, .data⟩, ⟨11, .data⟩], none⟩) rfl (fun K hK => ?_) AllReadyH.nil
        refine stepN_any (by rfl) _ _ (by rfl) (base := w.heap.size) (by rfl) HDL.out ⟨w6.heap.size, 0, none⟩ y (by rfl) HDA.out (show (w6.alloc (.cells #[.int .u8 (y.toNat : Int)] 5)).cell? ⟨w6.heap.size, 0, none⟩ = _ by rw [World.cell?_alloc_new]; rfl) HDM.out HBSA.out ?_
        intro g2 c2 w5 hap
        rw [← HZA.out, ← HZD.out] at hap
        obtain ⟨hr5, hf5, hb5, hG5⟩ := row_add HMM.out HROW.out HDN.out HBWA.out hap HBS.out
        simp only [Nat.zero_mul, Nat.zero_add] at hr5 hf5 hb5
        have p3 : w5.cell? ⟨G, 3, none⟩ = some (.slice za dl zc) := (World.cell?_of_block (a := ⟨G, 3, none⟩) hG5).trans c3
        have p3f : w5.frozen? ⟨G, 3, none⟩ = false := (World.frozen?_of_block (a := ⟨G, 3, none⟩) hG5).trans c3f
        have HR5 := Lib.hid hr5
        have HF5 := Lib.hid hf5
        have HB5 := Lib.hid (HBEL.out.trans hb5)
        rw [HDLZ.out] at HR5 HF5 HB5
        have HSY5 : Hid (w5.cell? ⟨nb, i, none⟩ = some (.int .u8 (y.toNat : Int))) := by
          have := HSY.out _ HB5.out
          rwa [World.cell?_setCell_other _ _ _ _ (by simp; intro h; exact absurd h HNGs.out)] at this
        clear hr5 hf5 hb5 hG5
        refine hK.out _ _ HSY5.out (fun hHeld => ?_)
        clear hK K
        try simp only [Act.put, List.setIfInBounds_toArray, List.set_cons_zero, List.set_cons_succ]
        refine wpAnyH_take (i := 13) (oi := ⟨some 74, .indexAddr 26 (.tmp 61) (.tmp 62), 0, "l14_delta.go:72", #[⟨0, .data⟩, ⟨1, .data⟩, ⟨0, .phase⟩, ⟨1, .phase⟩, ⟨2, .phase⟩, ⟨3, .phase⟩, ⟨4, .phase⟩, ⟨5, .phase⟩, ⟨6, .phase⟩, ⟨7, .phase⟩, ⟨8, .phase⟩, ⟨9, .phase⟩, ⟨10, .phase⟩, ⟨11, .phase⟩, ⟨12, .phase⟩], none⟩) (v := ?v25) rfl (by kernel_rfl) (by kernel_rfl) (by kernel_rfl) (fun _ _ _ h => h) (Or.inl ⟨by rfl, ?hy25⟩) (by assumption) ?r25
        case hy25 => (intro w hSw; (try dsimp only at hSw); go_simp; try with_reducible rfl)
        try simp only [Act.put, List.setIfInBounds_toArray, List.set_cons_zero, List.set_cons_succ]
        refine wpAnyH_take (i := 14) (oi := ⟨some 75, .fieldAddr 41 (.tmp 74) 3, 0, "l14_delta.go:72", #[⟨13, .data⟩, ⟨0, .phase⟩, ⟨1, .phase⟩, ⟨2, .phase⟩, ⟨3, .phase⟩, ⟨4, .phase⟩, ⟨5, .phase⟩, ⟨6, .phase⟩, ⟨7, .phase⟩, ⟨8, .phase⟩, ⟨9, .phase⟩, ⟨10, .phase⟩, ⟨11, .phase⟩, ⟨12, .phase⟩], none⟩) (v := ?v26) rfl (by kernel_rfl) (by kernel_rfl) (by kernel_rfl) (fun _ _ _ h => h) (Or.inl ⟨by rfl, ?hy26⟩) (by assumption) ?r26
        case hy26 => (intro w hSw; (try dsimp only at hSw); go_simp; try with_reducible rfl)
        try simp only [Act.put, List.setIfInBounds_toArray, List.set_cons_zero, List.set_cons_succ]
        refine wpAnyH_ready (rs := [15]) (by kernel_rfl) (by simp) ?_
        refine AllReadyH.cons (o := ⟨none, .store 22 (.tmp 75) (.tmp 73), 0, "l14_delta.go:72", #[⟨14, .data⟩, ⟨12, .data⟩, ⟨12, .chain⟩, ⟨0, .phase⟩, ⟨1, .phase⟩, ⟨2, .phase⟩, ⟨3, .phase⟩, ⟨4, .phase⟩, ⟨5, .phase⟩, ⟨6, .phase⟩, ⟨7, .phase⟩, ⟨8, .phase⟩, ⟨9, .phase⟩, ⟨10, .phase⟩, ⟨11, .phase⟩, ⟨12, .phase⟩], none⟩) rfl (fun K hK => ?_) AllReadyH.nil
        go_simp
        try go_wp2_with fail
        refine hK.out _ _ (HSY.out _ HB5.out) (fun hHeld => ?_)
        clear hK K
        try simp only [Act.put, List.setIfInBounds_toArray, List.set_cons_zero, List.set_cons_succ]
        refine wpAnyH_done (by kernel_rfl) ?_ _
        clear hHeld p3 p3f hap c3 c3f
        go_wp2
        go_roundw
        case rel => exact HEND.out g2 c2 _ HR5.out HF5.out HB5.out
        case measure => simp [intOf]; omega
      · go_simp
        try go_wp2_with fail
        refine hK.out _ _ (HSY.out _ HBA.out) (fun hHeld => ?_)
        clear hK K
        try simp only [Act.put, List.setIfInBounds_toArray, List.set_cons_zero, List.set_cons_succ]
        refine wpAnyH_ready (rs := [6]) (by kernel_rfl) (by simp) ?_
        refine AllReadyH.cons (o := ⟨some 67, .load 22 (.tmp 66), 22, "l14_delta.go:72", #[⟨5, .data⟩], none⟩) rfl (fun K hK => ?_) AllReadyH.nil
        go_simp
        try go_wp2_with fail
        refine hK.out _ _ (HSY.out _ HBA.out) (fun hHeld => ?_)
        clear hK K
        try simp only [Act.put, List.setIfInBounds_toArray, List.set_cons_zero, List.set_cons_succ]
        refine wpAnyH_ready (rs := [12]) (by kernel_rfl) (by simp) ?_
        refine AllReadyH.cons (o := ⟨some 73, .call { callee := .builtin .append, args := #[.tmp 67, .tmp 72], argTypes := #[22, 22] }, 22, "l14_delta.go:72", #[⟨6, .data⟩, ⟨11, .data⟩], none⟩) rfl (fun K hK => ?_) AllReadyH.nil
        refine stepN_any (by rfl) _ _ (by rfl) (base := w.heap.size) (by rfl) HDL.out ⟨w6.heap.size, 0, none⟩ y (by rfl) HDA.out (show (w6.alloc (.cells #[.int .u8 (y.toNat : Int)] 5)).cell? ⟨w6.heap.size, 0, none⟩ = _ by rw [World.cell?_alloc_new]; rfl) HDM.out HBSA.out ?_
        intro g2 c2 w5 hap
        rw [← HZA.out, ← HZD.out] at hap
        obtain ⟨hr5, hf5, hb5, hG5⟩ := row_add HMM.out HROW.out HDN.out HBWA.out hap HBS.out
        simp only [Nat.zero_mul, Nat.zero_add] at hr5 hf5 hb5
        have p3 : w5.cell? ⟨G, 3, none⟩ = some (.slice za dl zc) := (World.cell?_of_block (a := ⟨G, 3, none⟩) hG5).trans c3
        have p3f : w5.frozen? ⟨G, 3, none⟩ = false := (World.frozen?_of_block (a := ⟨G, 3, none⟩) hG5).trans c3f
        have HR5 := Lib.hid hr5
        have HF5 := Lib.hid hf5
        have HB5 := Lib.hid (HBEL.out.trans hb5)
        rw [HDLZ.out] at HR5 HF5 HB5
        have HSY5 : Hid (w5.cell? ⟨nb, i, none⟩ = some (.int .u8 (y.toNat : Int))) := by
          have := HSY.out _ HB5.out
          rwa [World.cell?_setCell_other _ _ _ _ (by simp; intro h; exact absurd h HNGs.out)] at this
        clear hr5 hf5 hb5 hG5
        refine hK.out _ _ HSY5.out (fun hHeld => ?_)
        clear hK K
        try simp only [Act.put, List.setIfInBounds_toArray, List.set_cons_zero, List.set_cons_succ]
        refine wpAnyH_take (i := 13) (oi := ⟨some 74, .indexAddr 26 (.tmp 61) (.tmp 62), 0, "l14_delta.go:72", #[⟨0, .data⟩, ⟨1, .data⟩, ⟨0, .phase⟩, ⟨1, .phase⟩, ⟨2, .phase⟩, ⟨3, .phase⟩, ⟨4, .phase⟩, ⟨5, .phase⟩, ⟨6, .phase⟩, ⟨7, .phase⟩, ⟨8, .phase⟩, ⟨9, .phase⟩, ⟨10, .phase⟩, ⟨11, .phase⟩, ⟨12, .phase⟩], none⟩) (v := ?v27) rfl (by kernel_rfl) (by kernel_rfl) (by kernel_rfl) (fun _ _ _ h => h) (Or.inl ⟨by rfl, ?hy27⟩) (by assumption) ?r27
        case hy27 => (intro w hSw; (try dsimp only at hSw); go_simp; try with_reducible rfl)
        try simp only [Act.put, List.setIfInBounds_toArray, List.set_cons_zero, List.set_cons_succ]
        refine wpAnyH_take (i := 14) (oi := ⟨some 75, .fieldAddr 41 (.tmp 74) 3, 0, "l14_delta.go:72", #[⟨13, .data⟩, ⟨0, .phase⟩, ⟨1, .phase⟩, ⟨2, .phase⟩, ⟨3, .phase⟩, ⟨4, .phase⟩, ⟨5, .phase⟩, ⟨6, .phase⟩, ⟨7, .phase⟩, ⟨8, .phase⟩, ⟨9, .phase⟩, ⟨10, .phase⟩, ⟨11, .phase⟩, ⟨12, .phase⟩], none⟩) (v := ?v28) rfl (by kernel_rfl) (by kernel_rfl) (by kernel_rfl) (fun _ _ _ h => h) (Or.inl ⟨by rfl, ?hy28⟩) (by assumption) ?r28
        case hy28 => (intro w hSw; (try dsimp only at hSw); go_simp; try with_reducible rfl)
        try simp only [Act.put, List.setIfInBounds_toArray, List.set_cons_zero, List.set_cons_succ]
        refine wpAnyH_ready (rs := [15]) (by kernel_rfl) (by simp) ?_
        refine AllReadyH.cons (o := ⟨none, .store 22 (.tmp 75) (.tmp 73), 0, "l14_delta.go:72", #[⟨14, .data⟩, ⟨12, .data⟩, ⟨12, .chain⟩, ⟨0, .phase⟩, ⟨1, .phase⟩, ⟨2, .phase⟩, ⟨3, .phase⟩, ⟨4, .phase⟩, ⟨5, .phase⟩, ⟨6, .phase⟩, ⟨7, .phase⟩, ⟨8, .phase⟩, ⟨9, .phase⟩, ⟨10, .phase⟩, ⟨11, .phase⟩, ⟨12, .phase⟩], none⟩) rfl (fun K hK => ?_) AllReadyH.nil
        go_simp
        try go_wp2_with fail
        refine hK.out _ _ (HSY.out _ HB5.out) (fun hHeld => ?_)
        clear hK K
        try simp only [Act.put, List.setIfInBounds_toArray, List.set_cons_zero, List.set_cons_succ]
        refine wpAnyH_done (by kernel_rfl) ?_ _
        clear hHeld p3 p3f hap c3 c3f
        go_wp2
        go_roundw
        case rel => exact HEND.out g2 c2 _ HR5.out HF5.out HB5.out
        case measure => simp [intOf]; omega
    · obtain ⟨z1, rfl⟩ : ∃ z1, zl = z1 + 1 := ⟨zl - 1, by omega⟩
      obtain ⟨zz, hzz⟩ : ∃ zz, zs[z1]? = some zz := ⟨_, List.getElem?_eq_getElem (by omega)⟩
      have hkz : ¬ zz.x.k = 2 := HNK.out zz (by rw [List.getLast?_eq_getElem?, hzlE]; exact hzz)
      obtain ⟨kz, hkzE⟩ : ∃ kz, zz.x.k = kz := ⟨_, rfl⟩
      have hkz' : ¬ kz = 2 := by rw [← hkzE]; exact hkz
      have hkzb : (kz != 2) = true := by simp [hkz']
      have cz : wr.cell? ⟨G, z1 * 4, none⟩ = some (.int .i64 kz) := by have := hrow.cell (j := 0) hzz (by omega); rw [Nat.add_zero] at this; rw [this, ← hkzE]; rfl
      have hz10 : (0 : Int) ≤ (z1 : Int) := by omega
      have hz11 : (0 : Int) ≤ (z1 : Int) + 1 := by omega
      clear hkz hkzE hzz
      clear hrow hlb hld hmk hbel hq hyd HFD1 hzl hzlE hsy hcap hlast
      go_wp2_with (first | (go_at_call 29; refine HFD2.out.mono ?_; rintro e w1 ⟨rfl, hl1⟩; refine Hid.out ?_) | go_in)
      refine Lib.hid ?_
      obtain ⟨W5, hW5⟩ : ∃ W5 : World, w1.alloc (.cells #[.int .i64 2, .int .i64 0, .int .i64 0, .slice none 0 0] 41) = W5 := ⟨_, rfl⟩
      have HW5 : Hid (w1.alloc (.cells #[.int .i64 2, .int .i64 0, .int .i64 0, .slice none 0 0] 41) = W5) := hW5
      have hb5 : Below w1.heap.size w1 W5 := by rw [← hW5]; exact (Below.refl _ _).alloc (Nat.le_refl _) _
      have hbr5 : Below wr.heap.size wr W5 := hl1.trans (hb5.mono hl1.size)
      have HNEW : Hid (∀ j u, (szV ⟨⟨2, 0, 0, []⟩, none, 0⟩)[j]? = some u → W5.cell? ((⟨w1.heap.size, 0, none⟩ : Addr).add j) = some u) := by
        intro j u hj
        rw [← hW5]
        exact szV_at w1 ⟨⟨2, 0, 0, []⟩, none, 0⟩ 41 j u hj
      have HB5 : Hid (Below w.heap.size w W5) := HBE.out.trans (hbr5.mono HBE.out.size)
      have HBS5 : Hid (w.heap.size ≤ W5.heap.size) := HB5.out.size
      have HRS : Hid (RowS w.heap.size W5 (.slice (some ⟨G, 0, none⟩) zs.length vc) zs) := HRW.out.below hbr5
      have HOWN : Hid (W5.ownsRow w.heap.size 41 4 (.slice (some ⟨G, 0, none⟩) (z1 + 1) vc) (z1 + 1) (szC zs)) := by
        have := HRS.out.own
        rwa [HZL.out] at this
      have cz1 : w1.cell? ⟨G, z1 * 4, none⟩ = some (.int .i64 kz) := (hl1.cell (p := ⟨G, z1 * 4, none⟩) hGl).trans cz
      have hcl1 : (z1 + 1) + 1 ≤ maxLen := by unfold maxLen; omega
      have hcl2 : ((z1 + 1) + 1) * 48 ≤ 140737488355328 := by omega
      clear hW5 hb5 hbr5 hl1
      go_wp2_with (first
        | (at_builtin; rw [HW5.out]; refine app_ownS _ rfl _ _ 26 rfl w.heap.size 41 (.agg #[.int .i64 0, .int .i64 0, .int .i64 0, .slice none 0 0]) 4 48 Try.underlying26 infoSt rfl (by decide) (.slice (some ⟨G, 0, none⟩) (z1 + 1) vc) (z1 + 1) (szC zs) rfl HOWN.out ⟨w1.heap.size, 0, none⟩ 1 1 (szV ⟨⟨2, 0, 0, []⟩, none, 0⟩) rfl rfl HNEW.out (szV_one _) hcl1 hcl2 HBS5.out ?_; intro v6 w6 hown6 hg6; refine Hid.out ?_)
        | go_in)
      refine Lib.hid ?_
      have hr6 : RowS w.heap.size w6 v6 (zs ++ [(⟨⟨2, 0, 0, []⟩, none, 0⟩ : Sz)]) := RowS.push HRS.out (by rw [HZL.out]; exact hown6) (by rw [HZL.out]; exact hg6) (fun h => absurd rfl h)
      have HBEL : Hid (Below w.heap.size w w6) := HB5.out.grown hg6 HBS5.out (fun k hk => (HOWN.out.lt k hk).1)
      have HBS : Hid (w.heap.size ≤ w6.heap.size) := HBEL.out.size
      obtain ⟨G6, cap6, hv6, _⟩ := hr6.shape
      rw [show (zs ++ [(⟨⟨2, 0, 0, []⟩, none, 0⟩ : Sz)]).length = (z1 + 1) + 1 by rw [List.length_append, HZL.out]; rfl] at hv6
      subst hv6
      have HROW : Hid (RowS w.heap.size w6 (.slice (some ⟨G6, 0, none⟩) (zs ++ [(⟨⟨2, 0, 0, []⟩, none, 0⟩ : Sz)]).length cap6) (zs ++ [(⟨⟨2, 0, 0, []⟩, none, 0⟩ : Sz)])) := by rw [show (zs ++ [(⟨⟨2, 0, 0, []⟩, none, 0⟩ : Sz)]).length = (z1 + 1) + 1 by rw [List.length_append, HZL.out]; rfl]; exact hr6
      obtain ⟨z, hz⟩ : ∃ z : Sz, z = ⟨⟨2, 0, 0, []⟩, none, 0⟩ := ⟨_, rfl⟩
      rw [← hz] at HROW
      have HMM : Hid (zs.length = (z1 + 1)) := HZL.out
      have HDN : Hid (DatN w.heap.size w6 z.a z.c z.x.d) := by rw [hz]; exact .inl ⟨rfl, rfl, rfl⟩
      have hzi : (zs ++ [z])[(z1 + 1)]? = some z := by rw [← HMM.out, List.getElem?_append_right (Nat.le_refl _), Nat.sub_self]; rfl
      obtain ⟨za, hzaE⟩ : ∃ za, z.a = za := ⟨_, rfl⟩
      obtain ⟨zc, hzcE⟩ : ∃ zc, z.c = zc := ⟨_, rfl⟩
      obtain ⟨D, hDE⟩ : ∃ D, z.x.d = D := ⟨_, rfl⟩
      obtain ⟨dl, hdlE⟩ : ∃ dl, D.length = dl := ⟨_, rfl⟩
      have HDL : Hid (D.length = dl) := hdlE
      have HDLZ : Hid (z.x.d.length = dl) := by show _ = _; rw [hDE, hdlE]
      have HDM : Hid (dl ≤ 1048576) := by show _ ≤ _; rw [← hdlE, ← hDE, hz]; simp
      have HZA : Hid (z.a = za) := hzaE
      have HZD : Hid (z.x.d = D) := hDE
      have HDNZ : Hid (DatN w.heap.size w6 za zc D) := by rw [← hzaE, ← hzcE, ← hDE]; exact HDN.out
      have c3 : w6.cell? ⟨G6, (z1 + 1) * 4 + 3, none⟩ = some (.slice za dl zc) := by
        have := HROW.out.cell (j := 3) hzi (by omega)
        skip
        rw [this]; unfold szV; rw [hzaE, hzcE, hDE, hdlE]; rfl
      have c3f : w6.frozen? ⟨G6, (z1 + 1) * 4 + 3, none⟩ = false := HROW.out.own.frozenAt _
      have hG6b : w.heap.size ≤ G6 := (HROW.out.own.lt G6 rfl).1
      have HADD : Hid (xs zs ++ [⟨2, 0, 0, [y]⟩] = addB (xs zs) y) := addB_new HNK.out
      have HEND : Hid (∀ g2 c2 w', RowS w.heap.size w' (.slice (some ⟨G6, 0, none⟩) ((z1 + 1) + 1) cap6) (zs ++ [⟨⟨z.x.k, z.x.p, z.x.n, z.x.d ++ [y]⟩, some ⟨g2, 0, none⟩, c2⟩]) → Bf w.heap.size w' g2 c2 (z.x.d ++ [y]) → Below w.heap.size w w' → ∃ i' : Nat, Value.int .i64 ((i : Int) + 1) = .int .i64 (i' : Int) ∧ SI nn old fresh R w (.slice (some ⟨G6, 0, none⟩) ((z1 + 1) + 1) cap6) w' i') := fun g2 c2 w' h1 h2 h3 => by
        refine ⟨i + 1, by go_num, si_add h1 h2 (by first | exact HND.out | exact fun z' hz' => HND.out z' (List.mem_append_left _ hz')) HMM.out ?_ HLD.out (by omega) hil h32 hsml HMK.out h3⟩
        rw [← HADD.out, xs_app, hz]
        rfl
      have HNGs6 : Hid (¬ G6 = nb) := by have := HNB.out; show ¬ _; omega
      clear HNGs HNG hGl hGb
      obtain ⟨G, rfl⟩ : ∃ G', G' = G6 := ⟨_, rfl⟩
      have HNGs : Hid (¬ G = nb) := HNGs6.out
      clear hr6 hown6 hg6 hzaE hzcE hDE hdlE hzi HMK HLB HLD HRW HZL hsml HFD2 HADD HNEW HRS HOWN hz
      have HBD : Hid (Below w.heap.size w w6.drew) := HBEL.out.drew
      have HBA : Hid (Below w.heap.size w (w6.alloc (.cells #[.int .u8 (y.toNat : Int)] 5)).drew) := (HBEL.out.alloc HBEL.out.size _).drew
      have HBWA : Hid (Below w6.heap.size w6 (w6.alloc (.cells #[.int .u8 (y.toNat : Int)] 5)).drew) := ((Below.refl _ _).alloc (Nat.le_refl _) _).drew
      have HBSA : Hid (w.heap.size ≤ (w6.alloc (.cells #[.int .u8 (y.toNat : Int)] 5)).drew.heap.size) := HBA.out.size
      have HDA : Hid (DatN w.heap.size (w6.alloc (.cells #[.int .u8 (y.toNat : Int)] 5)).drew za zc D) := HDNZ.out.below HBWA.out
      have c3a : (w6.alloc (.cells #[.int .u8 (y.toNat : Int)] 5)).cell? ⟨G, (z1 + 1) * 4 + 3, none⟩ = some (.slice za dl zc) := (((Below.refl _ _).alloc (Nat.le_refl _) _).cell (p := ⟨G, (z1 + 1) * 4 + 3, none⟩) (World.block_lt_of_cell? _ _ c3)).trans c3
      go_wp2_with fail
      refine wp_region_held_drew (S := (fun X => X.cell? ⟨nb, i, none⟩ = some (.int .u8 (y.toNat : Int)))) (by kernel_rfl) (HSY.out _ HBD.out) (fun hHeld => ?_)
      refine wpAnyH_take (i := 0) (oi := ⟨some 61, .move (.tmp 5), 26, "l14_delta.go:72", #[], none⟩) (v := ?v29) rfl (by kernel_rfl) (by kernel_rfl) (by kernel_rfl) (fun _ _ _ h => h) (Or.inl ⟨by rfl, ?hy29⟩) (by assumption) ?r29
      case hy29 => (intro w hSw; (try dsimp only at hSw); go_simp; try with_reducible rfl)
      try simp only [Act.put, List.setIfInBounds_toArray, List.set_cons_zero, List.set_cons_succ]
      refine wpAnyH_take (i := 1) (oi := ⟨some 62, .move (.tmp 9), 3, "l14_delta.go:72", #[], none⟩) (v := ?v30) rfl (by kernel_rfl) (by kernel_rfl) (by kernel_rfl) (fun _ _ _ h => h) (Or.inl ⟨by rfl, ?hy30⟩) (by assumption) ?r30
      case hy30 => (intro w hSw; (try dsimp only at hSw); go_simp; try with_reducible rfl)
      try simp only [Act.put, List.setIfInBounds_toArray, List.set_cons_zero, List.set_cons_succ]
      refine wpAnyH_take (i := 2) (oi := ⟨some 63, .move (.tmp 5), 26, "l14_delta.go:72", #[], none⟩) (v := ?v31) rfl (by kernel_rfl) (by kernel_rfl) (by kernel_rfl) (fun _ _ _ h => h) (Or.inl ⟨by rfl, ?hy31⟩) (by assumption) ?r31
      case hy31 => (intro w hSw; (try dsimp only at hSw); go_simp; try with_reducible rfl)
      try simp only [Act.put, List.setIfInBounds_toArray, List.set_cons_zero, List.set_cons_succ]
      refine wpAnyH_take (i := 3) (oi := ⟨some 64, .move (.tmp 9), 3, "l14_delta.go:72", #[], none⟩) (v := ?v32) rfl (by kernel_rfl) (by kernel_rfl) (by kernel_rfl) (fun _ _ _ h => h) (Or.inl ⟨by rfl, ?hy32⟩) (by assumption) ?r32
      case hy32 => (intro w hSw; (try dsimp only at hSw); go_simp; try with_reducible rfl)
      try simp only [Act.put, List.setIfInBounds_toArray, List.set_cons_zero, List.set_cons_succ]
      refine wpAnyH_take (i := 4) (oi := ⟨some 65, .indexAddr 26 (.tmp 63) (.tmp 64), 0, "l14_delta.go:72", #[⟨2, .data⟩, ⟨3, .data⟩], none⟩) (v := ?v33) rfl (by kernel_rfl) (by kernel_rfl) (by kernel_rfl) (fun _ _ _ h => h) (Or.inl ⟨by rfl, ?hy33⟩) (by assumption) ?r33
      case hy33 => (intro w hSw; (try dsimp only at hSw); go_simp; try with_reducible rfl)
      try simp only [Act.put, List.setIfInBounds_toArray, List.set_cons_zero, List.set_cons_succ]
      refine wpAnyH_take (i := 5) (oi := ⟨some 66, .fieldAddr 41 (.tmp 65) 3, 0, "l14_delta.go:72", #[⟨4, .data⟩], none⟩) (v := ?v34) rfl (by kernel_rfl) (by kernel_rfl) (by kernel_rfl) (fun _ _ _ h => h) (Or.inl ⟨by rfl, ?hy34⟩) (by assumption) ?r34
      case hy34 => (intro w hSw; (try dsimp only at hSw); go_simp; try with_reducible rfl)
      try simp only [Act.put, List.setIfInBounds_toArray, List.set_cons_zero, List.set_cons_succ]
      refine wpAnyH_take (i := 7) (oi := ⟨some 68, .move (.tmp 1), 22, "l14_delta.go:72", #[], none⟩) (v := ?v35) rfl (by kernel_rfl) (by kernel_rfl) (by kernel_rfl) (fun _ _ _ h => h) (Or.inl ⟨by rfl, ?hy35⟩) (by assumption) ?r35
      case hy35 => (intro w hSw; (try dsimp only at hSw); go_simp; try with_reducible rfl)
      try simp only [Act.put, List.setIfInBounds_toArray, List.set_cons_zero, List.set_cons_succ]
      refine wpAnyH_take (i := 8) (oi := ⟨some 69, .move (.tmp 6), 3, "l14_delta.go:72", #[], none⟩) (v := ?v36) rfl (by kernel_rfl) (by kernel_rfl) (by kernel_rfl) (fun _ _ _ h => h) (Or.inl ⟨by rfl, ?hy36⟩) (by assumption) ?r36
      case hy36 => (intro w hSw; (try dsimp only at hSw); go_simp; try with_reducible rfl)
      try simp only [Act.put, List.setIfInBounds_toArray, List.set_cons_zero, List.set_cons_succ]
      refine wpAnyH_take (i := 9) (oi := ⟨some 70, .indexAddr 22 (.tmp 68) (.tmp 69), 0, "l14_delta.go:72", #[⟨7, .data⟩, ⟨8, .data⟩], none⟩) (v := ?v37) rfl (by kernel_rfl) (by kernel_rfl) (by kernel_rfl) (fun _ _ _ h => h) (Or.inl ⟨by rfl, ?hy37⟩) (by assumption) ?r37
      case hy37 => (intro w hSw; (try dsimp only at hSw); go_simp; try with_reducible rfl)
      try simp only [Act.put, List.setIfInBounds_toArray, List.set_cons_zero, List.set_cons_succ]
      refine wpAnyH_take (i := 10) (oi := ⟨some 71, .load 5 (.tmp 70), 5, "l14_delta.go:72", #[⟨9, .data⟩], none⟩) (v := ?v38) rfl (by kernel_rfl) (by kernel_rfl) (by kernel_rfl) (fun _ _ _ h => h) (Or.inl ⟨by rfl, ?hy38⟩) (by assumption) ?r38
      case hy38 => (intro w hSw; (try dsimp only at hSw); go_simp; try with_reducible rfl)
      try simp only [Act.put, List.setIfInBounds_toArray, List.set_cons_zero, List.set_cons_succ]
      refine wpAnyH_ready (rs := [6, 11]) (by kernel_rfl) (by simp) ?_
      refine AllReadyH.cons (o := ⟨some 67, .load 22 (.tmp 66), 22, "l14_delta.go:72", #[⟨5, .data⟩], none⟩) rfl (fun K hK => ?_) (AllReadyH.cons (o := ⟨some 72, .buildSlice 22 1 #[(0, .tmp 71)], 22, "l14_delta.go:72", #[⟨10, .data⟩], none⟩) rfl (fun K hK => ?_) AllReadyH.nil)
      · go_simp
        try go_wp2_with fail
        refine hK.out _ _ (HSY.out _ HBD.out) (fun hHeld => ?_)
        clear hK K
        try simp only [Act.put, List.setIfInBounds_toArray, List.set_cons_zero, List.set_cons_succ]
        refine wpAnyH_ready (rs := [11]) (by kernel_rfl) (by simp) ?_
        refine AllReadyH.cons (o := ⟨some 72, .buildSlice 22 1 #[(0, .tmp 71)], 22, "l14_delta.go:72", #[⟨10, .data⟩], none⟩) rfl (fun K hK => ?_) AllReadyH.nil
        go_simp
        try go_wp2_with fail
        refine hK.out _ _ (HSY.out _ HBA.out) (fun hHeld => ?_)
        clear hK K
        try simp only [Act.put, List.setIfInBounds_toArray, List.set_cons_zero, List.set_cons_succ]
        refine wpAnyH_ready (rs := [12]) (by kernel_rfl) (by simp) ?_
        refine AllReadyH.cons (o := ⟨some 73, .call { callee := .builtin .append, args := #[.tmp 67, .tmp 72], argTypes := #[22, 22] }, 22, "l14_delta.go:72", #[⟨6, .data⟩, ⟨11, .data⟩], none⟩) rfl (fun K hK => ?_) AllReadyH.nil
        refine stepN_any (by rfl) _ _ (by rfl) (base := w.heap.size) (by rfl) HDL.out ⟨w6.heap.size, 0, none⟩ y (by rfl) HDA.out (show (w6.alloc (.cells #[.int .u8 (y.toNat : Int)] 5)).cell? ⟨w6.heap.size, 0, none⟩ = _ by rw [World.cell?_alloc_new]; rfl) HDM.out HBSA.out ?_
        intro g2 c2 w5 hap
        rw [← HZA.out, ← HZD.out] at hap
        obtain ⟨hr5, hf5, hb5, hG5⟩ := row_add HMM.out HROW.out HDN.out HBWA.out hap HBS.out
        skip
        have p3 : w5.cell? ⟨G, (z1 + 1) * 4 + 3, none⟩ = some (.slice za dl zc) := (World.cell?_of_block (a := ⟨G, (z1 + 1) * 4 + 3, none⟩) hG5).trans c3
        have p3f : w5.frozen? ⟨G, (z1 + 1) * 4 + 3, none⟩ = false := (World.frozen?_of_block (a := ⟨G, (z1 + 1) * 4 + 3, none⟩) hG5).trans c3f
        have HR5 := Lib.hid hr5
        have HF5 := Lib.hid hf5
        have HB5 := Lib.hid (HBEL.out.trans hb5)
        rw [HDLZ.out] at HR5 HF5 HB5
        have HSY5 : Hid (w5.cell? ⟨nb, i, none⟩ = some (.int .u8 (y.toNat : Int))) := by
          have := HSY.out _ HB5.out
          rwa [World.cell?_setCell_other _ _ _ _ (by simp; intro h; exact absurd h HNGs.out)] at this
        clear hr5 hf5 hb5 hG5
        refine hK.out _ _ HSY5.out (fun hHeld => ?_)
        clear hK K
        try simp only [Act.put, List.setIfInBounds_toArray, List.set_cons_zero, List.set_cons_succ]
        refine wpAnyH_take (i := 13) (oi := ⟨some 74, .indexAddr 26 (.tmp 61) (.tmp 62), 0, "l14_delta.go:72", #[⟨0, .data⟩, ⟨1, .data⟩, ⟨0, .phase⟩, ⟨1, .phase⟩, ⟨2, .phase⟩, ⟨3, .phase⟩, ⟨4, .phase⟩, ⟨5, .phase⟩, ⟨6, .phase⟩, ⟨7, .phase⟩, ⟨8, .phase⟩, ⟨9, .phase⟩, ⟨10, .phase⟩, ⟨11, .phase⟩, ⟨12, .phase⟩], none⟩) (v := ?v39) rfl (by kernel_rfl) (by kernel_rfl) (by kernel_rfl) (fun _ _ _ h => h) (Or.inl ⟨by rfl, ?hy39⟩) (by assumption) ?r39
        case hy39 => (intro w hSw; (try dsimp only at hSw); go_simp; try with_reducible rfl)
        try simp only [Act.put, List.setIfInBounds_toArray, List.set_cons_zero, List.set_cons_succ]
        refine wpAnyH_take (i := 14) (oi := ⟨some 75, .fieldAddr 41 (.tmp 74) 3, 0, "l14_delta.go:72", #[⟨13, .data⟩, ⟨0, .phase⟩, ⟨1, .phase⟩, ⟨2, .phase⟩, ⟨3, .phase⟩, ⟨4, .phase⟩, ⟨5, .phase⟩, ⟨6, .phase⟩, ⟨7, .phase⟩, ⟨8, .phase⟩, ⟨9, .phase⟩, ⟨10, .phase⟩, ⟨11, .phase⟩, ⟨12, .phase⟩], none⟩) (v := ?v40) rfl (by kernel_rfl) (by kernel_rfl) (by kernel_rfl) (fun _ _ _ h => h) (Or.inl ⟨by rfl, ?hy40⟩) (by assumption) ?r40
        case hy40 => (intro w hSw; (try dsimp only at hSw); go_simp; try with_reducible rfl)
        try simp only [Act.put, List.setIfInBounds_toArray, List.set_cons_zero, List.set_cons_succ]
        refine wpAnyH_ready (rs := [15]) (by kernel_rfl) (by simp) ?_
        refine AllReadyH.cons (o := ⟨none, .store 22 (.tmp 75) (.tmp 73), 0, "l14_delta.go:72", #[⟨14, .data⟩, ⟨12, .data⟩, ⟨12, .chain⟩, ⟨0, .phase⟩, ⟨1, .phase⟩, ⟨2, .phase⟩, ⟨3, .phase⟩, ⟨4, .phase⟩, ⟨5, .phase⟩, ⟨6, .phase⟩, ⟨7, .phase⟩, ⟨8, .phase⟩, ⟨9, .phase⟩, ⟨10, .phase⟩, ⟨11, .phase⟩, ⟨12, .phase⟩], none⟩) rfl (fun K hK => ?_) AllReadyH.nil
        go_simp
        try go_wp2_with fail
        refine hK.out _ _ (HSY.out _ HB5.out) (fun hHeld => ?_)
        clear hK K
        try simp only [Act.put, List.setIfInBounds_toArray, List.set_cons_zero, List.set_cons_succ]
        refine wpAnyH_done (by kernel_rfl) ?_ _
        clear hHeld p3 p3f hap c3 c3f
        go_wp2
        go_roundw
        case rel => exact HEND.out g2 c2 _ HR5.out HF5.out HB5.out
        case measure => simp [intOf]; omega
      · go_simp
        try go_wp2_with fail
        refine hK.out _ _ (HSY.out _ HBA.out) (fun hHeld => ?_)
        clear hK K
        try simp only [Act.put, List.setIfInBounds_toArray, List.set_cons_zero, List.set_cons_succ]
        refine wpAnyH_ready (rs := [6]) (by kernel_rfl) (by simp) ?_
        refine AllReadyH.cons (o := ⟨some 67, .load 22 (.tmp 66), 22, "l14_delta.go:72", #[⟨5, .data⟩], none⟩) rfl (fun K hK => ?_) AllReadyH.nil
        go_simp
        try go_wp2_with fail
        refine hK.out _ _ (HSY.out _ HBA.out) (fun hHeld => ?_)
        clear hK K
        try simp only [Act.put, List.setIfInBounds_toArray, List.set_cons_zero, List.set_cons_succ]
        refine wpAnyH_ready (rs := [12]) (by kernel_rfl) (by simp) ?_
        refine AllReadyH.cons (o := ⟨some 73, .call { callee := .builtin .append, args := #[.tmp 67, .tmp 72], argTypes := #[22, 22] }, 22, "l14_delta.go:72", #[⟨6, .data⟩, ⟨11, .data⟩], none⟩) rfl (fun K hK => ?_) AllReadyH.nil
        refine stepN_any (by rfl) _ _ (by rfl) (base := w.heap.size) (by rfl) HDL.out ⟨w6.heap.size, 0, none⟩ y (by rfl) HDA.out (show (w6.alloc (.cells #[.int .u8 (y.toNat : Int)] 5)).cell? ⟨w6.heap.size, 0, none⟩ = _ by rw [World.cell?_alloc_new]; rfl) HDM.out HBSA.out ?_
        intro g2 c2 w5 hap
        rw [← HZA.out, ← HZD.out] at hap
        obtain ⟨hr5, hf5, hb5, hG5⟩ := row_add HMM.out HROW.out HDN.out HBWA.out hap HBS.out
        skip
        have p3 : w5.cell? ⟨G, (z1 + 1) * 4 + 3, none⟩ = some (.slice za dl zc) := (World.cell?_of_block (a := ⟨G, (z1 + 1) * 4 + 3, none⟩) hG5).trans c3
        have p3f : w5.frozen? ⟨G, (z1 + 1) * 4 + 3, none⟩ = false := (World.frozen?_of_block (a := ⟨G, (z1 + 1) * 4 + 3, none⟩) hG5).trans c3f
        have HR5 := Lib.hid hr5
        have HF5 := Lib.hid hf5
        have HB5 := Lib.hid (HBEL.out.trans hb5)
        rw [HDLZ.out] at HR5 HF5 HB5
        have HSY5 : Hid (w5.cell? ⟨nb, i, none⟩ = some (.int .u8 (y.toNat : Int))) := by
          have := HSY.out _ HB5.out
          rwa [World.cell?_setCell_other _ _ _ _ (by simp; intro h; exact absurd h HNGs.out)] at this
        clear hr5 hf5 hb5 hG5
        refine hK.out _ _ HSY5.out (fun hHeld => ?_)
        clear hK K
        try simp only [Act.put, List.setIfInBounds_toArray, List.set_cons_zero, List.set_cons_succ]
        refine wpAnyH_take (i := 13) (oi := ⟨some 74, .indexAddr 26 (.tmp 61) (.tmp 62), 0, "l14_delta.go:72", #[⟨0, .data⟩, ⟨1, .data⟩, ⟨0, .phase⟩, ⟨1, .phase⟩, ⟨2, .phase⟩, ⟨3, .phase⟩, ⟨4, .phase⟩, ⟨5, .phase⟩, ⟨6, .phase⟩, ⟨7, .phase⟩, ⟨8, .phase⟩, ⟨9, .phase⟩, ⟨10, .phase⟩, ⟨11, .phase⟩, ⟨12, .phase⟩], none⟩) (v := ?v41) rfl (by kernel_rfl) (by kernel_rfl) (by kernel_rfl) (fun _ _ _ h => h) (Or.inl ⟨by rfl, ?hy41⟩) (by assumption) ?r41
        case hy41 => (intro w hSw; (try dsimp only at hSw); go_simp; try with_reducible rfl)
        try simp only [Act.put, List.setIfInBounds_toArray, List.set_cons_zero, List.set_cons_succ]
        refine wpAnyH_take (i := 14) (oi := ⟨some 75, .fieldAddr 41 (.tmp 74) 3, 0, "l14_delta.go:72", #[⟨13, .data⟩, ⟨0, .phase⟩, ⟨1, .phase⟩, ⟨2, .phase⟩, ⟨3, .phase⟩, ⟨4, .phase⟩, ⟨5, .phase⟩, ⟨6, .phase⟩, ⟨7, .phase⟩, ⟨8, .phase⟩, ⟨9, .phase⟩, ⟨10, .phase⟩, ⟨11, .phase⟩, ⟨12, .phase⟩], none⟩) (v := ?v42) rfl (by kernel_rfl) (by kernel_rfl) (by kernel_rfl) (fun _ _ _ h => h) (Or.inl ⟨by rfl, ?hy42⟩) (by assumption) ?r42
        case hy42 => (intro w hSw; (try dsimp only at hSw); go_simp; try with_reducible rfl)
        try simp only [Act.put, List.setIfInBounds_toArray, List.set_cons_zero, List.set_cons_succ]
        refine wpAnyH_ready (rs := [15]) (by kernel_rfl) (by simp) ?_
        refine AllReadyH.cons (o := ⟨none, .store 22 (.tmp 75) (.tmp 73), 0, "l14_delta.go:72", #[⟨14, .data⟩, ⟨12, .data⟩, ⟨12, .chain⟩, ⟨0, .phase⟩, ⟨1, .phase⟩, ⟨2, .phase⟩, ⟨3, .phase⟩, ⟨4, .phase⟩, ⟨5, .phase⟩, ⟨6, .phase⟩, ⟨7, .phase⟩, ⟨8, .phase⟩, ⟨9, .phase⟩, ⟨10, .phase⟩, ⟨11, .phase⟩, ⟨12, .phase⟩], none⟩) rfl (fun K hK => ?_) AllReadyH.nil
        go_simp
        try go_wp2_with fail
        refine hK.out _ _ (HSY.out _ HB5.out) (fun hHeld => ?_)
        clear hK K
        try simp only [Act.put, List.setIfInBounds_toArray, List.set_cons_zero, List.set_cons_succ]
        refine wpAnyH_done (by kernel_rfl) ?_ _
        clear hHeld p3 p3f hap c3 c3f
        go_wp2
        go_roundw
        case rel => exact HEND.out g2 c2 _ HR5.out HF5.out HB5.out
        case measure => simp [intOf]; omega

end Go.Proofs.Ytogakignaaoklaa.dl
