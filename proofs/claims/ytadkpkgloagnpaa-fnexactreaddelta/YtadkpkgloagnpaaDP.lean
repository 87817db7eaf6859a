import Derived.Test.YtadkpkgloagnpaaDD
namespace Go.Proofs.Ytadkpkgloagnpaa.dl
open Go.ChangeShapes Go.WideShapes Go.ChangeAt Go.RowKit Go.Deep
open bf (Bf Ap num)
set_option linter.unusedVariables false
set_option linter.unusedSimpArgs false

/-! ### What a delta makes of old bytes: the model; spec.ApplyDelta -/

def pc (old : List UInt8) (x : Sp) : List UInt8 := if x.k = 1 then (old.drop x.p.toNat).take x.n.toNat else x.d
def fits (old : List UInt8) (x : Sp) : Bool := if x.k = 1 then decide (x.p + x.n ≤ (old.length : Int)) else true
def pcL (old : List UInt8) (ss : List Sp) (k : Nat) : List UInt8 := ((ss.take k).map (pc old)).flatten
def adOk (old : List UInt8) (ss : List Sp) : Bool := okL ss && ss.all (fits old) && decide ((pcL old ss ss.length).length ≤ 1000000)
def adB (old : List UInt8) (ss : List Sp) : List UInt8 := if adOk old ss = true then pcL old ss ss.length else []

theorem pcL_succ {old : List UInt8} {ss : List Sp} {k : Nat} {x : Sp} (h : ss[k]? = some x) : pcL old ss (k + 1) = pcL old ss k ++ pc old x := by
  unfold pcL
  rw [List.take_add_one, h]
  simp
theorem pcL_mono (old : List UInt8) (ss : List Sp) {j : Nat} : ∀ d, (pcL old ss j).length ≤ (pcL old ss (j + d)).length
  | 0 => Nat.le_refl _
  | d + 1 => by
    refine Nat.le_trans (pcL_mono old ss d) ?_
    cases hx : ss[j + d]? with
    | none =>
      have : pcL old ss (j + (d + 1)) = pcL old ss (j + d) := by unfold pcL; rw [← Nat.add_assoc, List.take_add_one, hx]; simp
      rw [this]; exact Nat.le_refl _
    | some x => rw [← Nat.add_assoc, pcL_succ hx, List.length_append]; omega
theorem adOk_iff {old : List UInt8} {ss : List Sp} : adOk old ss = true ↔ ss.length ≤ 10000 ∧ (∀ x ∈ ss, okS x = true ∧ fits old x = true) ∧ (pcL old ss ss.length).length ≤ 1000000 := by
  unfold adOk okL
  rw [Bool.and_eq_true, Bool.and_eq_true, Bool.and_eq_true, decide_eq_true_iff, decide_eq_true_iff, allOk_iff, List.all_eq_true]
  constructor
  · rintro ⟨⟨⟨h1, h2⟩, h3⟩, h4⟩
    exact ⟨h1, fun x hx => ⟨h2 x hx, h3 x hx⟩, h4⟩
  · rintro ⟨h1, h2, h4⟩
    exact ⟨⟨⟨h1, fun x hx => (h2 x hx).1⟩, fun x hx => (h2 x hx).2⟩, h4⟩
theorem adOk_no {old : List UInt8} {ss : List Sp} (h : ¬ (ss.length ≤ 10000 ∧ (∀ x ∈ ss, okS x = true ∧ fits old x = true) ∧ (pcL old ss ss.length).length ≤ 1000000)) : adOk old ss = false := by
  cases hc : adOk old ss with
  | false => rfl
  | true => exact absurd (adOk_iff.1 hc) h
theorem adOk_big {old : List UInt8} {ss : List Sp} {i : Nat} (hi : i ≤ ss.length) (h : ¬ (pcL old ss i).length ≤ 1000000) : adOk old ss = false := adOk_no fun ⟨_, _, h4⟩ => by
  have := pcL_mono old ss (j := i) (ss.length - i)
  rw [show i + (ss.length - i) = ss.length by omega] at this
  omega
theorem adB_no {old : List UInt8} {ss : List Sp} (h : adOk old ss = false) : adB old ss = [] := by unfold adB; rw [if_neg (by rw [h]; simp)]
theorem adB_yes {old : List UInt8} {ss : List Sp} (h : adOk old ss = true) : adB old ss = pcL old ss ss.length := by unfold adB; rw [if_pos h]

/-- Bytes in a row from its beginning on. -/
def By (w : World) (g : Nat) (l : List UInt8) : Prop := ∀ j (h : j < l.length), w.cell? ⟨g, j, none⟩ = some (.int .u8 (l[j].toNat : Int))
theorem By.below {w w' : World} {g : Nat} {l : List UInt8} (h : By w g l) (hg : g < w.heap.size) (hb : Below w.heap.size w w') : By w' g l := fun j hj => (hb.cell (p := ⟨g, j, none⟩) hg).trans (h j hj)
theorem part_at {w : World} {g : Nat} {l : List UInt8} (h : By w g l) (p n : Nat) (hn : p + n ≤ l.length) : ∀ j u, (bf.byteVals ((l.drop p).take n))[j]? = some u → w.cell? ((⟨g, p, none⟩ : Addr).add j) = some u := fun j u hj => by
  obtain ⟨hj', rfl⟩ := bf.byteVals_get hj
  have hj2 : j < n := by rw [List.length_take, List.length_drop] at hj'; omega
  rw [addr_add, h (p + j) (by omega), List.getElem_take, List.getElem_drop]
theorem part_len {l : List UInt8} {p n : Nat} (hn : p + n ≤ l.length) : ((l.drop p).take n).length = n := by rw [List.length_take, List.length_drop]; omega

/-- What is handed back: bytes, and whether. -/
def Ans (w w' : World) (l : List UInt8) (ok : Bool) (e : Ending) : Prop := ∃ g c z, e = .returned (.tuple #[.slice (some ⟨g, 0, none⟩) z c, .bool ok]) ∧ Bys w w' l g c z
theorem ans_no {w w' : World} {old : List UInt8} {ss : List Sp} (h : adOk old ss = false) (hb : Below w.heap.size w w') {g : Nat} (hg : w.heap.size ≤ g) (hl : g < w'.heap.size) : Ans w w' (adB old ss) (adOk old ss) (.returned (.tuple #[.slice (some ⟨g, 0, none⟩) 0 0, .bool false])) := by
  rw [adB_no h, h]
  exact ⟨g, 0, 0, rfl, rfl, hg, hl, fun j hj => by simp at hj, fun j hj => by omega, Nat.le_refl _, by unfold maxLen; omega⟩

set_option maxHeartbeats 4000000 in
set_option maxRecDepth 100000 in
theorem sad_any (ob b o c : Nat) (old : List UInt8) (ss : List Sp) (w : World) (hold : By w ob old) (hob : ob < w.heap.size) (hol : old.length ≤ 1048576) (hb : Rd w b o ss) (hw : wt ss ≤ 1048576) (on : Nat) (hon : old.length = on) :
    Calls Try.prog 9 #[.slice (some ⟨ob, 0, none⟩) on on, .slice (some ⟨b, o, none⟩) ss.length c] w fun e w' => Ans w w' (adB old ss) (adOk old ss) e ∧ Below w.heap.size w w' := by
  have hn : ss.length ≤ 1048576 := Nat.le_trans (wt_len ss) hw
  have HD : Hid (∀ x ∈ ss, x.d.length ≤ 1048576) := fun x hx => Nat.le_trans (wt_d hx) hw
  have HB : Hid (Rd w b o ss) := hb
  have HOLD : Hid (By w ob old) := hold
  have HON : Hid (old.length = on) := hon
  have hon2 : on ≤ 1048576 := by omega
  clear hb hw hold hon hol
  by_cases hlen : ss.length ≤ 10000
  · have hlen' : ¬ (10000 : Int) < (ss.length : Int) := by omega
    go_enter Try.func9, Try.ntmps9
    go_wp2
    have HB0 : Hid (Bf w.heap.size ((w.alloc (.cells #[] 5)).alloc (.cells #[] 5)) (w.heap.size + 1) 0 []) := none_bf' w _ _ (World.size_alloc _ _) ((Below.refl _ _).alloc (Nat.le_refl _) _) 5
    have HBE0 : Hid (Below w.heap.size w ((w.alloc (.cells #[] 5)).alloc (.cells #[] 5))) := ((Below.refl _ _).alloc (Nat.le_refl _) _).alloc (by rw [World.size_alloc]; omega) _
    have HSZ0 : Hid (w.heap.size < ((w.alloc (.cells #[] 5)).alloc (.cells #[] 5)).heap.size) := by show _ < _; rw [World.size_alloc, World.size_alloc]; omega
    go_loopw [7, 8, 9, 10] (fun v x _ _ wr => ∃ (i g' cap' z : Nat), i ≤ ss.length ∧ v = .slice (some ⟨g', 0, none⟩) z cap' ∧ x = .int .i64 (i : Int) ∧ z = (pcL old ss i).length ∧ Bf w.heap.size wr g' cap' (pcL old ss i) ∧ (∀ j y, j < i → ss[j]? = some y → okS y = true ∧ fits old y = true) ∧ (pcL old ss i).length ≤ 1000000 ∧ w.heap.size < wr.heap.size ∧ Below w.heap.size w wr) (fun _ x _ _ _ => ss.length - (intOf x).toNat)
    case atStart => exact ⟨0, w.heap.size + 1, 0, 0, Nat.zero_le _, rfl, rfl, rfl, HB0.out, fun j y h => by omega, Nat.zero_le _, HSZ0.out, HBE0.out⟩
    case round =>
      clear HB0 HBE0 HSZ0
      obtain ⟨i, g', cap', z, hi, rfl, rfl, hz, hbf, hlow, hmax, hsw, hbel⟩ := hrel
      have HBE : Hid (Below w.heap.size w wr) := hbel
      have HSW : Hid (w.heap.size < wr.heap.size) := hsw
      have HLO : Hid (∀ j y, j < i → ss[j]? = some y → okS y = true ∧ fits old y = true) := hlow
      clear hlow hsw
      by_cases hil : i < ss.length
      · have hil' : (i : Int) < (ss.length : Int) := by omega
        have hi0 : (0 : Int) ≤ (i : Int) := by omega
        obtain ⟨x, hx⟩ : ∃ x, ss[i]? = some x := ⟨_, List.getElem?_eq_getElem hil⟩
        have hxm := List.mem_of_getElem? hx
        obtain ⟨a', c', e0, e1, e2, e3, hsr0⟩ := HB.out i x hx
        have HSR : Hid (SrcD w a' x.d) := hsr0
        have K : ∀ {p v}, w.cell? ⟨b, p, none⟩ = some v → wr.cell? ⟨b, p, none⟩ = some v := fun {p v} h => (hbel.cell (p := ⟨b, p, none⟩) (World.block_lt_of_cell? _ _ h)).trans h
        have y0 := K e0
        have y1 := K e1
        have y2 := K e2
        have y3 := K e3
        have HX : Hid (ss[i]? = some x) := hx
        have HNX : Hid (pcL old ss (i + 1) = pcL old ss i ++ pc old x) := pcL_succ hx
        obtain ⟨L, hL⟩ : ∃ L, L = pcL old ss i := ⟨_, rfl⟩
        rw [← hL] at hz hbf hmax HNX
        have HMX : Hid (L.length ≤ 1000000) := hmax
        have hzb : z ≤ 1000000 := by omega
        have HBF : Hid (Bf w.heap.size wr g' cap' L) := hbf
        have HG : Hid (g' < wr.heap.size) := hbf.lt
        have HZ : Hid (z = L.length) := hz
        have HSO : Hid (∀ W, Calls Try.prog 28 #[.agg #[.int .i64 x.k, .int .i64 x.p, .int .i64 x.n, .slice a' x.d.length c']] W fun e w' => e = .returned (.bool (okS x && lowS x)) ∧ Below W.heap.size W w') := fun W => sok_any x.k x.p x.n a' x.d.length c' W
        have HDX : Hid (x.d.length ≤ 1048576) := HD.out x hxm
        have HNO : Hid (∀ W, Below wr.heap.size wr W → adOk old ss = false → Ans w W (adB old ss) (adOk old ss) (.returned (.tuple #[.slice (some ⟨w.heap.size, 0, none⟩) 0 0, .bool false])) ∧ Below w.heap.size w W) := fun W hW ho =>
          ⟨ans_no ho (HBE.out.trans (hW.mono HBE.out.size)) (Nat.le_refl _) (Nat.lt_of_lt_of_le HSW.out hW.size), HBE.out.trans (hW.mono HBE.out.size)⟩
        clear hbel hx hsr0 K e0 e1 e2 e3 hL hz hbf hmax
        cases hok : okS x && lowS x with
        | false =>
          rw [hok] at HSO
          have HE : Hid (adOk old ss = false) := adOk_no fun ⟨_, h2, _⟩ => by
            obtain ⟨h1, h3⟩ := h2 x hxm
            rw [h1] at hok
            have hlo : lowS x = false := by simpa using hok
            unfold lowS low3 at hlo
            rw [decide_eq_false_iff_not] at hlo
            unfold fits at h3
            by_cases hk : x.k = 1
            · rw [if_pos hk, decide_eq_true_iff] at h3
              have h4 := h1
              unfold okS at h4
              rw [hk] at h4
              obtain ⟨hp, hq, _⟩ := ok3_one.1 h4
              have := HON.out
              omega
            · obtain ⟨_, hp, hq, _⟩ := (ok3_two hk).1 h1
              omega
          clear hok
          obtain ⟨z0, hz0⟩ : ∃ z, x.k = z := ⟨_, rfl⟩
          obtain ⟨z1, hz1⟩ : ∃ z, x.p = z := ⟨_, rfl⟩
          obtain ⟨z2, hz2⟩ : ∃ z, x.n = z := ⟨_, rfl⟩
          obtain ⟨m, hm⟩ : ∃ z, x.d.length = z := ⟨_, rfl⟩
          rw [hz0, hz1, hz2, hm] at HSO
          rw [hz0] at y0
          rw [hz1] at y1
          rw [hz2] at y2
          rw [hm] at y3
          clear hz0 hz1 hz2 hm HDX
          go_wp2_with (go_at_call 28; refine (HSO.out _).mono ?_; rintro e w1 ⟨rfl, hl1⟩; have hbw1 : Below wr.heap.size wr w1 := (box_below _ _ _).trans (hl1.mono (by rw [World.size_alloc]; omega)))
          go_ret2
          exact HNO.out _ hbw1 HE.out
        | true =>
          rw [hok] at HSO
          rw [Bool.and_eq_true] at hok
          obtain ⟨hok, hlow⟩ := hok
          have HOKX : Hid (okS x = true) := hok
          have HLN : Hid (fits old x = true → ∀ j y, j < i + 1 → ss[j]? = some y → okS y = true ∧ fits old y = true) := fun hfx j y hj hy => by
            rcases Nat.lt_or_ge j i with h | h
            · exact HLO.out j y h hy
            · obtain rfl : j = i := by omega
              rw [HX.out] at hy
              cases hy
              exact ⟨HOKX.out, hfx⟩
          rw [lowS, low3, decide_eq_true_iff] at hlow
          rcases ok3_kind hok with hk | hk
          · obtain ⟨hp, hn', hm⟩ := ok3_one.1 (by have := hok; unfold okS at this; rwa [hk] at this)
            obtain ⟨pn, hpn⟩ : ∃ q : Nat, x.p = (q : Int) := ⟨x.p.toNat, by omega⟩
            obtain ⟨nn, hnn⟩ : ∃ q : Nat, x.n = (q : Int) := ⟨x.n.toNat, by omega⟩
            have HPC : Hid (pc old x = (old.drop pn).take nn) := by show _ = _; unfold pc; rw [if_pos hk, hpn, hnn]; rfl
            have HFX : Hid (fits old x = decide ((pn : Int) + (nn : Int) ≤ (on : Int))) := by show _ = _; unfold fits; rw [if_pos hk, hpn, hnn, HON.out]
            have hpb : pn ≤ 268435455 := by omega
            have hnb : nn ≤ 268435455 := by omega
            have hn1 : 1 ≤ nn := by omega
            rw [hk, hpn, hnn, hm] at HSO
            rw [hk] at y0
            rw [hpn] at y1
            rw [hnn] at y2
            rw [hm] at y3
            clear hok hlow hk hpn hnn hm hp hn' HSR HDX
            go_wp2_with (first
              | (go_at_call 28; refine (HSO.out _).mono ?_; rintro e w1 ⟨rfl, hl1⟩; refine Hid.out ?_)
              | go_in)
            refine Lib.hid ?_
            have hB1 : Below wr.heap.size wr w1 := (box_below _ _ _).trans (hl1.mono (by rw [World.size_alloc]; omega))
            have HB1 : Hid (Bf w.heap.size w1 g' cap' L) := HBF.out.below hB1
            have HBR1 : Hid (Below wr.heap.size wr w1) := hB1
            have HBW1 : Hid (Below w.heap.size w w1) := HBE.out.trans (hB1.mono HBE.out.size)
            have q1 : ∀ j, w1.cell? ⟨wr.heap.size, j, none⟩ = (wr.alloc (.cells #[.int .i64 1, .int .i64 (pn : Int), .int .i64 (nn : Int), .slice a' 0 c'] 45)).cell? ⟨wr.heap.size, j, none⟩ := fun j => hl1.cell (p := ⟨wr.heap.size, j, none⟩) (by rw [World.size_alloc]; show wr.heap.size < _; omega)
            have r0 : w1.cell? ⟨wr.heap.size, 0, none⟩ = some (.int .i64 1) := (q1 0).trans (by simp [go_sem])
            have r1 : w1.cell? ⟨wr.heap.size, 1, none⟩ = some (.int .i64 (pn : Int)) := (q1 1).trans (by simp [go_sem])
            have r2 : w1.cell? ⟨wr.heap.size, 2, none⟩ = some (.int .i64 (nn : Int)) := (q1 2).trans (by simp [go_sem])
            have r3 : w1.cell? ⟨wr.heap.size, 3, none⟩ = some (.slice a' 0 c') := (q1 3).trans (by simp [go_sem])
            clear hl1 q1 hB1 y0 y1 y2 y3
            by_cases hf : pn + nn ≤ on
            · have hf' : ¬ (on : Int) < (pn : Int) + (nn : Int) := by omega
              have HMM : Hid (((old.drop pn).take nn).length = nn) := part_len (by rw [HON.out]; exact hf)
              by_cases hmx : z + nn ≤ 1000000
              · have hmx' : ¬ (1000000 : Int) < (z : Int) + (nn : Int) := by omega
                have HMS : Hid (∀ j u, (bf.byteVals ((old.drop pn).take nn))[j]? = some u → w1.cell? ((⟨ob, pn, none⟩ : Addr).add j) = some u) := part_at (HOLD.out.below hob HBW1.out) pn nn (by rw [HON.out]; exact hf)
                obtain ⟨M, hM⟩ : ∃ M, (old.drop pn).take nn = M := ⟨_, rfl⟩
                rw [hM] at HMM HMS HPC
                have HL2 : Hid (L.length + M.length ≤ 1099511627776) := by show _ ≤ _; have := HZ.out; have := HMM.out; omega
                have HNL : Hid (L ++ M = pcL old ss (i + 1)) := by show _ = _; rw [HNX.out, HPC.out]
                have HNM : Hid ((L ++ M).length ≤ 1000000) := by show _ ≤ _; rw [List.length_append, HMM.out, ← HZ.out]; exact hmx
                have HFT : Hid (fits old x = true) := by show _ = _; rw [HFX.out, decide_eq_true_iff]; omega
                clear hM
                go_wp2_with (first
                  | (at_builtin; refine bf.app_bytes _ rfl _ _ 22 rfl 5 Try.underlying22 bf.info5 rfl HZ.out.symm ⟨ob, pn, none⟩ _ (m := M) rfl (HMM.out.trans (Nat.add_sub_cancel_left (n := pn) (m := nn)).symm) HB1.out HMS.out HL2.out ?_; intro g2 c2 w2 n2 hn2 hap2; refine Hid.out ?_)
                  | go_in)
                refine Lib.hid ?_
                have HF : Hid (Bf w.heap.size w2 g2 c2 (pcL old ss (i + 1))) := by have := hap2.bf; rw [HNL.out] at this; exact this
                have HZ2 : Hid (n2 = (pcL old ss (i + 1)).length) := by have := hn2.out; rw [HNL.out] at this; exact this
                have HM2 : Hid ((pcL old ss (i + 1)).length ≤ 1000000) := by show _ ≤ _; rw [← HNL.out]; exact HNM.out
                have HB2 : Hid (Below w.heap.size w w2) := HBW1.out.trans (hap2.bel HB1.out.new HBW1.out.size)
                have HS2 : Hid (w.heap.size < w2.heap.size) := Nat.lt_of_lt_of_le HSW.out (Nat.le_trans HBR1.out.size hap2.grown.size)
                have HLN2 : Hid (∀ j y, j < i + 1 → ss[j]? = some y → okS y = true ∧ fits old y = true) := HLN.out HFT.out
                clear hap2 hn2
                go_wp2
                go_roundw
                case rel => exact ⟨i + 1, g2, c2, n2, by omega, rfl, by go_num, HZ2.out, HF.out, HLN2.out, HM2.out, HS2.out, HB2.out⟩
                case measure => simp [intOf] <;> omega
              · have hmx' : (1000000 : Int) < (z : Int) + (nn : Int) := by omega
                have HE : Hid (adOk old ss = false) := adOk_big (i := i + 1) (by omega) (by
                  rw [HNX.out, HPC.out, List.length_append, HMM.out, ← HZ.out]
                  exact hmx)
                go_wp2
                go_ret2
                exact HNO.out _ HBR1.out HE.out
            · have hf' : (on : Int) < (pn : Int) + (nn : Int) := by omega
              have HE : Hid (adOk old ss = false) := adOk_no fun ⟨_, h2, _⟩ => by
                have := (h2 x hxm).2
                rw [HFX.out, decide_eq_true_iff] at this
                omega
              go_wp2
              go_ret2
              exact HNO.out _ HBR1.out HE.out
          · have hk1 : ¬ x.k = 1 := by omega
            obtain ⟨_, hp, hn', hm⟩ := (ok3_two hk1).1 hok
            have HPC : Hid (pc old x = x.d) := by show _ = _; unfold pc; rw [if_neg hk1]
            have HFT : Hid (fits old x = true) := by show _ = _; unfold fits; rw [if_neg hk1]
            obtain ⟨D, hD⟩ : ∃ D, x.d = D := ⟨_, rfl⟩
            rw [hD] at HPC HSR HDX hm y3 HSO
            obtain ⟨db, dof, rfl, hdc⟩ : ∃ b o, a' = some ⟨b, o, none⟩ ∧ ∀ i (hi : i < D.length), w.cell? ⟨b, o + i, none⟩ = some (.int .u8 (D[i].toNat : Int)) := by
              rcases HSR.out with h | ⟨b, o, e, h⟩
              · omega
              · exact ⟨b, o, e, fun i hi => by rw [h i hi, inB_at D i hi]⟩
            have hdlt : db < w.heap.size := World.block_lt_of_cell? _ _ (hdc 0 (by omega))
            obtain ⟨dl, hdl'⟩ : ∃ n, D.length = n := ⟨_, rfl⟩
            have HDL : Hid (D.length = dl) := hdl'
            have hdl2 : dl ≤ 1048576 := by have := HDX.out; omega
            have HDC0 : Hid (∀ W : World, (∀ j, W.cell? ⟨db, j, none⟩ = w.cell? ⟨db, j, none⟩) → ∀ j u, (bf.byteVals D)[j]? = some u → W.cell? ((⟨db, dof, none⟩ : Addr).add j) = some u) := fun W hW j u hj => by
              obtain ⟨hj', rfl⟩ := bf.byteVals_get hj
              rw [addr_add, hW]
              exact hdc j hj'
            have hk2 : ¬ (2 : Int) = 1 := by omega
            rw [hdl'] at y3
            rw [hk, hp, hn', hdl'] at HSO
            rw [hk] at y0
            rw [hp] at y1
            rw [hn'] at y2
            clear hok hlow hk hk1 hm hp hn' HSR HDX hdc hD hdl'
            go_wp2_with (first
              | (go_at_call 28; refine (HSO.out _).mono ?_; rintro e w1 ⟨rfl, hl1⟩; refine Hid.out ?_)
              | go_in)
            refine Lib.hid ?_
            have hB1 : Below wr.heap.size wr w1 := (box_below _ _ _).trans (hl1.mono (by rw [World.size_alloc]; omega))
            have HB1 : Hid (Bf w.heap.size w1 g' cap' L) := HBF.out.below hB1
            have HBR1 : Hid (Below wr.heap.size wr w1) := hB1
            have HBW1 : Hid (Below w.heap.size w w1) := HBE.out.trans (hB1.mono HBE.out.size)
            have q1 : ∀ j, w1.cell? ⟨wr.heap.size, j, none⟩ = (wr.alloc (.cells #[.int .i64 2, .int .i64 0, .int .i64 0, .slice (some ⟨db, dof, none⟩) dl c'] 45)).cell? ⟨wr.heap.size, j, none⟩ := fun j => hl1.cell (p := ⟨wr.heap.size, j, none⟩) (by rw [World.size_alloc]; show wr.heap.size < _; omega)
            have r0 : w1.cell? ⟨wr.heap.size, 0, none⟩ = some (.int .i64 2) := (q1 0).trans (by simp [go_sem])
            have r2 : w1.cell? ⟨wr.heap.size, 2, none⟩ = some (.int .i64 0) := (q1 2).trans (by simp [go_sem])
            have r3 : w1.cell? ⟨wr.heap.size, 3, none⟩ = some (.slice (some ⟨db, dof, none⟩) dl c') := (q1 3).trans (by simp [go_sem])
            clear hl1 q1 hB1 y0 y1 y2 y3
            by_cases hmx : z + dl ≤ 1000000
            · have hmx' : ¬ (1000000 : Int) < (z : Int) + (dl : Int) := by omega
              have HMS : Hid (∀ j u, (bf.byteVals D)[j]? = some u → w1.cell? ((⟨db, dof, none⟩ : Addr).add j) = some u) := HDC0.out _ fun j => HBW1.out.cell (p := ⟨db, j, none⟩) hdlt
              have HL2 : Hid (L.length + D.length ≤ 1099511627776) := by show _ ≤ _; have := HZ.out; have := HDL.out; omega
              have HNL : Hid (L ++ D = pcL old ss (i + 1)) := by show _ = _; rw [HNX.out, HPC.out]
              have HNM : Hid ((L ++ D).length ≤ 1000000) := by show _ ≤ _; rw [List.length_append, HDL.out, ← HZ.out]; exact hmx
              go_wp2_with (first
                | (at_builtin; refine bf.app_bytes _ rfl _ _ 22 rfl 5 Try.underlying22 bf.info5 rfl HZ.out.symm ⟨db, dof, none⟩ _ (m := D) rfl HDL.out HB1.out HMS.out HL2.out ?_; intro g2 c2 w2 n2 hn2 hap2; refine Hid.out ?_)
                | go_in)
              refine Lib.hid ?_
              have HF : Hid (Bf w.heap.size w2 g2 c2 (pcL old ss (i + 1))) := by have := hap2.bf; rw [HNL.out] at this; exact this
              have HZ2 : Hid (n2 = (pcL old ss (i + 1)).length) := by have := hn2.out; rw [HNL.out] at this; exact this
              have HM2 : Hid ((pcL old ss (i + 1)).length ≤ 1000000) := by show _ ≤ _; rw [← HNL.out]; exact HNM.out
              have HB2 : Hid (Below w.heap.size w w2) := HBW1.out.trans (hap2.bel HB1.out.new HBW1.out.size)
              have HS2 : Hid (w.heap.size < w2.heap.size) := Nat.lt_of_lt_of_le HSW.out (Nat.le_trans HBR1.out.size hap2.grown.size)
              have HLN2 : Hid (∀ j y, j < i + 1 → ss[j]? = some y → okS y = true ∧ fits old y = true) := HLN.out HFT.out
              clear hap2 hn2
              go_wp2
              go_roundw
              case rel => exact ⟨i + 1, g2, c2, n2, by omega, rfl, by go_num, HZ2.out, HF.out, HLN2.out, HM2.out, HS2.out, HB2.out⟩
              case measure => simp [intOf] <;> omega
            · have hmx' : (1000000 : Int) < (z : Int) + (dl : Int) := by omega
              have HE : Hid (adOk old ss = false) := adOk_big (i := i + 1) (by omega) (by
                rw [HNX.out, HPC.out, List.length_append, HDL.out, ← HZ.out]
                exact hmx)
              go_wp2
              go_ret2
              exact HNO.out _ HBR1.out HE.out
      · have hil' : ¬ (i : Int) < (ss.length : Int) := by omega
        obtain rfl : i = ss.length := by omega
        have HE : Hid (adOk old ss = true) := adOk_iff.2 ⟨hlen, fun x hx => by
          obtain ⟨j, hj, rfl⟩ := List.getElem_of_mem hx
          exact HLO.out j _ (by omega) (List.getElem?_eq_getElem hj), hmax⟩
        have HZ : Hid (z = (pcL old ss ss.length).length) := hz
        have HBF : Hid (Bf w.heap.size wr g' cap' (pcL old ss ss.length)) := hbf
        clear hbel hbf hz hmax
        go_wp2
        go_ret2
        exact ⟨by rw [adB_yes HE.out, HE.out]; exact ⟨_, _, _, rfl, HZ.out, HBF.out⟩, HBE.out⟩
  · have hlen' : (10000 : Int) < (ss.length : Int) := by omega
    have HE : Hid (adOk old ss = false) := adOk_no fun h => hlen h.1
    go_enter Try.func9, Try.ntmps9
    go_wp2
    go_ret2
    exact ⟨ans_no HE.out ((Below.refl _ _).alloc (Nat.le_refl _) _) (Nat.le_refl _) (by rw [World.size_alloc]; omega), (Below.refl _ _).alloc (Nat.le_refl _) _⟩

end Go.Proofs.Ytadkpkgloagnpaa.dl
