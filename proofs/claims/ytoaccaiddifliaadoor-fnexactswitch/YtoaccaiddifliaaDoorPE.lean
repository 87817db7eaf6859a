import Derived.Test.YtoaccaiddifliaaDoorPO
import Derived.Test.YtoaccaiddifliaaDoorRE
import Derived.Deep.RegionHeld3
namespace Go.Proofs.YtoaccaiddifliaaDoor.pf
open Go.ChangeShapes Go.WideShapes Go.ChangeAt Go.RowKit Go.Deep
set_option linter.unusedVariables false
set_option linter.unusedSimpArgs false

/-! ### Profiles: one profile of a list changed; marks -/

theorem two_types {w : World} {b t t' N N' : Nat} {f f' : Nat → Value} (h : w.rowIs b t N f) (h' : w.rowIs b t' N' f') : t = t' := by
  obtain ⟨c, hc, _⟩ := h
  obtain ⟨c', hc', _⟩ := h'
  rw [hc] at hc'
  cases hc'
  rfl
theorem g_ne_p {w : World} {g b : Nat} {l : List Gn} {N : Nat} {f : Nat → Value} (hg : OwG w g l) (hp : w.rowIs b 40 N f) : g ≠ b := fun e => by
  subst e
  obtain ⟨N', f', _, hr, _⟩ := hg
  exact absurd (two_types hr hp) (by decide)

theorem oth {X : World} {b i j : Nat} {v : Value} (h : i ≠ j) : (X.setCell ⟨b, i, none⟩ v).cell? ⟨b, j, none⟩ = X.cell? ⟨b, j, none⟩ := World.cell?_setCell_other X ⟨b, i, none⟩ ⟨b, j, none⟩ v (by simp [h])

theorem OwP.upd {lo hi hi' : Nat} {w w' : World} {b : Nat} {gs : Nat → Nat} {ps : List Pr} {k g' c' : Nat} {x x' : Pr} (h : OwP lo hi w b gs ps) (hx : ps[k]? = some x) (hhi : hi ≤ hi') (hs' : hi' ≤ w'.heap.size)
    (hoth : ∀ j, lo ≤ j → j < hi → j ≠ b → j ≠ gs k → w'.heap[j]? = w.heap[j]?) (hrow : ∃ N f, ps.length * 3 ≤ N ∧ w'.rowIs b 40 N f)
    (hcell : ∀ o, o / 3 ≠ k → w'.cell? ⟨b, o, none⟩ = w.cell? ⟨b, o, none⟩)
    (h0 : w'.cell? ⟨b, k * 3, none⟩ = some (.string x'.name)) (h1 : w'.cell? ⟨b, k * 3 + 1, none⟩ = some (.int .i64 x'.now)) (h2 : w'.cell? ⟨b, k * 3 + 2, none⟩ = some (.slice (some ⟨g', 0, none⟩) x'.gens.length c')) (hc : x'.gens.length ≤ c')
    (hg : OwG w' g' x'.gens) (hlo : lo ≤ g') (hgh : g' < hi') (hne : ∀ j, j < ps.length → j ≠ k → gs j ≠ g') : OwP lo hi' w' b (fun j => if j = k then g' else gs j) (ps.set k x') := by
  have hk := (List.getElem?_eq_some_iff.1 hx).1
  refine ⟨h.blo, Nat.lt_of_lt_of_le h.bhi hhi, hs', by rw [List.length_set]; exact hrow, fun i y hy => ?_, fun i hi2 => ?_, fun i j hij hj => ?_⟩
  · rw [List.getElem?_set] at hy
    by_cases he : k = i
    · subst he
      rw [if_pos rfl, if_pos hk] at hy
      obtain rfl := Option.some.inj hy
      simp only [if_pos]
      exact ⟨c', hc, h0, h1, h2, hg⟩
    · rw [if_neg he] at hy
      have hi2 := (List.getElem?_eq_some_iff.1 hy).1
      obtain ⟨c, q0, q1, q2, q3, q4⟩ := h.ent i y hy
      rw [if_neg (fun e => he e.symm)]
      refine ⟨c, q0, ?_, ?_, ?_, q4.kept ?_⟩
      · rw [hcell _ (by omega)]; exact q1
      · rw [hcell _ (by omega)]; exact q2
      · rw [hcell _ (by omega)]; exact q3
      · refine hoth _ (h.rng i hi2).1 (h.rng i hi2).2.1 (h.rng i hi2).2.2 ?_
        rcases Nat.lt_or_ge i k with h' | h'
        · exact h.inj i k h' hk
        · exact fun e => h.inj k i (by omega) hi2 e.symm
  · rw [List.length_set] at hi2
    by_cases he : i = k
    · simp only [if_pos he]
      obtain ⟨N, f, _, hr⟩ := hrow
      exact ⟨hlo, hgh, g_ne_p hg hr⟩
    · simp only [if_neg he]
      exact ⟨(h.rng i hi2).1, Nat.lt_of_lt_of_le (h.rng i hi2).2.1 hhi, (h.rng i hi2).2.2⟩
  · rw [List.length_set] at hj
    by_cases he : j = k
    · simp only [if_pos he, if_neg (show i ≠ k by omega)]
      exact hne i (by omega) (by omega)
    · by_cases he2 : i = k
      · simp only [if_pos he2, if_neg he]
        exact fun e => hne j hj he e.symm
      · simp only [if_neg he, if_neg he2]
        exact h.inj i j hij hj

/-! What marking does. -/

/-- All blocks but those from lo on and below hi are as they were. -/
structure Mid (lo hi : Nat) (w w' : World) : Prop where
  os : w'.os = w.os
  tape : w'.tape = w.tape
  output : w'.output = w.output
  size : w.heap.size ≤ w'.heap.size
  block : ∀ k, k < w.heap.size → (k < lo ∨ hi ≤ k) → w'.heap[k]? = w.heap[k]?
theorem Mid.refl (lo hi : Nat) (w : World) : Mid lo hi w w := ⟨rfl, rfl, rfl, Nat.le_refl _, fun _ _ _ => rfl⟩
theorem Mid.trans {lo hi : Nat} {w w1 w2 : World} (h : Mid lo hi w w1) (g : Mid lo hi w1 w2) : Mid lo hi w w2 :=
  ⟨g.os.trans h.os, g.tape.trans h.tape, g.output.trans h.output, Nat.le_trans h.size g.size, fun k hk hl => (g.block k (Nat.lt_of_lt_of_le hk h.size) hl).trans (h.block k hk hl)⟩
theorem Mid.of_below {lo hi : Nat} {w w' : World} (hb : Below w.heap.size w w') : Mid lo hi w w' := ⟨hb.os, hb.tape, hb.output, hb.size, fun k hk _ => hb.block k hk⟩
theorem Mid.of_grown {lo hi b : Nat} {w w' : World} (hg : w.grownBy w' (some b)) (h1 : lo ≤ b) (h2 : b < hi) : Mid lo hi w w' := ⟨hg.os, hg.tape, hg.output, hg.size, fun k hk hl => hg.block k hk (fun e => by cases e; omega)⟩
theorem Mid.set {lo hi b i : Nat} {w w' : World} {v : Value} (h : Mid lo hi w w') (h1 : lo ≤ b) (h2 : b < hi) : Mid lo hi w (w'.setCell ⟨b, i, none⟩ v) :=
  ⟨h.os, h.tape, h.output, by simpa using h.size, fun k hk hl => by rw [blk_oth (by omega)]; exact h.block k hk hl⟩
theorem Mid.toBelow {lo hi B : Nat} {w w' : World} (h : Mid lo hi w w') (hB : B ≤ lo) (hs : B ≤ w.heap.size) : Below B w w' := ⟨h.os, h.tape, h.output, h.size, fun k hk => h.block k (by omega) (.inl (by omega))⟩

def mkG (k0 n : Nat) : List Gn := (List.range n).map fun i => ⟨((k0 + 2 * i : Nat) : Int), sr.mark (k0 + 2 * i + 1)⟩
theorem mkG_len (k0 n : Nat) : (mkG k0 n).length = n := by simp [mkG]
theorem mkG_at {k0 n i : Nat} (h : i < n) : (mkG k0 n)[i]? = some ⟨((k0 + 2 * i : Nat) : Int), sr.mark (k0 + 2 * i + 1)⟩ := by simp [mkG, h]

theorem grown_set {w w' : World} {b : Nat} (h : w.grownBy w' (some b)) (i : Nat) (x : Value) : w.grownBy (w'.setCell ⟨b, i, none⟩ x) (some b) :=
  ⟨h.os, h.tape, h.output, by simpa using h.size, fun k hk hne => by
    rw [← h.block k hk hne]
    exact blk_oth (fun e => hne (by rw [e]))⟩
theorem grown_below {w w' w'' : World} {b : Nat} (h : w.grownBy w' (some b)) (hb : Below w'.heap.size w' w'') : w.grownBy w'' (some b) :=
  ⟨hb.os.trans h.os, hb.tape.trans h.tape, hb.output.trans h.output, Nat.le_trans h.size hb.size, fun k hk hne => (hb.block k (Nat.lt_of_lt_of_le hk h.size)).trans (h.block k hk hne)⟩
theorem grown_refl (w : World) (r : Option Nat) : w.grownBy w r := ⟨rfl, rfl, rfl, Nat.le_refl _, fun _ _ _ => rfl⟩

set_option maxRecDepth 100000 in
set_option maxHeartbeats 2000000 in
theorem markG_any (g n c k0 N : Nat) (f : Nat → Value) (w : World) (hr : w.rowIs g 43 N f) (hN : n * 2 ≤ N) (h0 : 0 < k0) (hn : n ≤ 1048576) (hk0 : k0 ≤ 3000000) :
    Calls Tryd.prog 25 #[.slice (some ⟨g, 0, none⟩) n c, .int .i64 (k0 : Int)] w fun e w' => e = .returned (.int .i64 ((k0 + 2 * n : Nat) : Int)) ∧ w'.rowIs g 43 N (fun j => if j < n * 2 then cellG (mkG k0 n) j else f j) ∧ w.grownBy w' (some g) := by
  go_enter Tryd.func25, Tryd.ntmps25
  go_wp2
  go_loopw [1, 5] (fun a x wr => ∃ (i : Nat), i ≤ n ∧ x = .int .i64 (i : Int) ∧ a = .int .i64 ((k0 + 2 * i : Nat) : Int) ∧ wr.rowIs g 43 N (fun j => if j < i * 2 then cellG (mkG k0 n) j else f j) ∧ w.grownBy wr (some g)) (fun _ x _ => n - (intOf x).toNat)
  case atStart => exact ⟨0, Nat.zero_le _, rfl, rfl, hr.congr (fun j hj => by simp), grown_refl _ _⟩
  case round =>
    clear hr
    obtain ⟨i, hi, rfl, rfl, hrow, hg⟩ := hrel
    by_cases h : i < n
    · have h' : (i : Int) < (n : Int) := by omega
      have HR : Hid (wr.rowIs g 43 N (fun j => if j < i * 2 then cellG (mkG k0 n) j else f j)) := hrow
      have HG : Hid (w.grownBy wr (some g)) := hg
      have HV0 : Hid (cellG (mkG k0 n) (i * 2) = .int .i64 ((k0 + 2 * i : Nat) : Int)) := cellG0 (mkG_at h)
      have HV1 : Hid (cellG (mkG k0 n) (i * 2 + 1) = .string (sr.mark (k0 + 2 * i + 1))) := cellG1 (mkG_at h)
      obtain ⟨K, hK⟩ : ∃ K : Nat, k0 + 2 * i = K := ⟨_, rfl⟩
      rw [hK] at HV0 HV1
      have HKK : Hid (k0 + 2 * i = K) := hK
      rw [hK]
      have hKb : K ≤ 6000000 := by omega
      have hK0 : 0 < K := by omega
      have q0 := hrow.cell (i := i * 2) (by omega)
      have q0f := hrow.frozen (i * 2)
      clear hK hrow hg
      have HM1 : Hid (∀ W, Calls Tryd.prog 24 #[.int .i64 ((K : Int) + 1)] W fun e w' => e = .returned (.string (sr.mark (K + 1))) ∧ Below W.heap.size W w') := fun W => by
        have := sr.mark_any (K + 1) (by omega) (by omega) W
        rwa [show ((K + 1 : Nat) : Int) = (K : Int) + 1 by omega] at this
      obtain ⟨s, hs⟩ : ∃ s, sr.mark (K + 1) = s := ⟨_, rfl⟩
      rw [hs] at HM1 HV1
      clear hs
      have HR1 : Hid ((wr.setCell ⟨g, i * 2, none⟩ (.int .i64 (K : Int))).rowIs g 43 N (fun j => if j < i * 2 + 1 then cellG (mkG k0 n) j else f j)) := mkG_step HR.out HV0.out
      have HG1 : Hid (w.grownBy (wr.setCell ⟨g, i * 2, none⟩ (.int .i64 (K : Int))) (some g)) := grown_set HG.out _ _
      go_wp2_with (go_at_call 24; refine (HM1.out _).mono ?_; rintro e w1 ⟨rfl, hb1⟩; refine Hid.out ?_)
      refine Lib.hid ?_
      have HR2 : Hid (w1.rowIs g 43 N (fun j => if j < i * 2 + 1 then cellG (mkG k0 n) j else f j)) := HR1.out.of_block (hb1.block _ HR1.out.lt)
      have p1 := HR2.out.cell (i := i * 2 + 1) (by omega)
      have p1f := HR2.out.frozen (i * 2 + 1)
      have HR3 : Hid ((w1.setCell ⟨g, i * 2 + 1, none⟩ (.string s)).rowIs g 43 N (fun j => if j < (i + 1) * 2 then cellG (mkG k0 n) j else f j)) := by
        have := mkG_step HR2.out HV1.out
        rw [show (i + 1) * 2 = i * 2 + 1 + 1 by omega]
        exact this
      have HG3 : Hid (w.grownBy (w1.setCell ⟨g, i * 2 + 1, none⟩ (.string s)) (some g)) := grown_set (grown_below HG1.out hb1) _ _
      clear hb1 q0 q0f
      go_wp2
      go_roundw
      case rel => exact ⟨i + 1, by omega, by go_num, by rw [Nat.mul_add, ← Nat.add_assoc, HKK.out]; go_num, HR3.out, HG3.out⟩
      case measure => simp [intOf]; omega
    · have h' : ¬ (i : Int) < (n : Int) := by omega
      obtain rfl : i = n := by omega
      go_wp2
      go_ret
      exact ⟨rfl, hrow, hg⟩

theorem markG_ow (g c k0 : Nat) (l : List Gn) (w : World) (ho : OwG w g l) (h0 : 0 < k0) (hn : l.length ≤ 1048576) (hk0 : k0 ≤ 3000000) :
    Calls Tryd.prog 25 #[.slice (some ⟨g, 0, none⟩) l.length c, .int .i64 (k0 : Int)] w fun e w' => e = .returned (.int .i64 ((k0 + 2 * l.length : Nat) : Int)) ∧ OwG w' g (mkG k0 l.length) ∧ w.grownBy w' (some g) := by
  obtain ⟨N, f, hN, hr, _⟩ := ho
  refine (markG_any g l.length c k0 N f w hr hN h0 hn hk0).mono ?_
  rintro e w' ⟨h1, h2, h3⟩
  exact ⟨h1, owG_row (fu := f) (by rw [mkG_len]; exact h2) (by rw [mkG_len]; exact hN), h3⟩

/-- The counter ahead of a profile. -/
def kAt (k0 : Nat) (ps : List Pr) (i : Nat) : Nat := k0 + ((ps.take i).map fun x => 2 + 2 * x.gens.length).sum
theorem kAt_succ {k0 : Nat} {ps : List Pr} {i : Nat} {x : Pr} (h : ps[i]? = some x) : kAt k0 ps (i + 1) = kAt k0 ps i + (2 + 2 * x.gens.length) := by
  unfold kAt
  rw [List.take_add_one, h]
  simp
  omega
theorem kAt_le (k0 : Nat) (ps : List Pr) : ∀ i, kAt k0 ps i ≤ k0 + 2 * wtP ps := by
  intro i
  have h1 : ∀ l : List Pr, ((l.map fun x => 2 + 2 * x.gens.length).sum) ≤ 2 * (l.length + (l.map wt1).sum) := by
    intro l
    induction l with
    | nil => simp
    | cons x l ih =>
      simp only [List.map_cons, List.sum_cons, List.length_cons]
      have : x.gens.length ≤ wt1 x := by unfold wt1 wtG; omega
      omega
  have h2 := h1 (ps.take i)
  have h3 : ∀ (l : List Nat) (k : Nat), (l.take k).sum ≤ l.sum := by
    intro l
    induction l with
    | nil => intro k; simp
    | cons x l ih => intro k; cases k with
      | zero => simp
      | succ k => simp only [List.take_succ_cons, List.sum_cons]; have := ih k; omega
  have h4 := h3 (ps.map wt1) i
  rw [← List.map_take] at h4
  have h5 : (ps.take i).length ≤ ps.length := by simp; omega
  unfold kAt wtP wtSP
  rw [List.take_length]
  omega

def mP (k0 : Nat) (ps : List Pr) (i : Nat) (x : Pr) : Pr := ⟨sr.mark (kAt k0 ps i), ((kAt k0 ps i + 1 : Nat) : Int), mkG (kAt k0 ps i + 2) x.gens.length⟩
def mkTo (k0 : Nat) (ps : List Pr) (k : Nat) : List Pr := ps.mapIdx fun i x => if i < k then mP k0 ps i x else x
def mkP (k0 : Nat) (ps : List Pr) : List Pr := mkTo k0 ps ps.length
theorem mkTo_len (k0 : Nat) (ps : List Pr) (k : Nat) : (mkTo k0 ps k).length = ps.length := by simp [mkTo]
theorem mkTo_at (k0 : Nat) (ps : List Pr) (k i : Nat) : (mkTo k0 ps k)[i]? = (ps[i]?).map fun x => if i < k then mP k0 ps i x else x := by simp [mkTo]
theorem mkTo_zero (k0 : Nat) (ps : List Pr) : mkTo k0 ps 0 = ps := by
  apply List.ext_getElem?
  intro i
  rw [mkTo_at]
  cases ps[i]? <;> simp
theorem mkTo_succ {k0 : Nat} {ps : List Pr} {k : Nat} {x : Pr} (h : ps[k]? = some x) : (mkTo k0 ps k).set k (mP k0 ps k x) = mkTo k0 ps (k + 1) := by
  have hk := (List.getElem?_eq_some_iff.1 h).1
  apply List.ext_getElem?
  intro i
  rw [List.getElem?_set, mkTo_at, mkTo_at]
  by_cases he : k = i
  · subst he
    rw [if_pos rfl, mkTo_len, if_pos hk, h]
    simp
  · rw [if_neg he]
    have e : (i < k + 1) ↔ (i < k) := by omega
    cases ps[i]? <;> simp [e]

set_option maxRecDepth 100000 in
set_option maxHeartbeats 4000000 in
theorem markP_any (lo hi b c k0 : Nat) (gs : Nat → Nat) (ps : List Pr) (w : World) (ho : OwP lo hi w b gs ps) (hw : wtP ps ≤ 1048576) (h0 : 0 < k0) (hk0 : k0 ≤ 800000) :
    Calls Tryd.prog 9 #[.slice (some ⟨b, 0, none⟩) ps.length c, .int .i64 (k0 : Int)] w fun e w' => e = .returned (.int .i64 ((kAt k0 ps ps.length : Nat) : Int)) ∧ OwP lo hi w' b gs (mkP k0 ps) ∧ Mid lo hi w w' := by
  have hn : ps.length ≤ 1048576 := by have := wt_len ps; omega
  have HO : Hid (OwP lo hi w b gs ps) := ho
  have HW : Hid (wtP ps ≤ 1048576) := hw
  have hblo := ho.blo
  have hbhi := ho.bhi
  clear ho hw
  obtain ⟨n, hnn⟩ : ∃ n, ps.length = n := ⟨_, rfl⟩
  have HNN : Hid (ps.length = n) := hnn
  rw [hnn] at hn ⊢
  clear hnn
  go_enter Tryd.func9, Tryd.ntmps9
  go_wp2
  go_loopw [1, 5] (fun a x wr => ∃ (i : Nat), i ≤ n ∧ x = .int .i64 (i : Int) ∧ a = .int .i64 ((kAt k0 ps i : Nat) : Int) ∧ OwP lo hi wr b gs (mkTo k0 ps i) ∧ Mid lo hi w wr) (fun _ x _ => n - (intOf x).toNat)
  case atStart => exact ⟨0, Nat.zero_le _, rfl, by simp [kAt], by rw [mkTo_zero]; exact HO.out, Mid.refl _ _ _⟩
  case round =>
    obtain ⟨i, hile, rfl, rfl, howr, hmid⟩ := hrel
    have HOW : Hid (OwP lo hi wr b gs (mkTo k0 ps i)) := howr
    have HMI : Hid (Mid lo hi w wr) := hmid
    clear howr hmid
    by_cases h : i < n
    · have h' : (i : Int) < (n : Int) := by omega
      obtain ⟨x, hx⟩ : ∃ x, ps[i]? = some x := ⟨_, List.getElem?_eq_getElem (by rw [HNN.out]; exact h)⟩
      have hxl : x.gens.length ≤ 1048576 := by have := wt_gens (List.mem_of_getElem? hx); have := HW.out; omega
      have hxi : (mkTo k0 ps i)[i]? = some x := by rw [mkTo_at, hx]; simp
      have HX : Hid (ps[i]? = some x) := hx
      have HXI : Hid ((mkTo k0 ps i)[i]? = some x) := hxi
      obtain ⟨cc, e0, e1, e2, e3, e4⟩ := HOW.out.ent i x hxi
      obtain ⟨N, f, hN, hr⟩ := HOW.out.row
      rw [mkTo_len, HNN.out] at hN
      have HR : Hid (wr.rowIs b 40 N f) := hr
      have hNi : i * 3 + 2 < N := by omega
      obtain ⟨G, hG⟩ : ∃ G, gs i = G := ⟨_, rfl⟩
      have HG : Hid (gs i = G) := hG
      rw [hG] at e3 e4
      have HOG : Hid (OwG wr G x.gens) := e4
      have hGb : G ≠ b := g_ne_p e4 hr
      have hGr := HOW.out.rng i (by rw [mkTo_len, HNN.out]; exact h)
      rw [hG] at hGr
      have HMP : Hid (mP k0 ps i x = ⟨sr.mark (kAt k0 ps i), ((kAt k0 ps i + 1 : Nat) : Int), mkG (kAt k0 ps i + 2) x.gens.length⟩) := rfl
      have HKS : Hid (kAt k0 ps (i + 1) = kAt k0 ps i + (2 + 2 * x.gens.length)) := kAt_succ hx
      have hKb0 : kAt k0 ps i ≤ 2897152 := by have := kAt_le k0 ps i; have := HW.out; omega
      have hK1 : 0 < kAt k0 ps i := by unfold kAt; omega
      obtain ⟨K, hK⟩ : ∃ K : Nat, kAt k0 ps i = K := ⟨_, rfl⟩
      rw [hK] at HMP HKS hKb0 hK1 ⊢
      obtain ⟨s, hs⟩ : ∃ s, sr.mark K = s := ⟨_, rfl⟩
      have HMT : Hid (∀ W, Calls Tryd.prog 24 #[.int .i64 (K : Int)] W fun e w' => e = .returned (.string s) ∧ Below W.heap.size W w') := fun W => by rw [← hs]; exact sr.mark_any K hK1 (by omega) W
      rw [hs] at HMP
      obtain ⟨m, hm⟩ : ∃ m, x.gens.length = m := ⟨_, rfl⟩
      rw [hm] at e0 e3 HMP HKS hxl
      have HMG : Hid (∀ W, OwG W G x.gens → Calls Tryd.prog 25 #[.slice (some ⟨G, 0, none⟩) m cc, .int .i64 ((K : Int) + 1 + 1)] W fun e w' => e = .returned (.int .i64 ((K + 2 + 2 * m : Nat) : Int)) ∧ OwG w' G (mkG (K + 2) m) ∧ W.grownBy w' (some G)) := fun W hW => by
        have := markG_ow G cc (K + 2) x.gens W hW (by omega) (by omega) (by omega)
        rwa [hm, show ((K + 2 : Nat) : Int) = (K : Int) + 1 + 1 by omega] at this
      have HNW : Hid (∀ W : World, OwP lo hi wr b gs (mkTo k0 ps i) → True) := fun _ _ => trivial
      clear hx hxi hr hG e4 hK hs hm
      go_wp2_with (go_at_call 24; refine (HMT.out _).mono ?_; rintro e w1 ⟨rfl, hb1⟩; refine Hid.out ?_)
      refine Lib.hid ?_
      have hlt1 : b < wr.heap.size := HR.out.lt
      have HR1 : Hid (w1.rowIs b 40 N f) := HR.out.of_block (hb1.block _ hlt1)
      have c1 := fun o => (bcell hb1).1 b o hlt1
      have p0 := HR1.out.cell (i := i * 3) (by omega)
      have p0f := HR1.out.frozen (i * 3)
      have p1 := HR1.out.cell (i := i * 3 + 1) (by omega)
      have p1f := HR1.out.frozen (i * 3 + 1)
      have p2 : w1.cell? ⟨b, i * 3 + 2, none⟩ = some (.slice (some ⟨G, 0, none⟩) m cc) := (c1 _).trans e3
      have HOG1 : Hid (OwG ((w1.setCell ⟨b, i * 3, none⟩ (.string s)).setCell ⟨b, i * 3 + 1, none⟩ (.int .i64 ((K : Int) + 1))) G x.gens) := (HOG.out.kept (hb1.block _ HOG.out.lt)).kept (by rw [blk_oth hGb, blk_oth hGb])
      have HR2 : Hid (∃ f', ((w1.setCell ⟨b, i * 3, none⟩ (.string s)).setCell ⟨b, i * 3 + 1, none⟩ (.int .i64 ((K : Int) + 1))).rowIs b 40 N f') := ⟨_, (HR1.out.set (i * 3) _).set (i * 3 + 1) _⟩
      have HC2 : Hid (∀ o, o / 3 ≠ i → ((w1.setCell ⟨b, i * 3, none⟩ (.string s)).setCell ⟨b, i * 3 + 1, none⟩ (.int .i64 ((K : Int) + 1))).cell? ⟨b, o, none⟩ = wr.cell? ⟨b, o, none⟩) := fun o ho => by
        rw [oth (by omega), oth (by omega)]
        exact c1 o
      have HV0 : Hid (((w1.setCell ⟨b, i * 3, none⟩ (.string s)).setCell ⟨b, i * 3 + 1, none⟩ (.int .i64 ((K : Int) + 1))).cell? ⟨b, i * 3, none⟩ = some (.string s)) := by
        show _ = _
        rw [oth (by omega)]
        exact World.cell?_setCell_same _ _ _ p0
      have HV1 : Hid (((w1.setCell ⟨b, i * 3, none⟩ (.string s)).setCell ⟨b, i * 3 + 1, none⟩ (.int .i64 ((K : Int) + 1))).cell? ⟨b, i * 3 + 1, none⟩ = some (.int .i64 ((K : Int) + 1))) := by
        show _ = _
        exact World.cell?_setCell_same _ _ _ ((oth (by omega)).trans p1)
      have HV2 : Hid (((w1.setCell ⟨b, i * 3, none⟩ (.string s)).setCell ⟨b, i * 3 + 1, none⟩ (.int .i64 ((K : Int) + 1))).cell? ⟨b, i * 3 + 2, none⟩ = some (.slice (some ⟨G, 0, none⟩) m cc)) := by
        show _ = _
        rw [oth (by omega), oth (by omega)]
        exact p2
      have HM2 : Hid (Mid lo hi w ((w1.setCell ⟨b, i * 3, none⟩ (.string s)).setCell ⟨b, i * 3 + 1, none⟩ (.int .i64 ((K : Int) + 1)))) := ((HMI.out.trans (Mid.of_below hb1)).set hblo hbhi).set hblo hbhi
      have HB2 : Hid (∀ k, k < wr.heap.size → k ≠ b → ((w1.setCell ⟨b, i * 3, none⟩ (.string s)).setCell ⟨b, i * 3 + 1, none⟩ (.int .i64 ((K : Int) + 1))).heap[k]? = wr.heap[k]?) := fun k hk hkb => by rw [blk_oth hkb, blk_oth hkb]; exact hb1.block k hk
      have HZ2 : Hid (wr.heap.size ≤ ((w1.setCell ⟨b, i * 3, none⟩ (.string s)).setCell ⟨b, i * 3 + 1, none⟩ (.int .i64 ((K : Int) + 1))).heap.size) := by show _ ≤ _; simpa using hb1.size
      clear hb1 e1 e2 e3 c1
      go_wp2_with (go_at_call 25; refine (HMG.out _ HOG1.out).mono ?_; rintro e w3 ⟨rfl, hog3, hg3⟩; refine Hid.out ?_)
      refine Lib.hid ?_
      have hbk := hg3.block b (by have := HZ2.out; omega) (by simpa using fun e : b = G => hGb e.symm)
      have kc : ∀ o, w3.cell? ⟨b, o, none⟩ = _ := fun o => World.cell?_of_block (a := ⟨b, o, none⟩) hbk
      have HFIN : Hid (OwP lo hi w3 b gs (mkTo k0 ps (i + 1))) := by
        have hup := HOW.out.upd (w' := w3) (hi' := hi) (g' := G) (c' := cc) (x' := mP k0 ps i x) HXI.out (Nat.le_refl _) (Nat.le_trans HOW.out.hi_le (Nat.le_trans HZ2.out hg3.size))
          (fun j h1 h2 h3 h4 => (hg3.block j (Nat.lt_of_lt_of_le h2 (Nat.le_trans HOW.out.hi_le HZ2.out)) (by rw [HG.out] at h4; simpa using h4)).trans (HB2.out j (Nat.lt_of_lt_of_le h2 HOW.out.hi_le) h3))
          (by obtain ⟨f', hf'⟩ := HR2.out; exact ⟨N, f', by rw [mkTo_len, HNN.out]; omega, hf'.of_block hbk⟩)
          (fun o ho => (kc o).trans (HC2.out o ho))
          (by rw [HMP.out]; exact (kc _).trans HV0.out) (by rw [HMP.out]; exact (kc _).trans HV1.out) (by rw [HMP.out]; simp only [mkG_len]; exact (kc _).trans HV2.out) (by rw [HMP.out]; simp only [mkG_len]; exact e0)
          (by rw [HMP.out]; exact hog3) hGr.1 hGr.2.1 (fun j hj hji => by
            rw [← HG.out]
            rw [mkTo_len] at hj
            rcases Nat.lt_or_ge j i with h1 | h1
            · exact HOW.out.inj j i h1 (by rw [mkTo_len, HNN.out]; exact h)
            · exact fun e => HOW.out.inj i j (by omega) (by rw [mkTo_len]; exact hj) e.symm)
        rw [mkTo_succ HX.out] at hup
        have hgs : (fun j => if j = i then G else gs j) = gs := by
          funext j
          by_cases hj : j = i
          · rw [if_pos hj, hj]; exact HG.out.symm
          · rw [if_neg hj]
        rw [hgs] at hup
        exact hup
      have HM3 : Hid (Mid lo hi w w3) := HM2.out.trans (Mid.of_grown hg3 hGr.1 hGr.2.1)
      clear hog3 hg3 hbk kc p0 p0f p1 p1f p2
      go_wp2
      go_roundw
      case rel => exact ⟨i + 1, by omega, by go_num, by rw [HKS.out]; simp only [Value.int.injEq, true_and]; omega, HFIN.out, HM3.out⟩
      case measure => simp [intOf]; omega
    · have h' : ¬ (i : Int) < (n : Int) := by omega
      obtain rfl : i = n := by omega
      have HE : Hid (OwP lo hi wr b gs (mkP k0 ps)) := by
        have := HOW.out
        unfold mkP
        rw [HNN.out]
        exact this
      go_wp2
      go_ret
      exact ⟨rfl, HE.out, HMI.out⟩

/-! What is held of the marks. -/

set_option maxRecDepth 100000 in
set_option maxHeartbeats 4000000 in
theorem heldG_any (a : Option Addr) (n c k0 : Nat) (w : World) (hR : SrcG w a (mkG k0 n)) (h0 : 0 < k0) (hn : n ≤ 1048576) (hk0 : k0 ≤ 3000000) :
    Calls Tryd.prog 26 #[.slice a n c, .int .i64 (k0 : Int)] w fun e w' => e = .returned (.int .i64 ((k0 + 2 * n : Nat) : Int)) ∧ Below w.heap.size w w' := by
  have HER : Hid (SrcG w a (mkG k0 n)) := hR
  clear hR
  go_enter Tryd.func26, Tryd.ntmps26
  go_wp2
  go_loopw [1, 5] (fun v x wr => ∃ (i : Nat), i ≤ n ∧ x = .int .i64 (i : Int) ∧ v = .int .i64 ((k0 + 2 * i : Nat) : Int) ∧ Below w.heap.size w wr) (fun _ x _ => n - (intOf x).toNat)
  case atStart => exact ⟨0, Nat.zero_le _, rfl, rfl, Below.refl _ _⟩
  case round =>
    obtain ⟨i, hi, rfl, rfl, hbel⟩ := hrel
    by_cases h : i < n
    · have h' : (i : Int) < (n : Int) := by omega
      have HBB : Hid (Below w.heap.size w wr) := hbel
      rcases HER.out with he | ⟨b, o, rfl, hc⟩
      · have := congrArg List.length he; rw [mkG_len] at this; simp at this; omega
      have HC : Hid (∀ W, Below w.heap.size w W → W.cell? ⟨b, o + i * 2, none⟩ = some (.int .i64 ((k0 + 2 * i : Nat) : Int)) ∧ W.cell? ⟨b, o + i * 2 + 1, none⟩ = some (.string (sr.mark (k0 + 2 * i + 1)))) := fun W hW => (hc i _ (mkG_at h)).below hW
      obtain ⟨K, hK⟩ : ∃ K : Nat, k0 + 2 * i = K := ⟨_, rfl⟩
      rw [hK] at HC
      have HKK : Hid (k0 + 2 * i = K) := hK
      rw [hK]
      have hKb : K ≤ 6000000 := by omega
      have hK0 : 0 < K := by omega
      have d0 := (HC.out wr hbel).1
      clear hK hbel hc
      have HM1 : Hid (∀ W, Calls Tryd.prog 24 #[.int .i64 ((K : Int) + 1)] W fun e w' => e = .returned (.string (sr.mark (K + 1))) ∧ Below W.heap.size W w') := fun W => by
        have := sr.mark_any (K + 1) (by omega) (by omega) W
        rwa [show ((K + 1 : Nat) : Int) = (K : Int) + 1 by omega] at this
      obtain ⟨s, hs⟩ : ∃ s, sr.mark (K + 1) = s := ⟨_, rfl⟩
      rw [hs] at HM1 HC
      clear hs
      have HCd : Hid (∀ W, Below w.heap.size w W → W.cell? ⟨b, o + i * 2 + 1, none⟩ = some (.string s)) := fun W hW => (HC.out W hW).2
      have d1 := HCd.out wr HBB.out
      go_wp2_with fail
      go_region_held3 (fun w' => w'.cell? ⟨b, o + i * 2 + 1, none⟩ = some (.string s))
        (first
          | go_keep
          | exact HCd.out _ (HBB.out.drew.trans (hb1.mono HBB.out.size)))
        (first | ((go_at_call 24; refine (HM1.out _).mono ?_; rintro e w1 ⟨rfl, hb1⟩)))
      have HB1 : Hid (Below w.heap.size w w1) := HBB.out.drew.trans (hb1.mono HBB.out.size)
      clear hb1 d0 d1
      go_wp2_with fail
      go_roundw
      case rel => exact ⟨i + 1, by omega, by go_num, by rw [Nat.mul_add, ← Nat.add_assoc, HKK.out]; go_num, HB1.out⟩
      case measure => simp [intOf]; omega
    · have h' : ¬ (i : Int) < (n : Int) := by omega
      obtain rfl : i = n := by omega
      go_wp2
      go_ret
      exact ⟨rfl, hbel⟩

set_option maxRecDepth 100000 in
set_option maxHeartbeats 4000000 in
theorem heldP_any (a : Option Addr) (c k0 : Nat) (ps : List Pr) (w : World) (hR : SrcP w a (mkP k0 ps)) (hw : wtP ps ≤ 1048576) (h0 : 0 < k0) (hk0 : k0 ≤ 800000) :
    Calls Tryd.prog 10 #[.slice a ps.length c, .int .i64 (k0 : Int)] w fun e w' => e = .returned (.int .i64 ((kAt k0 ps ps.length : Nat) : Int)) ∧ Below w.heap.size w w' := by
  have hn : ps.length ≤ 1048576 := by have := wt_len ps; omega
  have HER : Hid (SrcP w a (mkP k0 ps)) := hR
  have HW : Hid (wtP ps ≤ 1048576) := hw
  clear hR hw
  obtain ⟨n, hnn⟩ : ∃ n, ps.length = n := ⟨_, rfl⟩
  have HNN : Hid (ps.length = n) := hnn
  rw [hnn] at hn ⊢
  clear hnn
  go_enter Tryd.func10, Tryd.ntmps10
  go_wp2
  go_loopw [1, 5] (fun v x wr => ∃ (i : Nat), i ≤ n ∧ x = .int .i64 (i : Int) ∧ v = .int .i64 ((kAt k0 ps i : Nat) : Int) ∧ Below w.heap.size w wr) (fun _ x _ => n - (intOf x).toNat)
  case atStart => exact ⟨0, Nat.zero_le _, rfl, by simp [kAt], Below.refl _ _⟩
  case round =>
    obtain ⟨i, hi, rfl, rfl, hbel⟩ := hrel
    by_cases h : i < n
    · have h' : (i : Int) < (n : Int) := by omega
      have HBB : Hid (Below w.heap.size w wr) := hbel
      obtain ⟨x, hx⟩ : ∃ x, ps[i]? = some x := ⟨_, List.getElem?_eq_getElem (by rw [HNN.out]; exact h)⟩
      have hxl : x.gens.length ≤ 1048576 := by have := wt_gens (List.mem_of_getElem? hx); have := HW.out; omega
      have hxi : (mkP k0 ps)[i]? = some (mP k0 ps i x) := by unfold mkP; rw [mkTo_at, hx]; simp [HNN.out, h]
      rcases HER.out with he | ⟨b, o, rfl, hc⟩
      · have := congrArg List.length he; unfold mkP at this; rw [mkTo_len, HNN.out] at this; simp at this; omega
      obtain ⟨u, cu, e0, e1, e2, hsg⟩ := hc i _ hxi
      have HC : Hid (∀ W, Below w.heap.size w W → W.cell? ⟨b, o + i * 3, none⟩ = some (.string (sr.mark (kAt k0 ps i))) ∧ W.cell? ⟨b, o + i * 3 + 1, none⟩ = some (.int .i64 ((kAt k0 ps i + 1 : Nat) : Int)) ∧ W.cell? ⟨b, o + i * 3 + 2, none⟩ = some (.slice u x.gens.length cu)) := fun W hW => by
        have k : ∀ {p v}, w.cell? ⟨b, p, none⟩ = some v → W.cell? ⟨b, p, none⟩ = some v := fun {p v} h => (hW.cell (p := ⟨b, p, none⟩) (World.block_lt_of_cell? _ _ h)).trans h
        refine ⟨k e0, k e1, ?_⟩
        have := k e2
        unfold mP at this
        rwa [mkG_len] at this
      have HHG : Hid (∀ W, Below w.heap.size w W → SrcG W u (mkG (kAt k0 ps i + 2) x.gens.length)) := fun W hW => hsg.below hW
      have HKS : Hid (kAt k0 ps (i + 1) = kAt k0 ps i + (2 + 2 * x.gens.length)) := kAt_succ hx
      have hKb0 : kAt k0 ps i ≤ 2897152 := by have := kAt_le k0 ps i; have := HW.out; omega
      have hK1 : 0 < kAt k0 ps i := by unfold kAt; omega
      obtain ⟨K, hK⟩ : ∃ K : Nat, kAt k0 ps i = K := ⟨_, rfl⟩
      obtain ⟨m, hm⟩ : ∃ m, x.gens.length = m := ⟨_, rfl⟩
      rw [hK, hm] at HC HHG HKS
      rw [hm] at hxl
      rw [hK] at hKb0 hK1 ⊢
      have HM0 : Hid (∀ W, Calls Tryd.prog 24 #[.int .i64 (K : Int)] W fun e w' => e = .returned (.string (sr.mark K)) ∧ Below W.heap.size W w') := fun W => sr.mark_any K hK1 (by omega) W
      obtain ⟨s, hs⟩ : ∃ s, sr.mark K = s := ⟨_, rfl⟩
      rw [hs] at HM0 HC
      have HHH : Hid (∀ W, Below w.heap.size w W → Calls Tryd.prog 26 #[.slice u m cu, .int .i64 ((K : Int) + 1 + 1)] W fun e w' => e = .returned (.int .i64 ((K + 2 + 2 * m : Nat) : Int)) ∧ Below W.heap.size W w') := fun W hW => by
        have := heldG_any u m cu (K + 2) W (HHG.out W hW) (by omega) hxl (by omega)
        rwa [show ((K + 2 : Nat) : Int) = (K : Int) + 1 + 1 by omega] at this
      clear hx hxi hc e0 e1 e2 hsg hK hm hs hbel
      have HCd : Hid (∀ W, Below w.heap.size w W → W.cell? ⟨b, o + i * 3, none⟩ = some (.string s)) := fun W hW => (HC.out W hW).1
      have d0 := HCd.out wr HBB.out
      go_wp2_with fail
      go_region_held3 (fun w' => w'.cell? ⟨b, o + i * 3, none⟩ = some (.string s))
        (first
          | go_keep
          | exact HCd.out _ (HBB.out.drew.trans (hb1.mono HBB.out.size)))
        (first | ((go_at_call 24; refine (HM0.out _).mono ?_; rintro e w1 ⟨rfl, hb1⟩)))
      have HB1 : Hid (Below w.heap.size w w1) := HBB.out.drew.trans (hb1.mono HBB.out.size)
      have f1 := (HC.out w1 HB1.out).2.1
      have f2 := (HC.out w1 HB1.out).2.2
      rw [show ((K + 1 : Nat) : Int) = (K : Int) + 1 by omega] at f1
      have hneg : ¬ ((K + 2 + 2 * m : Nat) : Int) < 0 := by omega
      obtain ⟨Z, hZ⟩ : ∃ Z : Nat, K + 2 + 2 * m = Z := ⟨_, rfl⟩
      have HZ : Hid (K + 2 + 2 * m = Z) := hZ
      rw [hZ] at hneg HHH
      clear hb1 d0 hZ
      go_wp2_with (go_at_call 26; refine (HHH.out _ HB1.out).mono ?_; rintro e w2 ⟨rfl, hb2⟩)
      have HB2 : Hid (Below w.heap.size w w2) := HB1.out.trans (hb2.mono HB1.out.size)
      go_roundw
      case rel => exact ⟨i + 1, by omega, by go_num, by rw [HKS.out]; simp only [Value.int.injEq, true_and]; have := HZ.out; omega, HB2.out⟩
      case measure => simp [intOf]; omega
    · have h' : ¬ (i : Int) < (n : Int) := by omega
      obtain rfl : i = n := by omega
      go_wp2
      go_ret
      exact ⟨rfl, hbel⟩

end Go.Proofs.YtoaccaiddifliaaDoor.pf
