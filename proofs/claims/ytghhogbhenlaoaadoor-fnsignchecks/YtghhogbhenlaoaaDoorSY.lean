import Derived.Test.YtghhogbhenlaoaaDoorSQ
import Derived.Test.YtghhogbhenlaoaaDoorSS
import Derived.Test.YtghhogbhenlaoaaDoorSX
import Derived.Test.YtghhogbhenlaoaaDoorSD
import Derived.Test.YtghhogbhenlaoaaDoorBF
import Derived.Laws.StructEq
import Derived.Deep.Cut
namespace Go.Proofs.YtghhogbhenlaoaaDoor.sg
open Go.ChangeShapes Go.WideShapes Go.ChangeAt Go.RowKit Go.Deep
set_option linter.unusedVariables false
set_option linter.unusedSimpArgs false

theorem big_any (a : Option Addr) (n cap : Nat) (w : World) : Calls Tryd.prog 4 #[.slice a n cap] w fun e w' => e = .returned (.bool (decide ((1048576 : Int) < (n : Int)))) ∧ w' = w := by
  go_enter Tryd.func4, Tryd.ntmps4
  go_wp2
  go_ret
  exact ⟨rfl, rfl⟩

theorem small_any (w : World) : Calls Tryd.prog 6 #[.int .u64 257, .int .u64 65537, .int .u64 3] w fun en w' => (∃ E D : Nat, en = .returned (.tuple #[.agg #[.int .u64 16843009, .int .u64 (E : Int), .int .u64 (D : Int)], .bool true])) ∧ Below w.heap.size w w' := by
  refine (imake_any 257 65537 3 (by omega) (by omega) (by omega) w).mono ?_
  rintro en w' ⟨rfl, hb⟩
  rw [small_key.1, small_key.2]
  exact ⟨⟨_, _, rfl⟩, hb⟩

theorem one_cells {w w3 : World} {v0 v1 v2 : Value} {t : TypeId} : ∀ W, Below (w.alloc (.cells #[v0, v1, v2] t)).heap.size (w.alloc (.cells #[v0, v1, v2] t)) W → W.cell? ⟨w.heap.size, 0, none⟩ = some v0 ∧ W.cell? ⟨w.heap.size, 1, none⟩ = some v1 ∧ W.cell? ⟨w.heap.size, 2, none⟩ = some v2 := fun W h =>
  ⟨((bcell h).1 w.heap.size 0 (by simp)).trans (by simp), ((bcell h).1 w.heap.size 1 (by simp)).trans (by simp), ((bcell h).1 w.heap.size 2 (by simp)).trans (by simp)⟩

/-- The bytes that came in, as values that can be appended. -/
def Given (w : World) (a : Option Addr) (n cap : Nat) : Prop := (a = none ∧ n = 0 ∧ cap = 0) ∨ ∃ x m, a = some x ∧ List.length (α := UInt8) m = n ∧ ∀ j u, (bf.byteVals m)[j]? = some u → w.cell? (x.add j) = some u

theorem none_bf0 (w : World) (e : TypeId) : bf.Bf w.heap.size (w.alloc (.cells #[] e)) w.heap.size 0 [] :=
  ⟨Nat.le_refl _, by simp, fun j h => absurd h (by simp), fun j h => absurd h (Nat.not_lt_zero j), Nat.le_refl _, Nat.zero_le _⟩

theorem seven_at (w : World) (e : TypeId) : ∀ j u, (bf.byteVals [(7 : UInt8)])[j]? = some u → (w.alloc (.cells #[.int .u8 7] e)).cell? ((⟨w.heap.size, 0, none⟩ : Addr).add j) = some u := one_new w _ e

theorem seven_at' (w : World) (k : Nat) (hk : k = w.heap.size) (e : TypeId) : ∀ j u, (bf.byteVals [(7 : UInt8)])[j]? = some u → (w.alloc (.cells #[.int .u8 7] e)).cell? ((⟨k, 0, none⟩ : Addr).add j) = some u := by
  subst hk
  exact seven_at w e

theorem nil_app (w : World) (g : Nat) (ty : TypeId) : (Builtin.append_ #[22, 22] ty #[.slice (some ⟨g, 0, none⟩) 0 0, .slice none 0 0]).run Tryd.prog w = .ok (.slice (some ⟨g, 0, none⟩) 0 0) w := by
  simp [Builtin.append_, go_sem]

theorem info5 : (Tryd.prog.info? 5).map (fun i => (i.zero, i.size, i.bytes)) = some (some (.int .u8 0), 1, 1) := by kernel_rfl

def inZ (l : List UInt8) : List Int := l.map fun b => (b.toNat : Int)
theorem bs_of {base : Nat} {w : World} {g cap z : Nat} {l : List UInt8} (hz : z = l.length) (h : bf.Bf base w g cap l) : sm.Bs w (some ⟨g, 0, none⟩) z (inZ l) := by
  subst hz
  exact .inr ⟨g, 0, rfl, fun i hi => by rw [Nat.zero_add, h.cells i hi]; simp [inZ, hi]⟩

/-- The bytes with one more behind. -/
def Oth (w : World) (v : Value) (n : Nat) : Prop := ∃ (g c z : Nat) (L : List UInt8) (base : Nat), v = .slice (some ⟨g, 0, none⟩) z c ∧ z = L.length ∧ L.length ≤ n + 1 ∧ bf.Bf base w g c L

theorem me_size (N E : Nat) : (ktA ⟨#[109, 101]⟩ N E).size ≤ 1048576 := by
  have h : nm.nameB ⟨#[109, 101]⟩ = true := by decide
  rw [← size_list, kt_list h]
  simp [wd.wordA_size]

set_option maxHeartbeats 4000000 in
theorem keys_law (a : Option Addr) (n cap : Nat) (l : List Int) (w : World) (hb : dr.CodeB w a n) (hlt : ∀ x, a = some x → 0 < n → x.block < w.heap.size) (hS : sm.Bs w a n l) (hG : Given w a n cap) (hT : wd.TabB w) (hm : ML w) :
    Calls Tryd.prog 3 #[.slice a n cap] w fun e w' => e = .returned (.bool true) ∧ Below w.heap.size w w' := by
  have cb := big_any a n cap w
  by_cases hf : 1048576 < n
  · rw [show decide ((1048576 : Int) < (n : Int)) = true from decide_eq_true (by omega)] at cb
    clear hb hlt hf hS hG
    go_enter Tryd.func3, Tryd.ntmps3
    go_wp2_with (first | (go_at_call 4; refine cb.mono ?_; rintro e w' ⟨rfl, rfl⟩) | go_in)
    go_ret
    exact ⟨rfl, Below.refl _ _⟩
  rw [show decide ((1048576 : Int) < (n : Int)) = false from decide_eq_false (by omega)] at cb
  have cd := drawKey a n cap w hb (by omega) hlt
  have HN : Hid (n ≤ 1048576) := (by omega : n ≤ 1048576)
  have HS : Hid (sm.Bs w a n l) := hS
  have HG : Hid (Given w a n cap) := hG
  have HT : Hid (wd.TabB w) := hT
  have HM : Hid (ML w) := hm
  clear hb hlt hf hS hG hT hm
  go_enter Tryd.func3, Tryd.ntmps3
  go_wp2_with (first | (go_at_call 4; refine cb.mono ?_; rintro e w ⟨rfl, rfl⟩) | (go_at_call 5; refine cd.mono ?_; rintro en w1 ⟨⟨p, q, e, rfl, hp, hq, he⟩, B1⟩; refine Hid.out ?_) | go_in)
  refine Lib.hid ?_
  clear cb cd
  have ci := fun W => imake_any p q e hp hq he W
  have cs := fun W => smake_any p q e hp hq he W
  clear hp hq he
  obtain ⟨bB, hbB⟩ : ∃ bB, kB p q e = bB := ⟨_, rfl⟩
  obtain ⟨N, hNN⟩ : ∃ N, kN p q e = N := ⟨_, rfl⟩
  obtain ⟨E, hEE⟩ : ∃ E, kE p q e = E := ⟨_, rfl⟩
  obtain ⟨D, hDD⟩ : ∃ D, kD p q e = D := ⟨_, rfl⟩
  rw [hbB, hNN, hEE, hDD] at ci cs
  go_wp2_with (first | (go_at_call 6; refine (ci _).mono ?_; rintro en w2 ⟨rfl, hl2⟩; refine Hid.out ?_) | go_in)
  refine Lib.hid ?_
  have B2' := B1.trans (hl2.mono B1.size)
  have HKC : Hid (∀ W, Below (w2.alloc (.cells #[.int .u64 (N : Int), .int .u64 (E : Int), .int .u64 (D : Int)] 28)).heap.size (w2.alloc (.cells #[.int .u64 (N : Int), .int .u64 (E : Int), .int .u64 (D : Int)] 28)) W → W.cell? ⟨w2.heap.size, 0, none⟩ = some (.int .u64 (N : Int)) ∧ W.cell? ⟨w2.heap.size, 1, none⟩ = some (.int .u64 (E : Int)) ∧ W.cell? ⟨w2.heap.size, 2, none⟩ = some (.int .u64 (D : Int))) := one_cells (w3 := w2)
  have B2 := B2'.alloc B2'.size (.cells #[.int .u64 (N : Int), .int .u64 (E : Int), .int .u64 (D : Int)] 28)
  clear ci hl2 B1 B2'
  go_wp2_with (first | (go_at_call 6; refine (small_any _).mono ?_; rintro en w3 ⟨⟨E3, D3, rfl⟩, hl3⟩; refine Hid.out ?_) | go_in)
  refine Lib.hid ?_
  have B3 := B2.trans (hl3.mono B2.size)
  have C3 := hl3
  obtain ⟨W2, hW2⟩ : ∃ W2 : World, W2 = w2.alloc (.cells #[.int .u64 (N : Int), .int .u64 (E : Int), .int .u64 (D : Int)] 28) := ⟨_, rfl⟩
  rw [← hW2] at HKC C3
  have hs2 : w2.heap.size < W2.heap.size := by rw [hW2]; simp
  clear hl3 B2 hW2
  have B3' := B3.alloc B3.size (.cells #[.int .u64 16843009, .int .u64 (E3 : Int), .int .u64 (D3 : Int)] 28)
  have C3' := C3.alloc C3.size (.cells #[.int .u64 16843009, .int .u64 (E3 : Int), .int .u64 (D3 : Int)] 28)
  go_wp2_with (first | (go_at_call 7; refine (cs _).mono ?_; rintro en w4 ⟨rfl, hl4⟩; refine Hid.out ?_) | go_in)
  refine Lib.hid ?_
  have B4 := B3'.trans (hl4.mono B3'.size)
  have C4 := C3'.trans (hl4.mono C3'.size)
  clear hl4 B3 C3 B3' C3' cs
  have B5 := fun o => B4.alloc B4.size o
  have C5 := fun o => C4.alloc C4.size o
  have k0 := fun o => (HKC.out _ (C5 o)).1
  have k1 := fun o => (HKC.out _ (C5 o)).2.1
  have k2 := fun o => (HKC.out _ (C5 o)).2.2
  cases bB
  · have K := kB_no (p := p) (q := q) (e := e) (fun x => by have := kB_iff.2 x; rw [hbB] at this; cases this)
    obtain ⟨_, y1, y2, y3⟩ := K
    rw [hNN] at y1
    rw [hEE] at y2
    rw [hDD] at y3
    subst y1
    subst y2
    subst y3
    clear hNN hEE hDD hbB HN HS HG HT HM
    go_wp2
    go_ret
    exact ⟨by first | rfl | (apply ret_bool; decide), B5 _⟩
  obtain ⟨gN, g1, g2, g3, g4⟩ := kE_ge hbB
  rw [hNN] at gN
  rw [hEE] at g3
  rw [hDD] at g4
  rw [← gN] at g1 g2
  obtain ⟨S, hSV⟩ : ∃ S, SV l n = S := ⟨_, rfl⟩
  have lS : S < 18446744073709551616 := by rw [← hSV]; exact (SV_is l n).2
  have hN0 : ¬ N = 0 := by omega
  obtain ⟨s, hsg⟩ : ∃ s, pm (S % N) D N = s := ⟨_, rfl⟩
  have hsV : sgV N D S = s := by unfold sgV; rw [if_neg hN0, hsg]
  have lsN : s < N := by rw [← hsg]; exact pm_lt (by omega)
  have hck : pm s E N = S % N := by
    have := sign_checks hbB S
    rw [← gN, hEE, hDD, hsg] at this
    exact this
  have hc1 : chB N E S s = true := by unfold chB; simp [hN0, lsN, hck]
  obtain ⟨s1, hs1⟩ : ∃ s1, s + 1 = s1 := ⟨_, rfl⟩
  obtain ⟨t1, ht1⟩ : ∃ t1, s1 % N = t1 := ⟨_, rfl⟩
  have lt1 : t1 < N := by rw [← ht1]; exact Nat.mod_lt _ (by omega)
  have hne : t1 ≠ s := by
    rw [← ht1, ← hs1]
    rcases Nat.lt_or_ge (s + 1) N with h | h
    · rw [Nat.mod_eq_of_lt h]; omega
    · rw [show s + 1 = N by omega, Nat.mod_self]; omega
  have hc2 : chB N E S t1 = false := by
    unfold chB
    have : ¬ pm t1 E N = S % N := fun x => hne (by
      have := other_not hbB (s := t1) (t := s) (by rw [← gN]; exact lt1) (by rw [← gN]; exact lsN) (by rw [← gN, hEE, x, hck])
      exact this)
    simp [this]
  obtain ⟨u1, hu1⟩ : ∃ u1, s + N = u1 := ⟨_, rfl⟩
  have hc3 : chB N E S u1 = false := by
    unfold chB
    have : ¬ u1 < N := by omega
    simp [this]
  have f1 : IntKind.u64.wrap ((s : Int) + 1) = (s1 : Int) := by rw [IntKind.wrap_u64]; omega
  have f2 : (s1 : Int) % (N : Int) = (t1 : Int) := by rw [← ht1, Int.natCast_emod]
  have f2' : Int.tmod (s1 : Int) (N : Int) = (t1 : Int) := by rw [Int.tmod_eq_emod_of_nonneg (by omega)]; exact f2
  have f3 : IntKind.u64.wrap ((s : Int) + (N : Int)) = (u1 : Int) := by rw [IntKind.wrap_u64]; omega
  have lu : u1 < 18446744073709551616 := by omega
  have hn40 : n ≤ 1099511627776 := by have := HN.out; omega
  have HSG : Hid (∀ W, Below w.heap.size w W → Calls Tryd.prog 8 #[.agg #[.int .u64 (N : Int), .int .u64 (E : Int), .int .u64 (D : Int)], .slice a n cap] W fun en w' => en = .returned (.int .u64 (s : Int)) ∧ Below W.heap.size W w') := fun W h => by
    have := isign_any N E D (by omega) g4 a n cap l W (HS.out.below h) hn40
    rwa [hSV, hsV] at this
  have HC1 : Hid (∀ W, Below w.heap.size w W → Calls Tryd.prog 9 #[.int .u64 (N : Int), .int .u64 (E : Int), .slice a n cap, .int .u64 (s : Int)] W fun en w' => en = .returned (.bool true) ∧ Below W.heap.size W w') := fun W h => by
    have := icheck_any N E s (by omega) (by omega) (by omega) a n cap l W (HS.out.below h) hn40
    rwa [hSV, hc1] at this
  have HC2 : Hid (∀ W, Below w.heap.size w W → Calls Tryd.prog 9 #[.int .u64 (N : Int), .int .u64 (E : Int), .slice a n cap, .int .u64 (t1 : Int)] W fun en w' => en = .returned (.bool false) ∧ Below W.heap.size W w') := fun W h => by
    have := icheck_any N E t1 (by omega) (by omega) (by omega) a n cap l W (HS.out.below h) hn40
    rwa [hSV, hc2] at this
  have HC3 : Hid (∀ W, Below w.heap.size w W → Calls Tryd.prog 9 #[.int .u64 (N : Int), .int .u64 (E : Int), .slice a n cap, .int .u64 (u1 : Int)] W fun en w' => en = .returned (.bool false) ∧ Below W.heap.size W w') := fun W h => by
    have := icheck_any N E u1 (by omega) (by omega) lu a n cap l W (HS.out.below h) hn40
    rwa [hSV, hc3] at this
  have HSC : Hid (∀ W, Below w.heap.size w W → Calls Tryd.prog 10 #[.slice a n cap] W fun en w' => en = .returned (.int .u64 (S : Int)) ∧ w' = W) := fun W h => by
    have := isum_any a n cap l W (HS.out.below h) hn40
    rwa [hSV] at this
  have HK2 : Hid (∀ W, Below W2.heap.size W2 W → W.cell? ⟨w2.heap.size, 0, none⟩ = some (.int .u64 (N : Int)) ∧ W.cell? ⟨w2.heap.size, 1, none⟩ = some (.int .u64 (E : Int))) := fun W h => ⟨(HKC.out W h).1, (HKC.out W h).2.1⟩
  have HCHK : Hid (pm s E N = S % N) := hck
  have HBD : Hid (N < 18446744073709551616 ∧ E < 18446744073709551616 ∧ s < 18446744073709551616) := ⟨by omega, by omega, by omega⟩
  clear hbB hNN hEE hDD gN g1 g2 g3 g4 hSV lS hsg hsV lsN hck hc1 hs1 ht1 lt1 hne hc2 hu1 hc3 lu hn40
  go_wp2_with (first | (go_at_call 8; refine (HSG.out _ (B5 _)).mono ?_; rintro en w6 ⟨rfl, hl6⟩; refine Hid.out ?_) | go_in)
  refine Lib.hid ?_
  have B6 := (B5 _).trans (hl6.mono (B5 _).size)
  have C6 := (C5 _).trans (hl6.mono (C5 _).size)
  clear hl6 B4 C4 B5 C5 k0 k1 k2
  go_upto_region 14 with fail
  refine wp_region_held_drew (S := (fun W => W.cell? ⟨w2.heap.size, 0, none⟩ = some (.int .u64 (N : Int)) ∧ W.cell? ⟨w2.heap.size, 1, none⟩ = some (.int .u64 (E : Int)))) (by kernel_rfl) (HK2.out _ C6.drew) (fun hHeld => ?_)
  refine wpAnyH_take (i := 0) (oi := ⟨some 60, .fieldAddr 28 (.tmp 6) 0, 0, "laws.go:1055", #[], none⟩) (v := ?v1) rfl (by kernel_rfl) (by kernel_rfl) (by kernel_rfl) (fun _ _ _ h => h) (Or.inl ⟨by rfl, ?hy1⟩) (by assumption) ?r1
  case hy1 => (intro w hSw; (try dsimp only at hSw); go_simp; try with_reducible rfl)
  try simp only [Act.put, List.setIfInBounds_toArray, List.set_cons_zero, List.set_cons_succ]
  refine wpAnyH_take (i := 1) (oi := ⟨some 61, .load 24 (.tmp 60), 24, "laws.go:1055", #[⟨0, .data⟩], none⟩) (v := ?v2) rfl (by kernel_rfl) (by kernel_rfl) (by kernel_rfl) (fun _ _ _ h => h) (Or.inl ⟨by rfl, ?hy2⟩) (by assumption) ?r2
  case hy2 => (intro w hSw; (try dsimp only at hSw); go_simp; try with_reducible rfl)
  try simp only [Act.put, List.setIfInBounds_toArray, List.set_cons_zero, List.set_cons_succ]
  refine wpAnyH_take (i := 2) (oi := ⟨some 62, .fieldAddr 28 (.tmp 6) 1, 0, "laws.go:1055", #[], none⟩) (v := ?v3) rfl (by kernel_rfl) (by kernel_rfl) (by kernel_rfl) (fun _ _ _ h => h) (Or.inl ⟨by rfl, ?hy3⟩) (by assumption) ?r3
  case hy3 => (intro w hSw; (try dsimp only at hSw); go_simp; try with_reducible rfl)
  try simp only [Act.put, List.setIfInBounds_toArray, List.set_cons_zero, List.set_cons_succ]
  refine wpAnyH_take (i := 3) (oi := ⟨some 63, .load 24 (.tmp 62), 24, "laws.go:1055", #[⟨2, .data⟩], none⟩) (v := ?v4) rfl (by kernel_rfl) (by kernel_rfl) (by kernel_rfl) (fun _ _ _ h => h) (Or.inl ⟨by rfl, ?hy4⟩) (by assumption) ?r4
  case hy4 => (intro w hSw; (try dsimp only at hSw); go_simp; try with_reducible rfl)
  try simp only [Act.put, List.setIfInBounds_toArray, List.set_cons_zero, List.set_cons_succ]
  refine wpAnyH_take (i := 4) (oi := ⟨some 64, .move (.tmp 0), 22, "laws.go:1055", #[], none⟩) (v := ?v5) rfl (by kernel_rfl) (by kernel_rfl) (by kernel_rfl) (fun _ _ _ h => h) (Or.inl ⟨by rfl, ?hy5⟩) (by assumption) ?r5
  case hy5 => (intro w hSw; (try dsimp only at hSw); go_simp; try with_reducible rfl)
  try simp only [Act.put, List.setIfInBounds_toArray, List.set_cons_zero, List.set_cons_succ]
  refine wpAnyH_take (i := 5) (oi := ⟨some 65, .move (.tmp 12), 24, "laws.go:1055", #[], none⟩) (v := ?v6) rfl (by kernel_rfl) (by kernel_rfl) (by kernel_rfl) (fun _ _ _ h => h) (Or.inl ⟨by rfl, ?hy6⟩) (by assumption) ?r6
  case hy6 => (intro w hSw; (try dsimp only at hSw); go_simp; try with_reducible rfl)
  try simp only [Act.put, List.setIfInBounds_toArray, List.set_cons_zero, List.set_cons_succ]
  refine wpAnyH_ready (rs := [6]) (by kernel_rfl) (by simp) ?_
  refine AllReadyH.cons (o := ⟨some 66, .call { callee := .value (.func 9), args := #[.tmp 61, .tmp 63, .tmp 64, .tmp 65], argTypes := #[24, 24, 22, 24] }, 4, "laws.go:1055", #[⟨1, .data⟩, ⟨3, .data⟩, ⟨4, .data⟩, ⟨5, .data⟩], none⟩) rfl (fun K hK => ?_) AllReadyH.nil
  go_simp
  go_at_call 9
  refine (HC1.out _ (B6.drew)).mono ?_
  rintro en w7 ⟨rfl, hl⟩
  have Bw7 := (B6.drew).trans (hl.mono (B6.drew).size)
  have Cw7 := (C6.drew).trans (hl.mono (C6.drew).size)
  clear hl
  try go_wp2_with fail
  refine hK.out _ _ (HK2.out _ Cw7) (fun hHeld => ?_)
  clear hK K
  try simp only [Act.put, List.setIfInBounds_toArray, List.set_cons_zero, List.set_cons_succ]
  refine wpAnyH_take (i := 7) (oi := ⟨some 67, .unOp .not 4 (.tmp 66), 4, "laws.go:1055", #[⟨6, .data⟩], none⟩) (v := ?v7) rfl (by kernel_rfl) (by kernel_rfl) (by kernel_rfl) (fun _ _ _ h => h) (Or.inl ⟨by rfl, ?hy7⟩) (by assumption) ?r7
  case hy7 => (intro w hSw; (try dsimp only at hSw); go_simp; try with_reducible rfl)
  try simp only [Act.put, List.setIfInBounds_toArray, List.set_cons_zero, List.set_cons_succ]
  refine wpAnyH_take (i := 8) (oi := ⟨some 68, .move (.tmp 67), 4, "laws.go:1055", #[⟨7, .data⟩, ⟨6, .chain⟩], none⟩) (v := ?v8) rfl (by kernel_rfl) (by kernel_rfl) (by kernel_rfl) (fun _ _ _ h => h) (Or.inl ⟨by rfl, ?hy8⟩) (by assumption) ?r8
  case hy8 => (intro w hSw; (try dsimp only at hSw); go_simp; try with_reducible rfl)
  try simp only [Act.put, List.setIfInBounds_toArray, List.set_cons_zero, List.set_cons_succ]
  refine wpAnyH_take (i := 9) (oi := ⟨some 69, .fieldAddr 28 (.tmp 6) 0, 0, "laws.go:1055", #[⟨8, .guard⟩], some (8, false)⟩) (v := ?v9) rfl (by kernel_rfl) (by kernel_rfl) (by kernel_rfl) (fun _ _ _ h => h) (Or.inl ⟨by rfl, ?hy9⟩) (by assumption) ?r9
  case hy9 => (intro w hSw; (try dsimp only at hSw); go_simp; try with_reducible rfl)
  try simp only [Act.put, List.setIfInBounds_toArray, List.set_cons_zero, List.set_cons_succ]
  refine wpAnyH_take (i := 10) (oi := ⟨some 70, .load 24 (.tmp 69), 24, "laws.go:1055", #[⟨9, .data⟩, ⟨8, .guard⟩], some (8, false)⟩) (v := ?v10) rfl (by kernel_rfl) (by kernel_rfl) (by kernel_rfl) (fun _ _ _ h => h) (Or.inl ⟨by rfl, ?hy10⟩) (by assumption) ?r10
  case hy10 => (intro w hSw; (try dsimp only at hSw); go_simp; try with_reducible rfl)
  try simp only [Act.put, List.setIfInBounds_toArray, List.set_cons_zero, List.set_cons_succ]
  refine wpAnyH_take (i := 11) (oi := ⟨some 71, .fieldAddr 28 (.tmp 6) 1, 0, "laws.go:1055", #[⟨8, .guard⟩], some (8, false)⟩) (v := ?v11) rfl (by kernel_rfl) (by kernel_rfl) (by kernel_rfl) (fun _ _ _ h => h) (Or.inl ⟨by rfl, ?hy11⟩) (by assumption) ?r11
  case hy11 => (intro w hSw; (try dsimp only at hSw); go_simp; try with_reducible rfl)
  try simp only [Act.put, List.setIfInBounds_toArray, List.set_cons_zero, List.set_cons_succ]
  refine wpAnyH_take (i := 12) (oi := ⟨some 72, .load 24 (.tmp 71), 24, "laws.go:1055", #[⟨11, .data⟩, ⟨8, .guard⟩], some (8, false)⟩) (v := ?v12) rfl (by kernel_rfl) (by kernel_rfl) (by kernel_rfl) (fun _ _ _ h => h) (Or.inl ⟨by rfl, ?hy12⟩) (by assumption) ?r12
  case hy12 => (intro w hSw; (try dsimp only at hSw); go_simp; try with_reducible rfl)
  try simp only [Act.put, List.setIfInBounds_toArray, List.set_cons_zero, List.set_cons_succ]
  refine wpAnyH_take (i := 13) (oi := ⟨some 73, .move (.tmp 0), 22, "laws.go:1055", #[⟨8, .guard⟩], some (8, false)⟩) (v := ?v13) rfl (by kernel_rfl) (by kernel_rfl) (by kernel_rfl) (fun _ _ _ h => h) (Or.inl ⟨by rfl, ?hy13⟩) (by assumption) ?r13
  case hy13 => (intro w hSw; (try dsimp only at hSw); go_simp; try with_reducible rfl)
  try simp only [Act.put, List.setIfInBounds_toArray, List.set_cons_zero, List.set_cons_succ]
  refine wpAnyH_take (i := 14) (oi := ⟨some 74, .move (.tmp 12), 24, "laws.go:1055", #[⟨8, .guard⟩], some (8, false)⟩) (v := ?v14) rfl (by kernel_rfl) (by kernel_rfl) (by kernel_rfl) (fun _ _ _ h => h) (Or.inl ⟨by rfl, ?hy14⟩) (by assumption) ?r14
  case hy14 => (intro w hSw; (try dsimp only at hSw); go_simp; try with_reducible rfl)
  try simp only [Act.put, List.setIfInBounds_toArray, List.set_cons_zero, List.set_cons_succ]
  refine wpAnyH_take (i := 15) (oi := ⟨some 75, .binOp .add 24 (.tmp 74) (.const (.int .u64 1)) 24, 24, "laws.go:1055", #[⟨14, .data⟩, ⟨8, .guard⟩], some (8, false)⟩) (v := ?v15) rfl (by kernel_rfl) (by kernel_rfl) (by kernel_rfl) (fun _ _ _ h => h) (Or.inl ⟨by rfl, ?hy15⟩) (by assumption) ?r15
  case hy15 => (intro w hSw; (try dsimp only at hSw); go_simp; try with_reducible rfl)
  try simp only [Act.put, List.setIfInBounds_toArray, List.set_cons_zero, List.set_cons_succ]
  refine wpAnyH_take (i := 16) (oi := ⟨some 76, .fieldAddr 28 (.tmp 6) 0, 0, "laws.go:1055", #[⟨8, .guard⟩], some (8, false)⟩) (v := ?v16) rfl (by kernel_rfl) (by kernel_rfl) (by kernel_rfl) (fun _ _ _ h => h) (Or.inl ⟨by rfl, ?hy16⟩) (by assumption) ?r16
  case hy16 => (intro w hSw; (try dsimp only at hSw); go_simp; try with_reducible rfl)
  try simp only [Act.put, List.setIfInBounds_toArray, List.set_cons_zero, List.set_cons_succ]
  refine wpAnyH_take (i := 17) (oi := ⟨some 77, .load 24 (.tmp 76), 24, "laws.go:1055", #[⟨16, .data⟩, ⟨8, .guard⟩], some (8, false)⟩) (v := ?v17) rfl (by kernel_rfl) (by kernel_rfl) (by kernel_rfl) (fun _ _ _ h => h) (Or.inl ⟨by rfl, ?hy17⟩) (by assumption) ?r17
  case hy17 => (intro w hSw; (try dsimp only at hSw); go_simp; try with_reducible rfl)
  try simp only [Act.put, List.setIfInBounds_toArray, List.set_cons_zero, List.set_cons_succ]
  refine wpAnyH_take (i := 18) (oi := ⟨some 78, .binOp .rem 24 (.tmp 75) (.tmp 77) 24, 24, "laws.go:1055", #[⟨15, .data⟩, ⟨17, .data⟩, ⟨8, .guard⟩], some (8, false)⟩) (v := ?v18) rfl (by kernel_rfl) (by kernel_rfl) (by kernel_rfl) (fun _ _ _ h => h) (Or.inl ⟨by rfl, ?hy18⟩) (by assumption) ?r18
  case hy18 => (intro w hSw; (try dsimp only at hSw); go_simp; try with_reducible rfl)
  try simp only [Act.put, List.setIfInBounds_toArray, List.set_cons_zero, List.set_cons_succ]
  refine wpAnyH_ready (rs := [19]) (by kernel_rfl) (by simp) ?_
  refine AllReadyH.cons (o := ⟨some 79, .call { callee := .value (.func 9), args := #[.tmp 70, .tmp 72, .tmp 73, .tmp 78], argTypes := #[24, 24, 22, 24] }, 4, "laws.go:1055", #[⟨10, .data⟩, ⟨12, .data⟩, ⟨13, .data⟩, ⟨18, .data⟩, ⟨8, .chain⟩, ⟨8, .guard⟩], some (8, false)⟩) rfl (fun K hK => ?_) AllReadyH.nil
  go_simp
  go_at_call 9
  refine (HC2.out _ (Bw7)).mono ?_
  rintro en w8 ⟨rfl, hl⟩
  have Bw8 := (Bw7).trans (hl.mono (Bw7).size)
  have Cw8 := (Cw7).trans (hl.mono (Cw7).size)
  clear hl
  try go_wp2_with fail
  refine hK.out _ _ (HK2.out _ Cw8) (fun hHeld => ?_)
  clear hK K
  try simp only [Act.put, List.setIfInBounds_toArray, List.set_cons_zero, List.set_cons_succ]
  refine wpAnyH_take (i := 20) (oi := ⟨some 80, .pick (.tmp 68) (.const (.bool true)) (.tmp 79), 4, "laws.go:1055", #[⟨8, .data⟩, ⟨19, .data⟩], none⟩) (v := ?v19) rfl (by kernel_rfl) (by kernel_rfl) (by kernel_rfl) (fun _ _ _ h => h) (Or.inl ⟨by rfl, ?hy19⟩) (by assumption) ?r19
  case hy19 => (intro w hSw; (try dsimp only at hSw); go_simp; try with_reducible rfl)
  try simp only [Act.put, List.setIfInBounds_toArray, List.set_cons_zero, List.set_cons_succ]
  refine wpAnyH_take (i := 21) (oi := ⟨some 81, .move (.tmp 80), 4, "laws.go:1055", #[⟨20, .data⟩, ⟨19, .chain⟩], none⟩) (v := ?v20) rfl (by kernel_rfl) (by kernel_rfl) (by kernel_rfl) (fun _ _ _ h => h) (Or.inl ⟨by rfl, ?hy20⟩) (by assumption) ?r20
  case hy20 => (intro w hSw; (try dsimp only at hSw); go_simp; try with_reducible rfl)
  try simp only [Act.put, List.setIfInBounds_toArray, List.set_cons_zero, List.set_cons_succ]
  refine wpAnyH_take (i := 22) (oi := ⟨some 82, .fieldAddr 28 (.tmp 6) 0, 0, "laws.go:1055", #[⟨21, .guard⟩], some (21, false)⟩) (v := ?v21) rfl (by kernel_rfl) (by kernel_rfl) (by kernel_rfl) (fun _ _ _ h => h) (Or.inl ⟨by rfl, ?hy21⟩) (by assumption) ?r21
  case hy21 => (intro w hSw; (try dsimp only at hSw); go_simp; try with_reducible rfl)
  try simp only [Act.put, List.setIfInBounds_toArray, List.set_cons_zero, List.set_cons_succ]
  refine wpAnyH_take (i := 23) (oi := ⟨some 83, .load 24 (.tmp 82), 24, "laws.go:1055", #[⟨22, .data⟩, ⟨21, .guard⟩], some (21, false)⟩) (v := ?v22) rfl (by kernel_rfl) (by kernel_rfl) (by kernel_rfl) (fun _ _ _ h => h) (Or.inl ⟨by rfl, ?hy22⟩) (by assumption) ?r22
  case hy22 => (intro w hSw; (try dsimp only at hSw); go_simp; try with_reducible rfl)
  try simp only [Act.put, List.setIfInBounds_toArray, List.set_cons_zero, List.set_cons_succ]
  refine wpAnyH_take (i := 24) (oi := ⟨some 84, .fieldAddr 28 (.tmp 6) 1, 0, "laws.go:1055", #[⟨21, .guard⟩], some (21, false)⟩) (v := ?v23) rfl (by kernel_rfl) (by kernel_rfl) (by kernel_rfl) (fun _ _ _ h => h) (Or.inl ⟨by rfl, ?hy23⟩) (by assumption) ?r23
  case hy23 => (intro w hSw; (try dsimp only at hSw); go_simp; try with_reducible rfl)
  try simp only [Act.put, List.setIfInBounds_toArray, List.set_cons_zero, List.set_cons_succ]
  refine wpAnyH_take (i := 25) (oi := ⟨some 85, .load 24 (.tmp 84), 24, "laws.go:1055", #[⟨24, .data⟩, ⟨21, .guard⟩], some (21, false)⟩) (v := ?v24) rfl (by kernel_rfl) (by kernel_rfl) (by kernel_rfl) (fun _ _ _ h => h) (Or.inl ⟨by rfl, ?hy24⟩) (by assumption) ?r24
  case hy24 => (intro w hSw; (try dsimp only at hSw); go_simp; try with_reducible rfl)
  try simp only [Act.put, List.setIfInBounds_toArray, List.set_cons_zero, List.set_cons_succ]
  refine wpAnyH_take (i := 26) (oi := ⟨some 86, .move (.tmp 0), 22, "laws.go:1055", #[⟨21, .guard⟩], some (21, false)⟩) (v := ?v25) rfl (by kernel_rfl) (by kernel_rfl) (by kernel_rfl) (fun _ _ _ h => h) (Or.inl ⟨by rfl, ?hy25⟩) (by assumption) ?r25
  case hy25 => (intro w hSw; (try dsimp only at hSw); go_simp; try with_reducible rfl)
  try simp only [Act.put, List.setIfInBounds_toArray, List.set_cons_zero, List.set_cons_succ]
  refine wpAnyH_take (i := 27) (oi := ⟨some 87, .move (.tmp 12), 24, "laws.go:1055", #[⟨21, .guard⟩], some (21, false)⟩) (v := ?v26) rfl (by kernel_rfl) (by kernel_rfl) (by kernel_rfl) (fun _ _ _ h => h) (Or.inl ⟨by rfl, ?hy26⟩) (by assumption) ?r26
  case hy26 => (intro w hSw; (try dsimp only at hSw); go_simp; try with_reducible rfl)
  try simp only [Act.put, List.setIfInBounds_toArray, List.set_cons_zero, List.set_cons_succ]
  refine wpAnyH_take (i := 28) (oi := ⟨some 88, .fieldAddr 28 (.tmp 6) 0, 0, "laws.go:1055", #[⟨21, .guard⟩], some (21, false)⟩) (v := ?v27) rfl (by kernel_rfl) (by kernel_rfl) (by kernel_rfl) (fun _ _ _ h => h) (Or.inl ⟨by rfl, ?hy27⟩) (by assumption) ?r27
  case hy27 => (intro w hSw; (try dsimp only at hSw); go_simp; try with_reducible rfl)
  try simp only [Act.put, List.setIfInBounds_toArray, List.set_cons_zero, List.set_cons_succ]
  refine wpAnyH_take (i := 29) (oi := ⟨some 89, .load 24 (.tmp 88), 24, "laws.go:1055", #[⟨28, .data⟩, ⟨21, .guard⟩], some (21, false)⟩) (v := ?v28) rfl (by kernel_rfl) (by kernel_rfl) (by kernel_rfl) (fun _ _ _ h => h) (Or.inl ⟨by rfl, ?hy28⟩) (by assumption) ?r28
  case hy28 => (intro w hSw; (try dsimp only at hSw); go_simp; try with_reducible rfl)
  try simp only [Act.put, List.setIfInBounds_toArray, List.set_cons_zero, List.set_cons_succ]
  refine wpAnyH_take (i := 30) (oi := ⟨some 90, .binOp .add 24 (.tmp 87) (.tmp 89) 24, 24, "laws.go:1055", #[⟨27, .data⟩, ⟨29, .data⟩, ⟨21, .guard⟩], some (21, false)⟩) (v := ?v29) rfl (by kernel_rfl) (by kernel_rfl) (by kernel_rfl) (fun _ _ _ h => h) (Or.inl ⟨by rfl, ?hy29⟩) (by assumption) ?r29
  case hy29 => (intro w hSw; (try dsimp only at hSw); go_simp; try with_reducible rfl)
  try simp only [Act.put, List.setIfInBounds_toArray, List.set_cons_zero, List.set_cons_succ]
  refine wpAnyH_ready (rs := [31]) (by kernel_rfl) (by simp) ?_
  refine AllReadyH.cons (o := ⟨some 91, .call { callee := .value (.func 9), args := #[.tmp 83, .tmp 85, .tmp 86, .tmp 90], argTypes := #[24, 24, 22, 24] }, 4, "laws.go:1055", #[⟨23, .data⟩, ⟨25, .data⟩, ⟨26, .data⟩, ⟨30, .data⟩, ⟨21, .chain⟩, ⟨21, .guard⟩], some (21, false)⟩) rfl (fun K hK => ?_) AllReadyH.nil
  go_simp
  go_at_call 9
  refine (HC3.out _ (Bw8)).mono ?_
  rintro en w9 ⟨rfl, hl⟩
  have Bw9 := (Bw8).trans (hl.mono (Bw8).size)
  have Cw9 := (Cw8).trans (hl.mono (Cw8).size)
  clear hl
  try go_wp2_with fail
  refine hK.out _ _ (HK2.out _ Cw9) (fun hHeld => ?_)
  clear hK K
  try simp only [Act.put, List.setIfInBounds_toArray, List.set_cons_zero, List.set_cons_succ]
  refine wpAnyH_take (i := 32) (oi := ⟨some 92, .pick (.tmp 81) (.const (.bool true)) (.tmp 91), 4, "laws.go:1055", #[⟨21, .data⟩, ⟨31, .data⟩], none⟩) (v := ?v30) rfl (by kernel_rfl) (by kernel_rfl) (by kernel_rfl) (fun _ _ _ h => h) (Or.inl ⟨by rfl, ?hy30⟩) (by assumption) ?r30
  case hy30 => (intro w hSw; (try dsimp only at hSw); go_simp; try with_reducible rfl)
  try simp only [Act.put, List.setIfInBounds_toArray, List.set_cons_zero, List.set_cons_succ]
  refine wpAnyH_done (by kernel_rfl) ?_ _
  clear B6 C6 Bw7 Cw7 Bw8 Cw8
  go_upto_region 16 with fail
  go_cut [13] from 93 to 97 (fun v wx => Oth wx v n ∧ Below w.heap.size w wx ∧ Below W2.heap.size W2 wx)
  case first =>
    have hB0 := none_bf0 w9 5
    have BA := Bw9.alloc Bw9.size (.cells #[] 5)
    have CA := Cw9.alloc Cw9.size (.cells #[] 5)
    rcases HG.out with ⟨rfl, rfl, rfl⟩ | ⟨x, m, rfl, hml, hmc⟩
    · go_wp2_with (first
        | (at_builtin; refine bf.app_any _ rfl _ _ 22 22 rfl _ _ rfl rfl _ _ (fun ty => nil_app _ _ ty) ?_; refine Hid.out ?_)
        | go_in)
      refine Lib.hid ?_
      go_wp2_with (first
        | (at_builtin; refine bf.app_bytes _ rfl _ _ 22 rfl 5 Tryd.underlying22 info5 rfl rfl ⟨w9.heap.size + 1, 0, none⟩ 1 (m := [7]) rfl rfl (hB0.below ((Below.refl _ _).alloc (Nat.le_refl _) _)) (seven_at' _ _ (by simp) _) (by simp) ?_)
        | go_in)
      intro g1 c1 wa n1 hn1 hap1
      have BB := (BA.alloc BA.size (.cells #[.int .u8 7] 5))
      have CB := (CA.alloc CA.size (.cells #[.int .u8 7] 5))
      have BD := BB.grown hap1.grown BB.size (fun k hk => by cases hk; exact Bw9.size)
      have CD := CB.grown hap1.grown CB.size (fun k hk => by cases hk; exact Cw9.size)
      have HAP := hap1.bf
      clear hap1
      go_wp2
      go_meet
      exact ⟨⟨g1, c1, n1, [7], _, rfl, by simpa using hn1.out, by simp, by simpa using HAP⟩, BD, CD⟩
    · have hmc' : ∀ W, Below w.heap.size w W → ∀ j u, (bf.byteVals m)[j]? = some u → W.cell? (x.add j) = some u := fun W h j u hu => by
        have h1 := hmc j u hu
        exact (h.cell (World.block_lt_of_cell? _ _ h1)).trans h1
      have hn20 := HN.out
      go_wp2_with (first
        | (at_builtin; refine bf.app_bytes _ rfl _ _ 22 rfl 5 Tryd.underlying22 info5 rfl rfl x cap (m := m) rfl hml hB0 (hmc' _ BA) (by simp; omega) ?_)
        | go_in)
      intro g1 c1 wa n1 hn1 hap1
      have BB := BA.grown hap1.grown BA.size (fun k hk => by cases hk; exact Bw9.size)
      have CB := CA.grown hap1.grown CA.size (fun k hk => by cases hk; exact Cw9.size)
      have HAP := hap1.bf
      clear hap1
      go_wp2_with (first
        | (at_builtin; refine bf.app_bytes _ rfl _ _ 22 rfl 5 Tryd.underlying22 info5 rfl (hml.trans hn1.out.symm) ⟨wa.heap.size, 0, none⟩ 1 (m := [7]) rfl rfl (HAP.below ((Below.refl _ _).alloc (Nat.le_refl _) _)) (seven_at _ _) (by simp; omega) ?_)
        | go_in)
      intro g2 c2 wb n2 hn2 hap2
      have BD := (BB.alloc BB.size (.cells #[.int .u8 7] 5)).grown hap2.grown (BB.alloc BB.size (.cells #[.int .u8 7] 5)).size (fun k hk => by cases hk; exact Nat.le_trans Bw9.size HAP.new)
      have CD := (CB.alloc CB.size (.cells #[.int .u8 7] 5)).grown hap2.grown (CB.alloc CB.size (.cells #[.int .u8 7] 5)).size (fun k hk => by cases hk; exact Nat.le_trans Cw9.size HAP.new)
      have HAP2 := hap2.bf
      clear hap2
      go_wp2
      go_meet
      exact ⟨⟨g2, c2, n2, m ++ [7], _, rfl, by have := hn2.out; simp at this ⊢; omega, by simp; omega, by simpa using HAP2⟩, BD, CD⟩
  case rest =>
    obtain ⟨⟨g, c, z, L, base, rfl, hz, hL, hbf⟩, BX, CX⟩ := hcut
    have hn20 := HN.out
    obtain ⟨S2, hS2⟩ : ∃ S2, SV (inZ L) z = S2 := ⟨_, rfl⟩
    obtain ⟨r1, hr1⟩ : ∃ r1, S % N = r1 := ⟨_, rfl⟩
    obtain ⟨r2, hr2⟩ : ∃ r2, S2 % N = r2 := ⟨_, rfl⟩
    have HSO : Hid (∀ W, Below wc.heap.size wc W → Calls Tryd.prog 10 #[.slice (some ⟨g, 0, none⟩) z c] W fun en w' => en = .returned (.int .u64 (S2 : Int)) ∧ w' = W) := fun W h => by
      have := isum_any (some ⟨g, 0, none⟩) z c (inZ L) W (bs_of hz (hbf.below h)) (by omega)
      rwa [hS2] at this
    have HCO : Hid (r1 ≠ r2 → ∀ W, Below wc.heap.size wc W → Calls Tryd.prog 9 #[.int .u64 (N : Int), .int .u64 (E : Int), .slice (some ⟨g, 0, none⟩) z c, .int .u64 (s : Int)] W fun en w' => en = .returned (.bool false) ∧ Below W.heap.size W w') := fun hne W h => by
      have := icheck_any N E s HBD.out.1 HBD.out.2.1 HBD.out.2.2 (some ⟨g, 0, none⟩) z c (inZ L) W (bs_of hz (hbf.below h)) (by omega)
      rw [hS2] at this
      have e : chB N E S2 s = false := by
        unfold chB
        have : ¬ pm s E N = S2 % N := by rw [HCHK.out, hr1, hr2]; exact hne
        simp [this]
      rwa [e] at this
    have q1 : (S : Int) % (N : Int) = (r1 : Int) := by rw [← hr1, Int.natCast_emod]
    have q2 : (S2 : Int) % (N : Int) = (r2 : Int) := by rw [← hr2, Int.natCast_emod]
    have q1' : Int.tmod (S : Int) (N : Int) = (r1 : Int) := by rw [Int.tmod_eq_emod_of_nonneg (by omega)]; exact q1
    have q2' : Int.tmod (S2 : Int) (N : Int) = (r2 : Int) := by rw [Int.tmod_eq_emod_of_nonneg (by omega)]; exact q2
    have OX := Below.refl wc.heap.size wc
    clear hz hL hbf hS2 hr1 hr2 hn20
    go_upto_region 17 with fail
    go_cut [117] from 98 to 117 (fun v wx => v = .bool false ∧ Below w.heap.size w wx ∧ Below W2.heap.size W2 wx)
    case first =>
      by_cases hne : r1 = r2
      · subst hne
        have hq1 : ((r1 : Int) != (r1 : Int)) = false := by simp
        have hq2 : (r1 != r1) = false := by simp
        clear HCO
        refine wp_region_held_drew (S := (fun W => W.cell? ⟨w2.heap.size, 0, none⟩ = some (.int .u64 (N : Int)) ∧ W.cell? ⟨w2.heap.size, 1, none⟩ = some (.int .u64 (E : Int)))) (by kernel_rfl) (HK2.out _ CX.drew) (fun hHeld => ?_)
        refine wpAnyH_take (i := 0) (oi := ⟨some 98, .move (.tmp 13), 22, "laws.go:1059", #[], none⟩) (v := ?v31) rfl (by kernel_rfl) (by kernel_rfl) (by kernel_rfl) (fun _ _ _ h => h) (Or.inl ⟨by rfl, ?hy31⟩) (by assumption) ?r31
        case hy31 => (intro w hSw; (try dsimp only at hSw); go_simp; try with_reducible rfl)
        try simp only [Act.put, List.setIfInBounds_toArray, List.set_cons_zero, List.set_cons_succ]
        refine wpAnyH_take (i := 2) (oi := ⟨some 100, .fieldAddr 28 (.tmp 6) 0, 0, "laws.go:1059", #[], none⟩) (v := ?v32) rfl (by kernel_rfl) (by kernel_rfl) (by kernel_rfl) (fun _ _ _ h => h) (Or.inl ⟨by rfl, ?hy32⟩) (by assumption) ?r32
        case hy32 => (intro w hSw; (try dsimp only at hSw); go_simp; try with_reducible rfl)
        try simp only [Act.put, List.setIfInBounds_toArray, List.set_cons_zero, List.set_cons_succ]
        refine wpAnyH_take (i := 3) (oi := ⟨some 101, .load 24 (.tmp 100), 24, "laws.go:1059", #[⟨2, .data⟩], none⟩) (v := ?v33) rfl (by kernel_rfl) (by kernel_rfl) (by kernel_rfl) (fun _ _ _ h => h) (Or.inl ⟨by rfl, ?hy33⟩) (by assumption) ?r33
        case hy33 => (intro w hSw; (try dsimp only at hSw); go_simp; try with_reducible rfl)
        try simp only [Act.put, List.setIfInBounds_toArray, List.set_cons_zero, List.set_cons_succ]
        refine wpAnyH_take (i := 5) (oi := ⟨some 103, .move (.tmp 0), 22, "laws.go:1059", #[], none⟩) (v := ?v34) rfl (by kernel_rfl) (by kernel_rfl) (by kernel_rfl) (fun _ _ _ h => h) (Or.inl ⟨by rfl, ?hy34⟩) (by assumption) ?r34
        case hy34 => (intro w hSw; (try dsimp only at hSw); go_simp; try with_reducible rfl)
        try simp only [Act.put, List.setIfInBounds_toArray, List.set_cons_zero, List.set_cons_succ]
        refine wpAnyH_take (i := 7) (oi := ⟨some 105, .fieldAddr 28 (.tmp 6) 0, 0, "laws.go:1059", #[], none⟩) (v := ?v35) rfl (by kernel_rfl) (by kernel_rfl) (by kernel_rfl) (fun _ _ _ h => h) (Or.inl ⟨by rfl, ?hy35⟩) (by assumption) ?r35
        case hy35 => (intro w hSw; (try dsimp only at hSw); go_simp; try with_reducible rfl)
        try simp only [Act.put, List.setIfInBounds_toArray, List.set_cons_zero, List.set_cons_succ]
        refine wpAnyH_take (i := 8) (oi := ⟨some 106, .load 24 (.tmp 105), 24, "laws.go:1059", #[⟨7, .data⟩], none⟩) (v := ?v36) rfl (by kernel_rfl) (by kernel_rfl) (by kernel_rfl) (fun _ _ _ h => h) (Or.inl ⟨by rfl, ?hy36⟩) (by assumption) ?r36
        case hy36 => (intro w hSw; (try dsimp only at hSw); go_simp; try with_reducible rfl)
        try simp only [Act.put, List.setIfInBounds_toArray, List.set_cons_zero, List.set_cons_succ]
        refine wpAnyH_ready (rs := [1]) (by kernel_rfl) (by simp) ?_
        refine AllReadyH.cons (o := ⟨some 99, .call { callee := .value (.func 10), args := #[.tmp 98], argTypes := #[22] }, 24, "laws.go:1059", #[⟨0, .data⟩], none⟩) rfl (fun K hK => ?_) AllReadyH.nil
        go_simp
        go_at_call 10
        refine (HSO.out _ OX.drew).mono ?_
        rintro en wx ⟨rfl, hw⟩
        obtain rfl := hw.symm
        clear hw
        try go_wp2_with fail
        refine hK.out _ _ (hHeld) (fun hHeld => ?_)
        clear hK K
        try simp only [Act.put, List.setIfInBounds_toArray, List.set_cons_zero, List.set_cons_succ]
        refine wpAnyH_take (i := 4) (oi := ⟨some 102, .binOp .rem 24 (.tmp 99) (.tmp 101) 24, 24, "laws.go:1059", #[⟨1, .data⟩, ⟨3, .data⟩], none⟩) (v := ?v37) rfl (by kernel_rfl) (by kernel_rfl) (by kernel_rfl) (fun _ _ _ h => h) (Or.inl ⟨by rfl, ?hy37⟩) (by assumption) ?r37
        case hy37 => (intro w hSw; (try dsimp only at hSw); go_simp; try with_reducible rfl)
        try simp only [Act.put, List.setIfInBounds_toArray, List.set_cons_zero, List.set_cons_succ]
        refine wpAnyH_ready (rs := [6]) (by kernel_rfl) (by simp) ?_
        refine AllReadyH.cons (o := ⟨some 104, .call { callee := .value (.func 10), args := #[.tmp 103], argTypes := #[22] }, 24, "laws.go:1059", #[⟨5, .data⟩, ⟨1, .chain⟩], none⟩) rfl (fun K hK => ?_) AllReadyH.nil
        go_simp
        go_at_call 10
        refine (HSC.out _ BX.drew).mono ?_
        rintro en wx ⟨rfl, hw⟩
        obtain rfl := hw.symm
        clear hw
        try go_wp2_with fail
        refine hK.out _ _ (hHeld) (fun hHeld => ?_)
        clear hK K
        try simp only [Act.put, List.setIfInBounds_toArray, List.set_cons_zero, List.set_cons_succ]
        refine wpAnyH_take (i := 9) (oi := ⟨some 107, .binOp .rem 24 (.tmp 104) (.tmp 106) 24, 24, "laws.go:1059", #[⟨6, .data⟩, ⟨8, .data⟩], none⟩) (v := ?v38) rfl (by kernel_rfl) (by kernel_rfl) (by kernel_rfl) (fun _ _ _ h => h) (Or.inl ⟨by rfl, ?hy38⟩) (by assumption) ?r38
        case hy38 => (intro w hSw; (try dsimp only at hSw); go_simp; try with_reducible rfl)
        try simp only [Act.put, List.setIfInBounds_toArray, List.set_cons_zero, List.set_cons_succ]
        refine wpAnyH_take (i := 10) (oi := ⟨some 108, .binOp .neq 24 (.tmp 102) (.tmp 107) 24, 4, "laws.go:1059", #[⟨4, .data⟩, ⟨9, .data⟩], none⟩) (v := ?v39) rfl (by kernel_rfl) (by kernel_rfl) (by kernel_rfl) (fun _ _ _ h => h) (Or.inl ⟨by rfl, ?hy39⟩) (by assumption) ?r39
        case hy39 => (intro w hSw; (try dsimp only at hSw); go_simp; try with_reducible rfl)
        try simp only [Act.put, List.setIfInBounds_toArray, List.set_cons_zero, List.set_cons_succ]
        refine wpAnyH_take (i := 11) (oi := ⟨some 109, .move (.tmp 108), 4, "laws.go:1059", #[⟨10, .data⟩, ⟨6, .chain⟩], none⟩) (v := ?v40) rfl (by kernel_rfl) (by kernel_rfl) (by kernel_rfl) (fun _ _ _ h => h) (Or.inl ⟨by rfl, ?hy40⟩) (by assumption) ?r40
        case hy40 => (intro w hSw; (try dsimp only at hSw); go_simp; try with_reducible rfl)
        try simp only [Act.put, List.setIfInBounds_toArray, List.set_cons_zero, List.set_cons_succ]
        refine wpAnyH_take (i := 12) (oi := ⟨some 110, .fieldAddr 28 (.tmp 6) 0, 0, "laws.go:1059", #[⟨11, .guard⟩], some (11, true)⟩) (v := undef) rfl (by kernel_rfl) (by kernel_rfl) (by kernel_rfl) (fun _ _ _ h => h) (Or.inr ⟨by rfl, rfl⟩) (by assumption) ?_
        try simp only [Act.put, List.setIfInBounds_toArray, List.set_cons_zero, List.set_cons_succ]
        refine wpAnyH_take (i := 13) (oi := ⟨some 111, .load 24 (.tmp 110), 24, "laws.go:1059", #[⟨12, .data⟩, ⟨11, .guard⟩], some (11, true)⟩) (v := undef) rfl (by kernel_rfl) (by kernel_rfl) (by kernel_rfl) (fun _ _ _ h => h) (Or.inr ⟨by rfl, rfl⟩) (by assumption) ?_
        try simp only [Act.put, List.setIfInBounds_toArray, List.set_cons_zero, List.set_cons_succ]
        refine wpAnyH_take (i := 14) (oi := ⟨some 112, .fieldAddr 28 (.tmp 6) 1, 0, "laws.go:1059", #[⟨11, .guard⟩], some (11, true)⟩) (v := undef) rfl (by kernel_rfl) (by kernel_rfl) (by kernel_rfl) (fun _ _ _ h => h) (Or.inr ⟨by rfl, rfl⟩) (by assumption) ?_
        try simp only [Act.put, List.setIfInBounds_toArray, List.set_cons_zero, List.set_cons_succ]
        refine wpAnyH_take (i := 15) (oi := ⟨some 113, .load 24 (.tmp 112), 24, "laws.go:1059", #[⟨14, .data⟩, ⟨11, .guard⟩], some (11, true)⟩) (v := undef) rfl (by kernel_rfl) (by kernel_rfl) (by kernel_rfl) (fun _ _ _ h => h) (Or.inr ⟨by rfl, rfl⟩) (by assumption) ?_
        try simp only [Act.put, List.setIfInBounds_toArray, List.set_cons_zero, List.set_cons_succ]
        refine wpAnyH_take (i := 16) (oi := ⟨some 114, .move (.tmp 13), 22, "laws.go:1059", #[⟨11, .guard⟩], some (11, true)⟩) (v := undef) rfl (by kernel_rfl) (by kernel_rfl) (by kernel_rfl) (fun _ _ _ h => h) (Or.inr ⟨by rfl, rfl⟩) (by assumption) ?_
        try simp only [Act.put, List.setIfInBounds_toArray, List.set_cons_zero, List.set_cons_succ]
        refine wpAnyH_take (i := 17) (oi := ⟨some 115, .move (.tmp 12), 24, "laws.go:1059", #[⟨11, .guard⟩], some (11, true)⟩) (v := undef) rfl (by kernel_rfl) (by kernel_rfl) (by kernel_rfl) (fun _ _ _ h => h) (Or.inr ⟨by rfl, rfl⟩) (by assumption) ?_
        try simp only [Act.put, List.setIfInBounds_toArray, List.set_cons_zero, List.set_cons_succ]
        refine wpAnyH_take (i := 18) (oi := ⟨some 116, .call { callee := .value (.func 9), args := #[.tmp 111, .tmp 113, .tmp 114, .tmp 115], argTypes := #[24, 24, 22, 24] }, 4, "laws.go:1059", #[⟨13, .data⟩, ⟨15, .data⟩, ⟨16, .data⟩, ⟨17, .data⟩, ⟨11, .chain⟩, ⟨11, .guard⟩], some (11, true)⟩) (v := undef) rfl (by kernel_rfl) (by kernel_rfl) (by kernel_rfl) (fun _ _ _ h => h) (Or.inr ⟨by rfl, rfl⟩) (by assumption) ?_
        try simp only [Act.put, List.setIfInBounds_toArray, List.set_cons_zero, List.set_cons_succ]
        refine wpAnyH_take (i := 19) (oi := ⟨some 117, .pick (.tmp 109) (.tmp 116) (.const (.bool false)), 4, "laws.go:1059", #[⟨11, .data⟩, ⟨18, .data⟩], none⟩) (v := ?v41) rfl (by kernel_rfl) (by kernel_rfl) (by kernel_rfl) (fun _ _ _ h => h) (Or.inl ⟨by rfl, ?hy41⟩) (by assumption) ?r41
        case hy41 => (intro w hSw; (try dsimp only at hSw); go_simp; try with_reducible rfl)
        try simp only [Act.put, List.setIfInBounds_toArray, List.set_cons_zero, List.set_cons_succ]
        refine wpAnyH_done (by kernel_rfl) ?_ _
        go_wp2_with fail
        go_meet
        exact ⟨rfl, BX.drew, CX.drew⟩
      · have hq1 : ((r2 : Int) != (r1 : Int)) = true := by simp; omega
        have hq2 : (r2 != r1) = true := by simp; omega
        have hq3 : ¬ r2 = r1 := fun h => hne h.symm
        have HCO' := HCO.out hne
        have HCO : Hid (∀ W, Below wc.heap.size wc W → Calls Tryd.prog 9 #[.int .u64 (N : Int), .int .u64 (E : Int), .slice (some ⟨g, 0, none⟩) z c, .int .u64 (s : Int)] W fun en w' => en = .returned (.bool false) ∧ Below W.heap.size W w') := HCO'
        clear HCO' hne
        refine wp_region_held_drew (S := (fun W => W.cell? ⟨w2.heap.size, 0, none⟩ = some (.int .u64 (N : Int)) ∧ W.cell? ⟨w2.heap.size, 1, none⟩ = some (.int .u64 (E : Int)))) (by kernel_rfl) (HK2.out _ CX.drew) (fun hHeld => ?_)
        refine wpAnyH_take (i := 0) (oi := ⟨some 98, .move (.tmp 13), 22, "laws.go:1059", #[], none⟩) (v := ?v42) rfl (by kernel_rfl) (by kernel_rfl) (by kernel_rfl) (fun _ _ _ h => h) (Or.inl ⟨by rfl, ?hy42⟩) (by assumption) ?r42
        case hy42 => (intro w hSw; (try dsimp only at hSw); go_simp; try with_reducible rfl)
        try simp only [Act.put, List.setIfInBounds_toArray, List.set_cons_zero, List.set_cons_succ]
        refine wpAnyH_take (i := 2) (oi := ⟨some 100, .fieldAddr 28 (.tmp 6) 0, 0, "laws.go:1059", #[], none⟩) (v := ?v43) rfl (by kernel_rfl) (by kernel_rfl) (by kernel_rfl) (fun _ _ _ h => h) (Or.inl ⟨by rfl, ?hy43⟩) (by assumption) ?r43
        case hy43 => (intro w hSw; (try dsimp only at hSw); go_simp; try with_reducible rfl)
        try simp only [Act.put, List.setIfInBounds_toArray, List.set_cons_zero, List.set_cons_succ]
        refine wpAnyH_take (i := 3) (oi := ⟨some 101, .load 24 (.tmp 100), 24, "laws.go:1059", #[⟨2, .data⟩], none⟩) (v := ?v44) rfl (by kernel_rfl) (by kernel_rfl) (by kernel_rfl) (fun _ _ _ h => h) (Or.inl ⟨by rfl, ?hy44⟩) (by assumption) ?r44
        case hy44 => (intro w hSw; (try dsimp only at hSw); go_simp; try with_reducible rfl)
        try simp only [Act.put, List.setIfInBounds_toArray, List.set_cons_zero, List.set_cons_succ]
        refine wpAnyH_take (i := 5) (oi := ⟨some 103, .move (.tmp 0), 22, "laws.go:1059", #[], none⟩) (v := ?v45) rfl (by kernel_rfl) (by kernel_rfl) (by kernel_rfl) (fun _ _ _ h => h) (Or.inl ⟨by rfl, ?hy45⟩) (by assumption) ?r45
        case hy45 => (intro w hSw; (try dsimp only at hSw); go_simp; try with_reducible rfl)
        try simp only [Act.put, List.setIfInBounds_toArray, List.set_cons_zero, List.set_cons_succ]
        refine wpAnyH_take (i := 7) (oi := ⟨some 105, .fieldAddr 28 (.tmp 6) 0, 0, "laws.go:1059", #[], none⟩) (v := ?v46) rfl (by kernel_rfl) (by kernel_rfl) (by kernel_rfl) (fun _ _ _ h => h) (Or.inl ⟨by rfl, ?hy46⟩) (by assumption) ?r46
        case hy46 => (intro w hSw; (try dsimp only at hSw); go_simp; try with_reducible rfl)
        try simp only [Act.put, List.setIfInBounds_toArray, List.set_cons_zero, List.set_cons_succ]
        refine wpAnyH_take (i := 8) (oi := ⟨some 106, .load 24 (.tmp 105), 24, "laws.go:1059", #[⟨7, .data⟩], none⟩) (v := ?v47) rfl (by kernel_rfl) (by kernel_rfl) (by kernel_rfl) (fun _ _ _ h => h) (Or.inl ⟨by rfl, ?hy47⟩) (by assumption) ?r47
        case hy47 => (intro w hSw; (try dsimp only at hSw); go_simp; try with_reducible rfl)
        try simp only [Act.put, List.setIfInBounds_toArray, List.set_cons_zero, List.set_cons_succ]
        refine wpAnyH_ready (rs := [1]) (by kernel_rfl) (by simp) ?_
        refine AllReadyH.cons (o := ⟨some 99, .call { callee := .value (.func 10), args := #[.tmp 98], argTypes := #[22] }, 24, "laws.go:1059", #[⟨0, .data⟩], none⟩) rfl (fun K hK => ?_) AllReadyH.nil
        go_simp
        go_at_call 10
        refine (HSO.out _ OX.drew).mono ?_
        rintro en wx ⟨rfl, hw⟩
        obtain rfl := hw.symm
        clear hw
        try go_wp2_with fail
        refine hK.out _ _ (hHeld) (fun hHeld => ?_)
        clear hK K
        try simp only [Act.put, List.setIfInBounds_toArray, List.set_cons_zero, List.set_cons_succ]
        refine wpAnyH_take (i := 4) (oi := ⟨some 102, .binOp .rem 24 (.tmp 99) (.tmp 101) 24, 24, "laws.go:1059", #[⟨1, .data⟩, ⟨3, .data⟩], none⟩) (v := ?v48) rfl (by kernel_rfl) (by kernel_rfl) (by kernel_rfl) (fun _ _ _ h => h) (Or.inl ⟨by rfl, ?hy48⟩) (by assumption) ?r48
        case hy48 => (intro w hSw; (try dsimp only at hSw); go_simp; try with_reducible rfl)
        try simp only [Act.put, List.setIfInBounds_toArray, List.set_cons_zero, List.set_cons_succ]
        refine wpAnyH_ready (rs := [6]) (by kernel_rfl) (by simp) ?_
        refine AllReadyH.cons (o := ⟨some 104, .call { callee := .value (.func 10), args := #[.tmp 103], argTypes := #[22] }, 24, "laws.go:1059", #[⟨5, .data⟩, ⟨1, .chain⟩], none⟩) rfl (fun K hK => ?_) AllReadyH.nil
        go_simp
        go_at_call 10
        refine (HSC.out _ BX.drew).mono ?_
        rintro en wx ⟨rfl, hw⟩
        obtain rfl := hw.symm
        clear hw
        try go_wp2_with fail
        refine hK.out _ _ (hHeld) (fun hHeld => ?_)
        clear hK K
        try simp only [Act.put, List.setIfInBounds_toArray, List.set_cons_zero, List.set_cons_succ]
        refine wpAnyH_take (i := 9) (oi := ⟨some 107, .binOp .rem 24 (.tmp 104) (.tmp 106) 24, 24, "laws.go:1059", #[⟨6, .data⟩, ⟨8, .data⟩], none⟩) (v := ?v49) rfl (by kernel_rfl) (by kernel_rfl) (by kernel_rfl) (fun _ _ _ h => h) (Or.inl ⟨by rfl, ?hy49⟩) (by assumption) ?r49
        case hy49 => (intro w hSw; (try dsimp only at hSw); go_simp; try with_reducible rfl)
        try simp only [Act.put, List.setIfInBounds_toArray, List.set_cons_zero, List.set_cons_succ]
        refine wpAnyH_take (i := 10) (oi := ⟨some 108, .binOp .neq 24 (.tmp 102) (.tmp 107) 24, 4, "laws.go:1059", #[⟨4, .data⟩, ⟨9, .data⟩], none⟩) (v := ?v50) rfl (by kernel_rfl) (by kernel_rfl) (by kernel_rfl) (fun _ _ _ h => h) (Or.inl ⟨by rfl, ?hy50⟩) (by assumption) ?r50
        case hy50 => (intro w hSw; (try dsimp only at hSw); go_simp; try with_reducible rfl)
        try simp only [Act.put, List.setIfInBounds_toArray, List.set_cons_zero, List.set_cons_succ]
        refine wpAnyH_take (i := 11) (oi := ⟨some 109, .move (.tmp 108), 4, "laws.go:1059", #[⟨10, .data⟩, ⟨6, .chain⟩], none⟩) (v := ?v51) rfl (by kernel_rfl) (by kernel_rfl) (by kernel_rfl) (fun _ _ _ h => h) (Or.inl ⟨by rfl, ?hy51⟩) (by assumption) ?r51
        case hy51 => (intro w hSw; (try dsimp only at hSw); go_simp; try with_reducible rfl)
        try simp only [Act.put, List.setIfInBounds_toArray, List.set_cons_zero, List.set_cons_succ]
        refine wpAnyH_take (i := 12) (oi := ⟨some 110, .fieldAddr 28 (.tmp 6) 0, 0, "laws.go:1059", #[⟨11, .guard⟩], some (11, true)⟩) (v := ?v52) rfl (by kernel_rfl) (by kernel_rfl) (by kernel_rfl) (fun _ _ _ h => h) (Or.inl ⟨by rfl, ?hy52⟩) (by assumption) ?r52
        case hy52 => (intro w hSw; (try dsimp only at hSw); go_simp; try with_reducible rfl)
        try simp only [Act.put, List.setIfInBounds_toArray, List.set_cons_zero, List.set_cons_succ]
        refine wpAnyH_take (i := 13) (oi := ⟨some 111, .load 24 (.tmp 110), 24, "laws.go:1059", #[⟨12, .data⟩, ⟨11, .guard⟩], some (11, true)⟩) (v := ?v53) rfl (by kernel_rfl) (by kernel_rfl) (by kernel_rfl) (fun _ _ _ h => h) (Or.inl ⟨by rfl, ?hy53⟩) (by assumption) ?r53
        case hy53 => (intro w hSw; (try dsimp only at hSw); go_simp; try with_reducible rfl)
        try simp only [Act.put, List.setIfInBounds_toArray, List.set_cons_zero, List.set_cons_succ]
        refine wpAnyH_take (i := 14) (oi := ⟨some 112, .fieldAddr 28 (.tmp 6) 1, 0, "laws.go:1059", #[⟨11, .guard⟩], some (11, true)⟩) (v := ?v54) rfl (by kernel_rfl) (by kernel_rfl) (by kernel_rfl) (fun _ _ _ h => h) (Or.inl ⟨by rfl, ?hy54⟩) (by assumption) ?r54
        case hy54 => (intro w hSw; (try dsimp only at hSw); go_simp; try with_reducible rfl)
        try simp only [Act.put, List.setIfInBounds_toArray, List.set_cons_zero, List.set_cons_succ]
        refine wpAnyH_take (i := 15) (oi := ⟨some 113, .load 24 (.tmp 112), 24, "laws.go:1059", #[⟨14, .data⟩, ⟨11, .guard⟩], some (11, true)⟩) (v := ?v55) rfl (by kernel_rfl) (by kernel_rfl) (by kernel_rfl) (fun _ _ _ h => h) (Or.inl ⟨by rfl, ?hy55⟩) (by assumption) ?r55
        case hy55 => (intro w hSw; (try dsimp only at hSw); go_simp; try with_reducible rfl)
        try simp only [Act.put, List.setIfInBounds_toArray, List.set_cons_zero, List.set_cons_succ]
        refine wpAnyH_take (i := 16) (oi := ⟨some 114, .move (.tmp 13), 22, "laws.go:1059", #[⟨11, .guard⟩], some (11, true)⟩) (v := ?v56) rfl (by kernel_rfl) (by kernel_rfl) (by kernel_rfl) (fun _ _ _ h => h) (Or.inl ⟨by rfl, ?hy56⟩) (by assumption) ?r56
        case hy56 => (intro w hSw; (try dsimp only at hSw); go_simp; try with_reducible rfl)
        try simp only [Act.put, List.setIfInBounds_toArray, List.set_cons_zero, List.set_cons_succ]
        refine wpAnyH_take (i := 17) (oi := ⟨some 115, .move (.tmp 12), 24, "laws.go:1059", #[⟨11, .guard⟩], some (11, true)⟩) (v := ?v57) rfl (by kernel_rfl) (by kernel_rfl) (by kernel_rfl) (fun _ _ _ h => h) (Or.inl ⟨by rfl, ?hy57⟩) (by assumption) ?r57
        case hy57 => (intro w hSw; (try dsimp only at hSw); go_simp; try with_reducible rfl)
        try simp only [Act.put, List.setIfInBounds_toArray, List.set_cons_zero, List.set_cons_succ]
        refine wpAnyH_ready (rs := [18]) (by kernel_rfl) (by simp) ?_
        refine AllReadyH.cons (o := ⟨some 116, .call { callee := .value (.func 9), args := #[.tmp 111, .tmp 113, .tmp 114, .tmp 115], argTypes := #[24, 24, 22, 24] }, 4, "laws.go:1059", #[⟨13, .data⟩, ⟨15, .data⟩, ⟨16, .data⟩, ⟨17, .data⟩, ⟨11, .chain⟩, ⟨11, .guard⟩], some (11, true)⟩) rfl (fun K hK => ?_) AllReadyH.nil
        go_simp
        go_at_call 9
        refine (HCO.out _ OX.drew).mono ?_
        rintro en wY ⟨rfl, hl⟩
        have BY := BX.drew.trans (hl.mono BX.drew.size)
        have CY := CX.drew.trans (hl.mono CX.drew.size)
        clear hl
        try go_wp2_with fail
        refine hK.out _ _ (HK2.out _ CY) (fun hHeld => ?_)
        clear hK K
        try simp only [Act.put, List.setIfInBounds_toArray, List.set_cons_zero, List.set_cons_succ]
        refine wpAnyH_take (i := 19) (oi := ⟨some 117, .pick (.tmp 109) (.tmp 116) (.const (.bool false)), 4, "laws.go:1059", #[⟨11, .data⟩, ⟨18, .data⟩], none⟩) (v := ?v58) rfl (by kernel_rfl) (by kernel_rfl) (by kernel_rfl) (fun _ _ _ h => h) (Or.inl ⟨by rfl, ?hy58⟩) (by assumption) ?r58
        case hy58 => (intro w hSw; (try dsimp only at hSw); go_simp; try with_reducible rfl)
        try simp only [Act.put, List.setIfInBounds_toArray, List.set_cons_zero, List.set_cons_succ]
        refine wpAnyH_done (by kernel_rfl) ?_ _
        go_wp2_with fail
        go_meet
        exact ⟨rfl, BY, CY⟩
    case rest =>
      obtain ⟨rfl, BZ, CZ⟩ := hcut
      have hnm : nm.nameB ⟨#[109, 101]⟩ = true := by decide
      obtain ⟨e1, e2, e3, e4⟩ := rk_kt (x := ⟨#[109, 101]⟩) (n := N) (e := E) hnm HBD.out.1 HBD.out.2.1
      obtain ⟨KT, hKT⟩ : ∃ KT, ktA ⟨#[109, 101]⟩ N E = KT := ⟨_, rfl⟩
      have hsz := me_size N E
      rw [hKT] at e1 e2 e3 e4 hsz
      have HKT : Hid (∀ W, Below w.heap.size w W → Calls Tryd.prog 12 #[.string ⟨#[109, 101]⟩, .int .u64 (N : Int), .int .u64 (E : Int)] W fun en w' => en = .returned (.string KT) ∧ Below W.heap.size W w') := fun W h => by
        have := ikt_any ⟨#[109, 101]⟩ N E (by decide) HBD.out.1 HBD.out.2.1 W (HT.out.below h)
        rwa [hKT] at this
      have HRK : Hid (∀ W, Below w.heap.size w W → Calls Tryd.prog 11 #[.string KT] W fun en w' => en = .returned (.tuple #[.agg #[.string ⟨#[109, 101]⟩, .int .u64 (N : Int), .int .u64 (E : Int)], .bool true]) ∧ Below W.heap.size W w') := fun W h => by
        have := irk_any KT hsz W (HM.out.below h) (HT.out.below h)
        rwa [e1, e2, e3, e4] at this
      obtain ⟨k0, k1⟩ := HK2.out _ CZ
      clear e1 e2 e3 e4 hKT hsz
      go_wp2_with (first
        | (go_at_call 12; refine (HKT.out _ BZ).mono ?_; rintro en wK ⟨rfl, hlK⟩; refine Hid.out ?_)
        | go_in)
      refine Lib.hid ?_
      have BK := BZ.trans (hlK.mono BZ.size)
      have CK := CZ.trans (hlK.mono CZ.size)
      clear hlK k0 k1
      go_wp2_with (first
        | (go_at_call 11; refine (HRK.out _ BK).mono ?_; rintro en wR ⟨rfl, hlR⟩; refine Hid.out ?_)
        | go_in)
      refine Lib.hid ?_
      have BR := BK.trans (hlR.mono BK.size)
      have CR := CK.trans (hlR.mono CK.size)
      have BR' := fun o => BR.alloc BR.size o
      have k0 := fun o => (HK2.out _ (CR.alloc CR.size o)).1
      have k1 := fun o => (HK2.out _ (CR.alloc CR.size o)).2
      clear hlR
      go_wp2
      go_ret
      exact ⟨by first | rfl | (apply ret_bool; simp), BR' _⟩

end Go.Proofs.YtghhogbhenlaoaaDoor.sg
