import Derived.Test.YtheponigjofknaaDoorSA
import Derived.Shelf.Bits.Mul64
import Derived.Shelf.Small.Bits
import Derived.Test.YtheponigjofknaaDoorSHb
import Derived.BigQuiet
import Derived.Deep.CutBlock
namespace Go.Proofs.YtheponigjofknaaDoor.sg
open Go.ChangeShapes Go.WideShapes Go.ChangeAt Go.RowKit Go.Deep Go.Shelf
set_option linter.unusedVariables false

theorem mul64_any (x y : Nat) (hx : x < 18446744073709551616) (hy : y < 18446744073709551616) (w : World) :
    Calls Tryd.prog 92 #[.int .u64 x, .int .u64 y] w fun e w' => e = .returned (.tuple #[.int .u64 ((x * y / 18446744073709551616 : Nat) : Int), .int .u64 ((x * y % 18446744073709551616 : Nat) : Int)]) ∧ w' = w := Any.bits_Mul64 Tryd.sgMul x y hx hy w

theorem len64_any (x : Nat) (hx : x < 18446744073709551616) (w : World) :
    Calls Tryd.prog 73 #[.int .u64 (x : Int)] w fun e w' => e = .returned (.int .i64 (Lib.bitLen x : Int)) ∧ w' = w := Any.bits_Len64 Tryd.sgLen (x : Int) w (by omega) (by omega)

theorem lz64_any (x : Nat) (hx : x < 18446744073709551616) (w : World) :
    Calls Tryd.prog 115 #[.int .u64 (x : Int)] w fun e w' => e = .returned (.int .i64 (64 - (Lib.bitLen x : Int))) ∧ w' = w := Any.bits_LeadingZeros64 Tryd.sgLz (x : Int) w (by omega) (by omega)

theorem bitLenAux_ge : ∀ (f x : Nat), 0 < x → x < 2 ^ f → 2 ^ Lib.bitLenAux f x ≤ 2 * x ∧ x < 2 ^ Lib.bitLenAux f x
  | 0, x, h0, h => by simp at h; omega
  | f + 1, x, h0, h => by
    simp only [Lib.bitLenAux]
    rw [if_neg (by omega)]
    by_cases h1 : x = 1
    · subst h1
      have : Lib.bitLenAux f (1 / 2) = 0 := by cases f <;> simp [Lib.bitLenAux]
      rw [this]
      decide
    · obtain ⟨a, b⟩ := bitLenAux_ge f (x / 2) (by omega) (by rw [Nat.pow_succ] at h; omega)
      rw [Nat.add_comm, Nat.pow_succ]
      omega

theorem bitLen_top (x : Nat) (h0 : 0 < x) (h : x < 18446744073709551616) : 2 ^ Lib.bitLen x ≤ 2 * x ∧ x < 2 ^ Lib.bitLen x := bitLenAux_ge 64 x h0 h

theorem bitLen_lt (x : Nat) (h : x < 18446744073709551616) : x < 2 ^ Lib.bitLen x := by
  by_cases h0 : x = 0
  · subst h0; exact Nat.two_pow_pos _
  · exact (bitLen_top x (by omega) h).2

theorem bitLen_le64 (x : Nat) (h : x < 18446744073709551616) : Lib.bitLen x ≤ 64 := Lib.bitLen_le x 64 (Nat.le_refl _) h

theorem wrapM (a : Nat) (ha : a < 18446744073709551616) : IntKind.u64.wrap (a : Int) = (a : Int) := by rw [IntKind.wrap_u64]; omega

theorem maskB (a : Nat) (ha : a < 18446744073709551616) : bits .and .u64 (a : Int) 4294967295 = ((a % 4294967296 : Nat) : Int) := by
  have h := bits_and_u64_nat a 4294967295 ha (by omega)
  have e : a &&& 4294967295 = a % 4294967296 := Nat.and_two_pow_sub_one_eq_mod a 32
  rw [e] at h
  exact h

/-- The rest is told, the quotient is some value. -/
def IsRem (r : Nat) (e : Ending) : Prop := ∃ q : Value, e = .returned (.tuple #[q, .int .u64 (r : Int)])

theorem pow_cast (a s : Nat) : (a : Int) * 2 ^ s = ((a * 2 ^ s : Nat) : Int) := by
  rw [Int.natCast_mul, Int.natCast_pow]; rfl

/-- Bounds under names of their own (a great numeral in a hypothesis stops the walk). -/
def Lo (r : Nat) : Prop := r < 4294967296
def Le (r : Nat) : Prop := r ≤ 4294967296
def Vk (v : Nat) : Prop := 2147483648 ≤ v ∧ v < 4294967296

set_option maxHeartbeats 4000000 in
theorem div64_any (hi lo y : Nat) (hhi : hi < y) (hlo : lo < 18446744073709551616) (hy : y < 18446744073709551616) (w : World) :
    Calls Tryd.prog 107 #[.int .u64 (hi : Int), .int .u64 (lo : Int), .int .u64 (y : Int)] w fun e w' => IsRem ((hi * 18446744073709551616 + lo) % y) e ∧ Below w.heap.size w w' := by
  go_enter Tryd.func107, Tryd.ntmps107
  have hz : ((y : Int) == 0) = false := by simp; omega
  have hz2 : ¬ ((y : Int) ≤ (hi : Int)) := by omega
  by_cases h0 : hi = 0
  · have hz3 : ((hi : Int) == 0) = true := by simp; omega
    have er : (hi * 18446744073709551616 + lo) % y = lo % y := by rw [h0]; simp
    rw [er]
    obtain ⟨R, hR⟩ : ∃ R, R = lo % y := ⟨_, rfl⟩
    have hR' : (lo : Int) % (y : Int) = (R : Int) := by omega
    rw [← hR]
    clear hR er
    go_wp2
    go_quiet (fail)
    go_wp2
    go_ret2
    exact ⟨⟨_, by rw [← hR']; rfl⟩, Go.below_drewN (Below.refl _ _) _⟩
  · have hz3 : ((hi : Int) == 0) = false := by simp; omega
    obtain ⟨s, hs⟩ : ∃ s, s + Lib.bitLen y = 64 := ⟨64 - Lib.bitLen y, by have := bitLen_le64 y hy; omega⟩
    obtain ⟨t, ht⟩ : ∃ t, t = Lib.bitLen y := ⟨_, rfl⟩
    have htop := bitLen_top y (by omega) hy
    rw [← ht] at hs htop
    have t0 : 0 < t := by
      rcases Nat.eq_zero_or_pos t with h | h
      · subst h; simp at htop; omega
      · exact h
    obtain ⟨Y, v1, v0, A, c, u, D, d1, d0, hD⟩ := Dv.mk' hs t0 hhi hlo htop.1 htop.2
    have lz := lz64_any y hy w
    rw [← ht, show (64 : Int) - (t : Int) = (s : Int) by omega] at lz
    have HD : Hid (Dv hi lo y s t Y v1 v0 A c u D d1 d0) := hD
    have w1 : IntKind.u64.wrap (s : Int) = (s : Int) := wrapM s (by omega)
    have w2 : min s 64 = s := by omega
    have w3 : IntKind.u64.wrap ((y : Int) * 2 ^ s) = (Y : Int) := by rw [pow_cast, ← hD.eY]; exact wrapM _ hD.lY
    have w4 : (Y : Int) / 4294967296 = (v1 : Int) := by have := hD.e1; omega
    have w5 : bits .and .u64 (Y : Int) 4294967295 = (v0 : Int) := by rw [hD.e0]; exact maskB _ hD.lY
    have w6 : IntKind.u64.wrap ((hi : Int) * 2 ^ s) = (A : Int) := by rw [pow_cast, ← hD.eA]; exact wrapM _ hD.lA
    have w7 : IntKind.u64.wrap (64 - (s : Int)) = (t : Int) := by rw [show (64 : Int) - (s : Int) = (t : Int) by omega]; exact wrapM _ (by omega)
    have w8 : min t 64 = t := by omega
    have w9 : (lo : Int) / 2 ^ t = (c : Int) := by
      rw [hD.ec, Int.natCast_ediv, Int.natCast_pow]; rfl
    have lu : u < 18446744073709551616 := Nat.lt_trans hD.lu hD.lY
    have w10 : bits .or .u64 (A : Int) (c : Int) = (u : Int) := by
      have := hD.eu
      rw [bits_or_u64_nat A c hD.lA (by omega), hD.eA, shift_or hD.lc, ← hD.eA, hD.eu]
    have w11 : IntKind.u64.wrap ((lo : Int) * 2 ^ s) = (D : Int) := by rw [pow_cast, hD.eD, IntKind.wrap_u64]; omega
    have w12 : (D : Int) / 4294967296 = (d1 : Int) := by have := hD.f1; omega
    have lD : D < 18446744073709551616 := by rw [hD.eD]; exact Nat.mod_lt _ (by omega)
    have w13 : bits .and .u64 (D : Int) 4294967295 = (d0 : Int) := by rw [hD.f0]; exact maskB _ lD
    have hv1 : 2147483648 ≤ v1 ∧ v1 < 4294967296 := by have := hD.e1; have := hD.gY; have := hD.lY; omega
    have hz4 : ((v1 : Int) == 0) = false := by simp; omega
    have hz5 : ¬ v1 = 0 := by omega
    obtain ⟨g, hg⟩ : ∃ g, g = u / v1 := ⟨_, rfl⟩
    have w14 : (u : Int) / (v1 : Int) = (g : Int) := by rw [hg, Int.natCast_ediv]
    have wg : IntKind.u64.wrap (g : Int) = (g : Int) := wrapM g (by have := Nat.div_le_self u v1; omega)
    obtain ⟨z, hzz⟩ : ∃ z, z = g * v1 := ⟨_, rfl⟩
    have hzu : z ≤ u := by rw [hzz, hg]; exact Nat.div_mul_le_self u v1
    have w15 : IntKind.u64.wrap ((g : Int) * (v1 : Int)) = (z : Int) := by
      rw [← Int.natCast_mul, ← hzz]; exact wrapM _ (by omega)
    obtain ⟨r, hr⟩ : ∃ r, r = u % v1 := ⟨_, rfl⟩
    have hzr : z + r = u := by rw [hzz, hg, hr, Nat.mul_comm]; exact Nat.div_add_mod u v1
    have w16 : IntKind.u64.wrap ((u : Int) - (z : Int)) = (r : Int) := by
      rw [show (u : Int) - (z : Int) = (r : Int) by omega]; exact wrapM _ (by omega)
    have HG : Hid (Gu u Y v1 v0 d1 g r) := by
      have := hD.e1; have := hD.e0; have := hD.f1
      rw [hg, hr]
      exact Gu.start (by omega) hD.lu (by omega) hv1.1 (by omega)
    have hr1 : Lo r := by show r < 4294967296; have := Nat.mod_lt u (show 0 < v1 by omega); omega
    have hv : Vk v1 := hv1
    clear hv1 hhi hlo hy hs ht htop t0 hD lu lD hg hzz hzu hr hzr
    go_upto_block 0 with (first
      | (go_at_call 115; refine lz.mono ?_; rintro e w ⟨rfl, rfl⟩)
      | go_in)
    go_cut [15, 16] from 67 to 85 (fun a b wx => ∃ q : Nat, a = .int .u64 (q : Int) ∧ q = (u * 4294967296 + d1) / Y ∧ wx = w)
    case first =>
      go_wp2_with fail
      go_loopw [15, 16] (fun a b wr => ∃ g r : Nat, a = .int .u64 (g : Int) ∧ b = .int .u64 (r : Int) ∧ Hid (Gu u Y v1 v0 d1 g r) ∧ Lo r ∧ wr = w) (fun a _ _ => (intOf a).toNat)
      case atStart => exact ⟨g, r, rfl, rfl, HG, hr1, by first | rfl | trivial⟩
      case round =>
        obtain ⟨g', r', rfl, rfl, HG', hr', rfl⟩ := hrel
        have hv1 : 2147483648 ≤ v1 ∧ v1 < 4294967296 := hv
        have hr1 : r' < 4294967296 := hr'
        obtain ⟨m1, hm1⟩ : ∃ m1, m1 = 4294967296 * r' := ⟨_, rfl⟩
        have e17 : IntKind.u64.wrap (4294967296 * (r' : Int)) = (m1 : Int) := by rw [IntKind.wrap_u64]; omega
        have ld : d1 < 4294967296 := HG'.out.hd
        have htop : g' ≤ 4294967297 := HG'.out.top
        obtain ⟨m2, hm2⟩ : ∃ m2, m2 = m1 + d1 := ⟨_, rfl⟩
        have e18 : IntKind.u64.wrap ((m1 : Int) + (d1 : Int)) = (m2 : Int) := by rw [IntKind.wrap_u64]; omega
        obtain ⟨j, hj⟩ : ∃ j, j = r' + v1 := ⟨_, rfl⟩
        have e20 : IntKind.u64.wrap ((r' : Int) + (v1 : Int)) = (j : Int) := by rw [IntKind.wrap_u64]; omega
        by_cases hb : 4294967296 ≤ g'
        · have hb1 : ¬ ((g' : Int) < 4294967296) := by omega
          obtain ⟨k, hk⟩ : ∃ k, g' = k + 1 := ⟨g' - 1, by omega⟩
          have hn : Gu u Y v1 v0 d1 k j := by
            have := (HG'.out.next (Or.inl hb)).1
            rwa [hk, Nat.add_sub_cancel, ← hj] at this
          have e19 : IntKind.u64.wrap ((g' : Int) - 1) = (k : Int) := by rw [IntKind.wrap_u64]; omega
          have HN : Hid (Gu u Y v1 v0 d1 k j) := hn
          have hkg : Hid (k < g') := (by omega : k < g')
          have hk1 : Le k := (by omega : k ≤ 4294967296)
          clear hn hk hj htop ld hb hv1 hr1 e17 e18 hm1 hm2
          generalize hG : (g' : Int) = GG at *
          generalize hJ : (j : Int) = JJ at *
          generalize hR : (r' : Int) = RR at *
          by_cases hjb : JJ < 4294967296
          · go_wp2
            subst hG
            subst hJ
            go_roundw
            case rel => exact ⟨k, j, rfl, rfl, HN, (by omega : j < 4294967296), by first | rfl | trivial⟩
            case measure => have := hkg.out; simp [intOf]; omega
          · go_wp2
            subst hG
            subst hJ
            go_meet
            exact ⟨k, rfl, HN.out.out hk1 (by omega), by first | rfl | trivial⟩
        · have hb1 : (g' : Int) < 4294967296 := by omega
          obtain ⟨x, hx⟩ : ∃ x, x = g' * v0 := ⟨_, rfl⟩
          have hx1 : x ≤ 4294967295 * 4294967295 := by rw [hx]; exact Nat.mul_le_mul (by omega) (by have := HG'.out.h0; omega)
          have e21 : IntKind.u64.wrap ((g' : Int) * (v0 : Int)) = (x : Int) := by rw [← Int.natCast_mul, ← hx]; exact wrapM _ (by omega)
          by_cases hc : 4294967296 * r' + d1 < x
          · have hc1 : (m2 : Int) < (x : Int) := by omega
            have hp := (HG'.out.next (Or.inr (by rw [← hx]; exact hc)))
            obtain ⟨k, hk⟩ : ∃ k, g' = k + 1 := ⟨g' - 1, by omega⟩
            have hn : Gu u Y v1 v0 d1 k j := by
              have := hp.1
              rwa [hk, Nat.add_sub_cancel, ← hj] at this
            have e19 : IntKind.u64.wrap ((g' : Int) - 1) = (k : Int) := by rw [IntKind.wrap_u64]; omega
            have HN : Hid (Gu u Y v1 v0 d1 k j) := hn
            have hkg : Hid (k < g') := (by omega : k < g')
            have hk1 : Le k := (by omega : k ≤ 4294967296)
            clear hn hk hj htop ld hb hv1 hr1 hp hc hx hx1 hm1 hm2
            generalize hG : (g' : Int) = GG at *
            generalize hJ : (j : Int) = JJ at *
            generalize hR : (r' : Int) = RR at *
            by_cases hjb : JJ < 4294967296
            · go_wp2
              subst hG
              subst hJ
              go_roundw
              case rel => exact ⟨k, j, rfl, rfl, HN, (by omega : j < 4294967296), by first | rfl | trivial⟩
              case measure => have := hkg.out; simp [intOf]; omega
            · go_wp2
              subst hG
              subst hJ
              go_meet
              exact ⟨k, rfl, HN.out.out hk1 (by omega), by first | rfl | trivial⟩
          · have hc1 : ¬ ((m2 : Int) < (x : Int)) := by omega
            have HQ : Hid (g' = (u * 4294967296 + d1) / Y) := HG'.out.is (by rw [← hx]; omega)
            clear hj htop ld hb hv1 hr1 hc hx hx1 hm1 hm2
            generalize hG : (g' : Int) = GG at *
            generalize hR : (r' : Int) = RR at *
            go_wp2
            subst hG
            go_meet
            exact ⟨g', rfl, HQ.out, by first | rfl | trivial⟩
    case rest =>
      obtain ⟨q, rfl, hq, rfl⟩ := hcut
      have hD := HD.out
      have hv1 : 2147483648 ≤ v1 ∧ v1 < 4294967296 := hv
      have hY0 : 0 < Y := by have := hD.gY; omega
      obtain ⟨n, hn⟩ : ∃ n, n = (u * 4294967296 + d1) % Y := ⟨_, rfl⟩
      have ln : n < Y := by rw [hn]; exact Nat.mod_lt _ hY0
      have lY := hD.lY
      obtain ⟨k1, hk1⟩ : ∃ k1, k1 = u * 4294967296 % 18446744073709551616 := ⟨_, rfl⟩
      have f1 : IntKind.u64.wrap ((u : Int) * 4294967296) = (k1 : Int) := by rw [IntKind.wrap_u64]; omega
      obtain ⟨k2, hk2⟩ : ∃ k2, k2 = (k1 + d1) % 18446744073709551616 := ⟨_, rfl⟩
      have f2 : IntKind.u64.wrap ((k1 : Int) + (d1 : Int)) = (k2 : Int) := by rw [IntKind.wrap_u64]; omega
      obtain ⟨k3, hk3⟩ : ∃ k3, k3 = q * Y % 18446744073709551616 := ⟨_, rfl⟩
      have f3 : IntKind.u64.wrap ((q : Int) * (Y : Int)) = (k3 : Int) := by rw [← Int.natCast_mul, IntKind.wrap_u64, hk3]; omega
      have hl := left_is lY hY0 hq
      rw [← hn] at hl
      have f4 : IntKind.u64.wrap ((k2 : Int) - (k3 : Int)) = (n : Int) := by
        rw [IntKind.wrap_u64]
        generalize q * Y = qY at *
        omega
      obtain ⟨g2, hg2⟩ : ∃ g2, g2 = n / v1 := ⟨_, rfl⟩
      have f5 : (n : Int) / (v1 : Int) = (g2 : Int) := by rw [hg2, Int.natCast_ediv]
      have f6 : IntKind.u64.wrap (g2 : Int) = (g2 : Int) := wrapM g2 (by have := Nat.div_le_self n v1; omega)
      obtain ⟨z2, hz2'⟩ : ∃ z2, z2 = g2 * v1 := ⟨_, rfl⟩
      have hzn : z2 ≤ n := by rw [hz2', hg2]; exact Nat.div_mul_le_self n v1
      have f7 : IntKind.u64.wrap ((g2 : Int) * (v1 : Int)) = (z2 : Int) := by
        rw [← Int.natCast_mul, ← hz2']; exact wrapM _ (by omega)
      obtain ⟨r2, hr2⟩ : ∃ r2, r2 = n % v1 := ⟨_, rfl⟩
      have hzr2 : z2 + r2 = n := by rw [hz2', hg2, hr2, Nat.mul_comm]; exact Nat.div_add_mod n v1
      have f8 : IntKind.u64.wrap ((n : Int) - (z2 : Int)) = (r2 : Int) := by
        rw [show (n : Int) - (z2 : Int) = (r2 : Int) by omega]; exact wrapM _ (by omega)
      have HG2 : Hid (Gu n Y v1 v0 d0 g2 r2) := by
        have := hD.e1; have := hD.e0; have := hD.f0
        rw [hg2, hr2]
        exact Gu.start (by omega) ln (by omega) hv1.1 (by omega)
      have hr21 : Lo r2 := by show r2 < 4294967296; have := Nat.mod_lt n (show 0 < v1 by omega); omega
      have HN : Hid (n = (u * 4294967296 + d1) % Y) := hn
      clear hq hD hv1 hY0 hn ln lY hk1 hk2 hk3 hl hg2 hz2' hzn hr2 hzr2
      go_upto_block 2 with fail
      go_cut [16, 18] from 102 to 120 (fun b a wx => ∃ q2 : Nat, a = .int .u64 (q2 : Int) ∧ Hid (q2 = (n * 4294967296 + d0) / Y) ∧ wx = wc)
      case first =>
        go_wp2_with fail
        go_loopw [16, 18] (fun b a wr => ∃ g r : Nat, a = .int .u64 (g : Int) ∧ b = .int .u64 (r : Int) ∧ Hid (Gu n Y v1 v0 d0 g r) ∧ Lo r ∧ wr = wc) (fun _ a _ => (intOf a).toNat)
        case atStart => exact ⟨g2, r2, rfl, rfl, HG2, hr21, by first | rfl | trivial⟩
        case round =>
          obtain ⟨g', r', rfl, rfl, HG', hr', rfl⟩ := hrel
          have hv1 : 2147483648 ≤ v1 ∧ v1 < 4294967296 := hv
          have hr1 : r' < 4294967296 := hr'
          obtain ⟨m1, hm1⟩ : ∃ m1, m1 = 4294967296 * r' := ⟨_, rfl⟩
          have e17 : IntKind.u64.wrap (4294967296 * (r' : Int)) = (m1 : Int) := by rw [IntKind.wrap_u64]; omega
          have ld : d0 < 4294967296 := HG'.out.hd
          have htop : g' ≤ 4294967297 := HG'.out.top
          obtain ⟨m2, hm2⟩ : ∃ m2, m2 = m1 + d0 := ⟨_, rfl⟩
          have e18 : IntKind.u64.wrap ((m1 : Int) + (d0 : Int)) = (m2 : Int) := by rw [IntKind.wrap_u64]; omega
          obtain ⟨j, hj⟩ : ∃ j, j = r' + v1 := ⟨_, rfl⟩
          have e20 : IntKind.u64.wrap ((r' : Int) + (v1 : Int)) = (j : Int) := by rw [IntKind.wrap_u64]; omega
          by_cases hb : 4294967296 ≤ g'
          · have hb1 : ¬ ((g' : Int) < 4294967296) := by omega
            obtain ⟨k, hk⟩ : ∃ k, g' = k + 1 := ⟨g' - 1, by omega⟩
            have hn : Gu n Y v1 v0 d0 k j := by
              have := (HG'.out.next (Or.inl hb)).1
              rwa [hk, Nat.add_sub_cancel, ← hj] at this
            have e19 : IntKind.u64.wrap ((g' : Int) - 1) = (k : Int) := by rw [IntKind.wrap_u64]; omega
            have HN : Hid (Gu n Y v1 v0 d0 k j) := hn
            have hkg : Hid (k < g') := (by omega : k < g')
            have hk1 : Le k := (by omega : k ≤ 4294967296)
            clear hn hk hj htop ld hb hv1 hr1 e17 e18 hm1 hm2
            generalize hG : (g' : Int) = GG at *
            generalize hJ : (j : Int) = JJ at *
            generalize hR : (r' : Int) = RR at *
            by_cases hjb : JJ < 4294967296
            · go_wp2
              subst hG
              subst hJ
              go_roundw
              case rel => exact ⟨k, j, rfl, rfl, HN, (by omega : j < 4294967296), by first | rfl | trivial⟩
              case measure => have := hkg.out; simp [intOf]; omega
            · go_wp2
              subst hG
              subst hJ
              go_meet
              exact ⟨k, rfl, HN.out.out hk1 (by omega), by first | rfl | trivial⟩
          · have hb1 : (g' : Int) < 4294967296 := by omega
            obtain ⟨x, hx⟩ : ∃ x, x = g' * v0 := ⟨_, rfl⟩
            have hx1 : x ≤ 4294967295 * 4294967295 := by rw [hx]; exact Nat.mul_le_mul (by omega) (by have := HG'.out.h0; omega)
            have e21 : IntKind.u64.wrap ((g' : Int) * (v0 : Int)) = (x : Int) := by rw [← Int.natCast_mul, ← hx]; exact wrapM _ (by omega)
            by_cases hc : 4294967296 * r' + d0 < x
            · have hc1 : (m2 : Int) < (x : Int) := by omega
              have hp := (HG'.out.next (Or.inr (by rw [← hx]; exact hc)))
              obtain ⟨k, hk⟩ : ∃ k, g' = k + 1 := ⟨g' - 1, by omega⟩
              have hn : Gu n Y v1 v0 d0 k j := by
                have := hp.1
                rwa [hk, Nat.add_sub_cancel, ← hj] at this
              have e19 : IntKind.u64.wrap ((g' : Int) - 1) = (k : Int) := by rw [IntKind.wrap_u64]; omega
              have HN : Hid (Gu n Y v1 v0 d0 k j) := hn
              have hkg : Hid (k < g') := (by omega : k < g')
              have hk1 : Le k := (by omega : k ≤ 4294967296)
              clear hn hk hj htop ld hb hv1 hr1 hp hc hx hx1 hm1 hm2
              generalize hG : (g' : Int) = GG at *
              generalize hJ : (j : Int) = JJ at *
              generalize hR : (r' : Int) = RR at *
              by_cases hjb : JJ < 4294967296
              · go_wp2
                subst hG
                subst hJ
                go_roundw
                case rel => exact ⟨k, j, rfl, rfl, HN, (by omega : j < 4294967296), by first | rfl | trivial⟩
                case measure => have := hkg.out; simp [intOf]; omega
              · go_wp2
                subst hG
                subst hJ
                go_meet
                exact ⟨k, rfl, HN.out.out hk1 (by omega), by first | rfl | trivial⟩
            · have hc1 : ¬ ((m2 : Int) < (x : Int)) := by omega
              have HQ : Hid (g' = (n * 4294967296 + d0) / Y) := HG'.out.is (by rw [← hx]; omega)
              clear hj htop ld hb hv1 hr1 hc hx hx1 hm1 hm2
              generalize hG : (g' : Int) = GG at *
              generalize hR : (r' : Int) = RR at *
              go_wp2
              subst hG
              go_meet
              exact ⟨g', rfl, HQ.out, by first | rfl | trivial⟩
      case rest =>
        obtain ⟨q2, rfl, HQ2, rfl⟩ := hcut
        have hD := HD.out
        have hY0 : 0 < Y := by have := hD.gY; omega
        have lY := hD.lY
        obtain ⟨R, hR⟩ : ∃ R, R = (n * 4294967296 + d0) % Y := ⟨_, rfl⟩
        have lR : R < Y := by rw [hR]; exact Nat.mod_lt _ hY0
        obtain ⟨k4, hk4⟩ : ∃ k4, k4 = n * 4294967296 % 18446744073709551616 := ⟨_, rfl⟩
        have f9 : IntKind.u64.wrap ((n : Int) * 4294967296) = (k4 : Int) := by rw [IntKind.wrap_u64]; omega
        obtain ⟨k5, hk5⟩ : ∃ k5, k5 = (k4 + d0) % 18446744073709551616 := ⟨_, rfl⟩
        have f10 : IntKind.u64.wrap ((k4 : Int) + (d0 : Int)) = (k5 : Int) := by rw [IntKind.wrap_u64]; omega
        obtain ⟨k6, hk6⟩ : ∃ k6, k6 = q2 * Y % 18446744073709551616 := ⟨_, rfl⟩
        have f11 : IntKind.u64.wrap ((q2 : Int) * (Y : Int)) = (k6 : Int) := by rw [← Int.natCast_mul, IntKind.wrap_u64, hk6]; omega
        have hl := left_is lY hY0 HQ2.out
        rw [← hR] at hl
        have f12 : IntKind.u64.wrap ((k5 : Int) - (k6 : Int)) = (R : Int) := by
          rw [IntKind.wrap_u64]
          generalize q2 * Y = qY at *
          omega
        have hE : R / 2 ^ s = (hi * 18446744073709551616 + lo) % y := by rw [hR, HN.out]; exact hD.rest
        obtain ⟨E, hE'⟩ : ∃ E, E = R / 2 ^ s := ⟨_, rfl⟩
        have f13 : (R : Int) / 2 ^ s = (E : Int) := by
          rw [hE', Int.natCast_ediv, Int.natCast_pow]; rfl
        have HE : Hid (E = (hi * 18446744073709551616 + lo) % y) := hE'.trans hE
        clear hD hY0 lY hR lR hk4 hk5 hk6 hl hE hE' HQ2 HN HD HG HG2
        go_wp2
        go_ret2
        exact ⟨⟨_, by rw [← HE.out]; rfl⟩, Below.refl _ _⟩

theorem rem64_any (hi lo y : Nat) (hhi : hi < 18446744073709551616) (hlo : lo < 18446744073709551616) (hy0 : 0 < y) (hy : y < 18446744073709551616) (w : World) :
    Calls Tryd.prog 93 #[.int .u64 (hi : Int), .int .u64 (lo : Int), .int .u64 (y : Int)] w fun e w' => e = .returned (.int .u64 (((hi * 18446744073709551616 + lo) % y : Nat) : Int)) ∧ Below w.heap.size w w' := by
  obtain ⟨h, hh⟩ : ∃ h, h = hi % y := ⟨_, rfl⟩
  obtain ⟨E, hE⟩ : ∃ E, E = (hi * 18446744073709551616 + lo) % y := ⟨_, rfl⟩
  have w1 : (hi : Int) % (y : Int) = (h : Int) := by rw [hh, Int.natCast_emod]
  have hl : h < y := by rw [hh]; exact Nat.mod_lt _ hy0
  have e1 : (h * 18446744073709551616 + lo) % y = E := by rw [hE, hh, Nat.add_mod, Nat.mod_mul_mod, ← Nat.add_mod]
  have c1 := div64_any h lo y hl hlo hy w
  rw [e1] at c1
  rw [← hE]
  have hz : ¬ y = 0 := by omega
  clear hh hE e1 hl hhi hlo hy0 hy
  go_enter Tryd.func93, Tryd.ntmps93
  go_wp2_with (first
    | (go_at_call 107; refine c1.mono ?_; rintro e w' ⟨⟨q, rfl⟩, hb⟩)
    | go_in)
  go_ret
  exact ⟨rfl, hb⟩

end Go.Proofs.YtheponigjofknaaDoor.sg
