import Derived.Test.YtghhogbhenlaoaaDoorSI
namespace Go.Proofs.YtghhogbhenlaoaaDoor.sg
open Go.ChangeShapes Go.WideShapes Go.ChangeAt Go.RowKit Go.Deep
set_option linter.unusedVariables false

/-- Where the steps stand. -/
structure Es (e m a b : Nat) (x y : Int) : Prop where
  eu : Eu e m a b x y
  lo : -(m : Int) ≤ x
  hi : x ≤ (m : Int)
  is : egc a b x y = egc m e 0 1

theorem Es.start {e m : Nat} (h : e < m) : Es e m m e 0 1 := ⟨Eu.start h, by omega, by omega, rfl⟩

theorem Es.next {e m a b : Nat} {x y : Int} (h : Es e m a b x y) (hb : b ≠ 0) : Es e m b (a % b) y (x - ((a / b : Nat) : Int) * y) := by
  have := h.eu.bound
  exact ⟨h.eu.next hb, this.1, this.2.1, (egc_step x y hb).symm.trans h.is⟩

theorem i64_ok (z : Int) (h1 : -9223372036854775808 ≤ z) (h2 : z ≤ 9223372036854775807) : IntKind.i64.wrap z = z := by rw [IntKind.wrap_i64]; omega
theorem w64_ok (z : Int) (h1 : -9223372036854775808 ≤ z) (h2 : z ≤ 9223372036854775807) : wrap64 z = z := by unfold wrap64; omega

/-- A bound under a name of its own. -/
def Sm (m : Nat) : Prop := m < 4611686018427387904

/-- What one step reckons, in words of 64 bits. -/
theorem Es.words {e m a b : Nat} {x y : Int} (h : Es e m a b x y) (hm : Sm m) (hb : b ≠ 0) : ∃ (q p r : Nat) (z t : Int), wrap64 ((a : Int) / (b : Int)) = (q : Int) ∧ wrap64 ((q : Int) * (b : Int)) = (p : Int) ∧ wrap64 ((a : Int) - (p : Int)) = (r : Int) ∧ wrap64 ((q : Int) * y) = z ∧ wrap64 (x - z) = t ∧ Es e m b r y t ∧ r < b := by
  have hm' : m < 4611686018427387904 := hm
  have ham := h.eu.am
  have hn := h.next hb
  have hp := h.eu.prod hb
  have hq1 : a / b ≤ a := Nat.div_le_self _ _
  have hd := Nat.div_add_mod a b
  have hr := Nat.mod_lt a (show 0 < b by omega)
  obtain ⟨q, hq⟩ : ∃ q, q = a / b := ⟨_, rfl⟩
  obtain ⟨r, hr'⟩ : ∃ r, r = a % b := ⟨_, rfl⟩
  obtain ⟨p, hp'⟩ : ∃ p, p = q * b := ⟨_, rfl⟩
  rw [← hq, ← hr', Nat.mul_comm, ← hp'] at hd
  rw [← hq, ← hr'] at hn
  rw [← hq] at hp hq1
  rw [← hr'] at hr
  have hbd := hn.eu.bound
  have e1 : (a : Int) / (b : Int) = (q : Int) := by rw [hq, Int.natCast_ediv]
  have e2 : (q : Int) * (b : Int) = (p : Int) := by rw [hp', Int.natCast_mul]
  refine ⟨q, p, r, (q : Int) * y, x - (q : Int) * y, ?_, ?_, ?_, ?_, ?_, hn, hr⟩
  · rw [e1]
    exact w64_ok _ (by omega) (by omega)
  · rw [e2]
    exact w64_ok _ (by omega) (by omega)
  · rw [show (a : Int) - (p : Int) = (r : Int) by omega]
    exact w64_ok _ (by omega) (by omega)
  · exact w64_ok _ (by omega) (by omega)
  · exact w64_ok _ (by omega) (by omega)

def ivN (e m : Nat) : Nat := if ivB e m then (ivD e m).toNat else 0

theorem sinv_any (e m : Nat) (hem : e < m) (hm : Sm m) (w : World) :
    Calls Tryd.prog 20 #[.int .u64 (e : Int), .int .u64 (m : Int)] w fun en w' => en = .returned (.int .u64 ((ivN e m : Nat) : Int)) ∧ w' = w := by
  go_enter Tryd.func20, Tryd.ntmps20
  have hm' : m < 4611686018427387904 := hm
  have c1 : IntKind.i64.wrap (m : Int) = (m : Int) := i64_ok _ (by omega) (by omega)
  have c2 : IntKind.i64.wrap (e : Int) = (e : Int) := i64_ok _ (by omega) (by omega)
  have c3 : (e : Int) % (m : Int) = (e : Int) := Int.emod_eq_of_lt (by omega) (by omega)
  have hz : ((m : Int) == 0) = false := by simp; omega
  have hz' : ¬ m = 0 := by omega
  have HS : Es e m m e 0 1 := Es.start hem
  clear hm' hem
  go_wp2
  go_loopw [5, 6, 7, 8, 9] (fun va vb vx vy _ wr => ∃ (a b : Nat) (x y : Int), va = .int .i64 (a : Int) ∧ vb = .int .i64 (b : Int) ∧ vx = .int .i64 x ∧ vy = .int .i64 y ∧ Es e m a b x y ∧ wr = w) (fun _ vb _ _ _ _ => (intOf vb).toNat)
  case atStart => exact ⟨m, e, 0, 1, rfl, rfl, rfl, rfl, HS, rfl⟩
  case round =>
    obtain ⟨a, b, x, y, rfl, rfl, rfl, rfl, HE, rfl⟩ := hrel
    by_cases hb : b = 0
    · have hE := HE.is
      subst hb
      rw [egc_zero] at hE
      by_cases h1 : a = 1
      · have hB : ivB e m = true := by unfold ivB; rw [← hE]; simp [h1]
        by_cases hx : x < 0
        · have hD : ivD e m = x + (m : Int) := by unfold ivD; rw [← hE]; simp [hx]
          have hlo := HE.lo
          obtain ⟨k, hk⟩ : ∃ k : Nat, x + (m : Int) = (k : Int) := ⟨(x + (m : Int)).toNat, by omega⟩
          have hm' : m < 4611686018427387904 := hm
          have c4 : wrap64 (x + (m : Int)) = (k : Int) := by rw [hk]; exact w64_ok _ (by omega) (by omega)
          have c5 : IntKind.u64.wrap (k : Int) = (k : Int) := by rw [IntKind.wrap_u64]; omega
          have hR : ivN e m = k := by unfold ivN; rw [hB, hD, hk]; simp
          clear hE hD hk hlo hm' HE
          subst h1
          go_wp2
          go_ret
          exact ⟨by first | rfl | exact ret_int (by rw [hR]), rfl⟩
        · have hD : ivD e m = x := by unfold ivD; rw [← hE]; simp [hx]
          have hhi := HE.hi
          obtain ⟨k, hk⟩ : ∃ k : Nat, x = (k : Int) := ⟨x.toNat, by omega⟩
          have hm' : m < 4611686018427387904 := hm
          have c5 : IntKind.u64.wrap (k : Int) = (k : Int) := by rw [IntKind.wrap_u64]; omega
          have hR : ivN e m = k := by unfold ivN; rw [hB, hD, hk]; simp
          clear hE hD hhi hm' HE
          subst h1
          subst hk
          go_wp2
          go_ret
          exact ⟨by first | rfl | exact ret_int (by rw [hR]), rfl⟩
      · have hB : ivB e m = false := by unfold ivB; rw [← hE]; simp [h1]
        have hR : ivN e m = 0 := by unfold ivN; rw [hB]; rfl
        have h1' : ((a : Int) == 1) = false := by simp; omega
        clear hE HE
        go_wp2
        go_ret
        exact ⟨by first | rfl | exact ret_int (by rw [hR]; rfl), rfl⟩
    · obtain ⟨q, p, r, z, t, f1, f2, f3, f4, f5, HN, hlt⟩ := HE.words hm hb
      have hb' : ((b : Int) == 0) = false := by simp; omega
      go_wp2
      go_roundw
      case rel => exact ⟨b, r, y, t, rfl, by first | rfl | rw [f3], rfl, by first | rfl | rw [f5], HN, by first | rfl | trivial⟩
      case measure => first | (simp [intOf]; omega) | (rw [f3]; simp [intOf]; omega) | (simp only [f3]; simp [intOf]; omega)

theorem iinv_any (e m : Nat) (hem : e < m) (hm : Sm m) (w : World) :
    Calls Tryd.prog 18 #[.int .i64 (e : Int), .int .i64 (m : Int)] w fun en w' => en = .returned (.tuple #[.int .i64 (ivD e m), .bool (ivB e m)]) ∧ w' = w := by
  go_enter Tryd.func18, Tryd.ntmps18
  have HS : Es e m m e 0 1 := Es.start hem
  clear hem
  go_wp2
  go_loopw [6, 7, 8, 9, 10] (fun va vx vb vy _ wr => ∃ (a b : Nat) (x y : Int), va = .int .i64 (a : Int) ∧ vb = .int .i64 (b : Int) ∧ vx = .int .i64 x ∧ vy = .int .i64 y ∧ Es e m a b x y ∧ wr = w) (fun _ _ vb _ _ _ => (intOf vb).toNat)
  case atStart => exact ⟨m, e, 0, 1, rfl, rfl, rfl, rfl, HS, rfl⟩
  case round =>
    obtain ⟨a, b, x, y, rfl, rfl, rfl, rfl, HE, rfl⟩ := hrel
    by_cases hb : b = 0
    · have hE := HE.is
      subst hb
      rw [egc_zero] at hE
      obtain ⟨c, hc⟩ : ∃ c : Bool, ((a : Int) == 1) = c := ⟨_, rfl⟩
      have hB : ivB e m = c := by
        unfold ivB
        rw [← hE, ← hc, Bool.eq_iff_iff]
        simp
        omega
      by_cases hx : x < 0
      · have hD : ivD e m = x + (m : Int) := by unfold ivD; rw [← hE]; simp [hx]
        have hlo := HE.lo
        have hm' : m < 4611686018427387904 := hm
        have c4 : wrap64 (x + (m : Int)) = x + (m : Int) := w64_ok _ (by omega) (by omega)
        clear hE hlo hm' HE
        go_wp2
        go_ret2
        exact ⟨by first | rfl | (rw [c4, hD, hB, ← hc]; rfl) | (rw [hD, hB]; rfl) | (rw [hD, hB, ← hc]; rfl), rfl⟩
      · have hD : ivD e m = x := by unfold ivD; rw [← hE]; simp [hx]
        clear hE HE
        go_wp2
        go_ret2
        exact ⟨by first | rfl | (rw [hD, hB]; rfl) | (rw [hD, hB, ← hc]; rfl), rfl⟩
    · obtain ⟨q, p, r, z, t, f1, f2, f3, f4, f5, HN, hlt⟩ := HE.words hm hb
      have hb' : ((b : Int) == 0) = false := by simp; omega
      have hpos : (0 : Int) < (b : Int) := by omega
      go_wp2
      go_roundw
      case rel => exact ⟨b, r, y, t, rfl, by first | rfl | rw [f3], rfl, by first | rfl | rw [f5], HN, by first | rfl | trivial⟩
      case measure => first | (simp [intOf]; omega) | (rw [f3]; simp [intOf]; omega) | (simp only [f3]; simp [intOf]; omega)

end Go.Proofs.YtghhogbhenlaoaaDoor.sg
