import Derived.Test.YtogakignaaoklaaDM
namespace Go.Proofs.Ytogakignaaoklaa.dl
open Go.ChangeShapes Go.WideShapes Go.ChangeAt Go.RowKit Go.Deep
set_option linter.unusedVariables false
set_option linter.unusedSimpArgs false

/-! ### Steps that can be: both sides -/

def ok3 (k p n : Int) (m : Nat) : Bool := if k = 1 then decide (0 ≤ p ∧ 1 ≤ n ∧ m = 0) else decide (k = 2 ∧ p = 0 ∧ n = 0 ∧ 1 ≤ m)
def okS (x : Sp) : Bool := ok3 x.k x.p x.n x.d.length
def low3 (p n : Int) : Bool := decide (p ≤ 268435455 ∧ n ≤ 268435455)
def lowS (x : Sp) : Bool := low3 x.p x.n

theorem ok3_one {p n : Int} {m : Nat} : ok3 1 p n m = true ↔ 0 ≤ p ∧ 1 ≤ n ∧ m = 0 := by simp [ok3]
theorem ok3_two {k p n : Int} {m : Nat} (h : k ≠ 1) : ok3 k p n m = true ↔ k = 2 ∧ p = 0 ∧ n = 0 ∧ 1 ≤ m := by simp [ok3, h]
theorem ok3_kind {k p n : Int} {m : Nat} (h : ok3 k p n m = true) : k = 1 ∨ k = 2 := by
  by_cases hk : k = 1
  · exact .inl hk
  · exact .inr ((ok3_two hk).1 h).1

/-- In a box. -/
theorem box_below (w : World) (v : Array Value) (t : TypeId) : Below w.heap.size w (w.alloc (.cells v t)) := (Below.refl _ _).alloc (Nat.le_refl _) _

set_option maxRecDepth 100000 in
theorem sok_any (k p n : Int) (a : Option Addr) (m c : Nat) (w : World) :
    Calls Try.prog 36 #[.agg #[.int .i64 k, .int .i64 p, .int .i64 n, .slice a m c]] w fun e w' => e = .returned (.bool (ok3 k p n m && low3 p n)) ∧ Below w.heap.size w w' := by
  by_cases hk : k = 1
  · subst hk
    have hv : (ok3 1 p n m && low3 p n) = decide (1 ≤ n ∧ n ≤ 268435455 ∧ 0 ≤ p ∧ p ≤ 268435455 ∧ m = 0) := by
      rw [Bool.eq_iff_iff, Bool.and_eq_true, ok3_one, low3, decide_eq_true_iff, decide_eq_true_iff]; omega
    rw [hv]
    clear hv
    by_cases h1 : 1 ≤ n
    · by_cases h2 : n ≤ 268435455
      · by_cases h3 : 0 ≤ p
        · by_cases h4 : p ≤ 268435455
          · by_cases h5 : m = 0
            · subst h5
              go_enter Try.func36, Try.ntmps36
              go_wp2
              go_ret
              exact ⟨ret_bool (by simp [h1, h2, h3, h4]), box_below _ _ _⟩
            · have h5' : ¬ (m : Int) = 0 := by omega
              go_enter Try.func36, Try.ntmps36
              go_wp2
              go_ret
              exact ⟨ret_bool (by simp [h5]), box_below _ _ _⟩
          · go_enter Try.func36, Try.ntmps36
            go_wp2
            go_ret
            exact ⟨ret_bool (by first | (simp [h4]; done) | (simp; omega)), box_below _ _ _⟩
        · go_enter Try.func36, Try.ntmps36
          go_wp2
          go_ret
          exact ⟨ret_bool (by first | (simp [h3]; done) | (simp; omega)), box_below _ _ _⟩
      · go_enter Try.func36, Try.ntmps36
        go_wp2
        go_ret
        exact ⟨ret_bool (by first | (simp [h2]; done) | (simp; omega)), box_below _ _ _⟩
    · go_enter Try.func36, Try.ntmps36
      go_wp2
      go_ret
      exact ⟨ret_bool (by first | (simp [h1]; done) | (simp; omega)), box_below _ _ _⟩
  · have hv : (ok3 k p n m && low3 p n) = decide (k = 2 ∧ p = 0 ∧ n = 0 ∧ 1 ≤ m) := by
      rw [Bool.eq_iff_iff, Bool.and_eq_true, ok3_two hk, low3, decide_eq_true_iff, decide_eq_true_iff]; omega
    rw [hv]
    clear hv
    by_cases h1 : k = 2
    · by_cases h2 : p = 0
      · by_cases h3 : n = 0
        · by_cases h4 : 1 ≤ m
          · have h4' : (0 : Int) < (m : Int) := by omega
            go_enter Try.func36, Try.ntmps36
            go_wp2
            go_ret
            exact ⟨ret_bool (by simp [h1, h2, h3]; omega), box_below _ _ _⟩
          · obtain rfl : m = 0 := by omega
            go_enter Try.func36, Try.ntmps36
            go_wp2
            go_ret
            exact ⟨ret_bool (by simp), box_below _ _ _⟩
        · go_enter Try.func36, Try.ntmps36
          go_wp2
          go_ret
          exact ⟨ret_bool (by first | (simp [h3]; done) | (simp; omega)), box_below _ _ _⟩
      · go_enter Try.func36, Try.ntmps36
        go_wp2
        go_ret
        exact ⟨ret_bool (by first | (simp [h2]; done) | (simp; omega)), box_below _ _ _⟩
    · go_enter Try.func36, Try.ntmps36
      go_wp2
      go_ret
      exact ⟨ret_bool (by first | (simp [h1]; done) | (simp; omega)), box_below _ _ _⟩

set_option maxRecDepth 100000 in
theorem iok_any (k p n : Int) (a : Option Addr) (m c : Nat) (w : World) :
    Calls Try.prog 43 #[.agg #[.int .i64 k, .int .i64 p, .int .i64 n, .slice a m c]] w fun e w' => e = .returned (.bool (ok3 k p n m)) ∧ Below w.heap.size w w' := by
  by_cases hk : k = 1
  · subst hk
    have hv : ok3 1 p n m = decide (0 ≤ p ∧ 1 ≤ n ∧ m = 0) := by rw [Bool.eq_iff_iff, ok3_one, decide_eq_true_iff]
    rw [hv]
    clear hv
    by_cases h3 : 0 ≤ p
    · by_cases h1 : 1 ≤ n
      · by_cases h5 : m = 0
        · subst h5
          go_enter Try.func43, Try.ntmps43
          go_wp2
          go_ret
          exact ⟨ret_bool (by simp [h1, h3]), box_below _ _ _⟩
        · have h5' : ¬ (m : Int) = 0 := by omega
          go_enter Try.func43, Try.ntmps43
          go_wp2
          go_ret
          exact ⟨ret_bool (by simp [h5]), box_below _ _ _⟩
      · go_enter Try.func43, Try.ntmps43
        go_wp2
        go_ret
        exact ⟨ret_bool (by first | (simp [h1]; done) | (simp; omega)), box_below _ _ _⟩
    · go_enter Try.func43, Try.ntmps43
      go_wp2
      go_ret
      exact ⟨ret_bool (by first | (simp [h3]; done) | (simp; omega)), box_below _ _ _⟩
  · have hv : ok3 k p n m = decide (k = 2 ∧ p = 0 ∧ n = 0 ∧ 1 ≤ m) := by rw [Bool.eq_iff_iff, ok3_two hk, decide_eq_true_iff]
    rw [hv]
    clear hv
    by_cases h1 : k = 2
    · subst h1
      by_cases h2 : p = 0
      · by_cases h3 : n = 0
        · by_cases h4 : 1 ≤ m
          · have h4' : (1 : Int) ≤ (m : Int) := by omega
            go_enter Try.func43, Try.ntmps43
            go_wp2
            go_ret
            exact ⟨ret_bool (by simp [h2, h3]; omega), box_below _ _ _⟩
          · obtain rfl : m = 0 := by omega
            go_enter Try.func43, Try.ntmps43
            go_wp2
            go_ret
            exact ⟨ret_bool (by simp), box_below _ _ _⟩
        · go_enter Try.func43, Try.ntmps43
          go_wp2
          go_ret
          exact ⟨ret_bool (by first | (simp [h3]; done) | (simp; omega)), box_below _ _ _⟩
      · go_enter Try.func43, Try.ntmps43
        go_wp2
        go_ret
        exact ⟨ret_bool (by first | (simp [h2]; done) | (simp; omega)), box_below _ _ _⟩
    · go_enter Try.func43, Try.ntmps43
      go_wp2
      go_ret
      exact ⟨ret_bool (by first | (simp [h1]; done) | (simp; omega)), box_below _ _ _⟩

set_option maxRecDepth 100000 in
theorem not_any (k p n : Int) (a : Option Addr) (m c : Nat) (w : World) :
    Calls Try.prog 42 #[.agg #[.int .i64 k, .int .i64 p, .int .i64 n, .slice a m c]] w fun e w' => e = .returned (.bool (!ok3 k p n m)) ∧ Below w.heap.size w w' := by
  have HI : Hid (∀ W, Calls Try.prog 43 #[.agg #[.int .i64 k, .int .i64 p, .int .i64 n, .slice a m c]] W fun e w' => e = .returned (.bool (ok3 k p n m)) ∧ Below W.heap.size W w') := fun W => iok_any k p n a m c W
  generalize ok3 k p n m = B at HI ⊢
  go_enter Try.func42, Try.ntmps42
  go_wp2_with (go_at_call 43; refine (HI.out _).mono ?_; rintro e w1 ⟨rfl, hl1⟩)
  go_ret
  exact ⟨ret_bool (by cases B <;> rfl), (box_below _ _ _).trans (hl1.mono (by simp))⟩

def allOk (ss : List Sp) : Bool := ss.all okS
theorem allOk_iff {ss : List Sp} : allOk ss = true ↔ ∀ x ∈ ss, okS x = true := by simp [allOk]
theorem allOk_no {ss : List Sp} {x : Sp} (hx : x ∈ ss) (h : okS x = false) : allOk ss = false := by
  cases hc : allOk ss with
  | false => rfl
  | true => rw [allOk_iff.1 hc x hx] at h; cases h
/-- The steps behind an address, all of them. -/
def Rd (w : World) (b o : Nat) (ss : List Sp) : Prop := ∀ (i : Nat) (x : Sp), ss[i]? = some x → S4 w b (o + i * 4) x
theorem Rd.below {w w' : World} {b o : Nat} {ss : List Sp} (h : Rd w b o ss) (hb : Below w.heap.size w w') : Rd w' b o ss := fun i x hx => (h i x hx).below hb

set_option maxRecDepth 100000 in
set_option maxHeartbeats 1000000 in
theorem index_any (b o c : Nat) (ss : List Sp) (w : World) (hb : Rd w b o ss) (hn : ss.length ≤ 1048576) :
    Calls Try.prog 45 #[.slice (some ⟨b, o, none⟩) ss.length c, .func (.func 42) #[] #[]] w fun e w' => (∃ r : Int, e = .returned (.int .i64 r) ∧ (0 ≤ r ∧ allOk ss = false ∨ r = -1 ∧ allOk ss = true)) ∧ Below w.heap.size w w' := by
  have HB : Hid (Rd w b o ss) := hb
  clear hb
  go_enter Try.func45, Try.ntmps45
  go_wp2
  go_loopw [5, 8] (fun _ x wr => ∃ i : Nat, i ≤ ss.length ∧ x = .int .i64 (i : Int) ∧ (∀ j y, j < i → ss[j]? = some y → okS y = true) ∧ Below w.heap.size w wr) (fun _ x _ => ss.length - (intOf x).toNat)
  case atStart => exact ⟨0, Nat.zero_le _, rfl, fun j y h => by omega, Below.refl _ _⟩
  case round =>
    obtain ⟨i, hi, rfl, h1, hbel⟩ := hrel
    have H1 : Hid (∀ j y, j < i → ss[j]? = some y → okS y = true) := h1
    have HBE : Hid (Below w.heap.size w wr) := hbel
    clear h1
    by_cases hin : i < ss.length
    · have hin' : (i : Int) < (ss.length : Int) := by omega
      have hi0 : (0 : Int) ≤ (i : Int) := by omega
      obtain ⟨x, hx⟩ : ∃ x, ss[i]? = some x := ⟨_, List.getElem?_eq_getElem hin⟩
      obtain ⟨a', c', g0, g1, g2, g3, hsr⟩ := (HB.out i x hx).below hbel
      have HX : Hid (ss[i]? = some x) := hx
      have HCM : Hid (Calls Try.prog 42 #[.agg #[.int .i64 x.k, .int .i64 x.p, .int .i64 x.n, .slice a' x.d.length c']] wr fun e w' => e = .returned (.bool (!okS x)) ∧ Below wr.heap.size wr w') := not_any x.k x.p x.n a' x.d.length c' wr
      obtain ⟨z0, hz0⟩ : ∃ z, x.k = z := ⟨_, rfl⟩
      obtain ⟨z1, hz1⟩ : ∃ z, x.p = z := ⟨_, rfl⟩
      obtain ⟨z2, hz2⟩ : ∃ z, x.n = z := ⟨_, rfl⟩
      obtain ⟨m, hm⟩ : ∃ z, x.d.length = z := ⟨_, rfl⟩
      rw [hz0, hz1, hz2, hm] at HCM
      rw [hz0] at g0
      rw [hz1] at g1
      rw [hz2] at g2
      rw [hm] at g3
      clear hbel hx hz0 hz1 hz2 hm hsr
      cases hu : okS x with
      | false =>
        rw [hu] at HCM
        have HF : Hid (allOk ss = false) := allOk_no (List.mem_of_getElem? HX.out) hu
        clear hu
        go_wp2_with (go_at_call 42; refine HCM.out.mono ?_; rintro e w1 ⟨rfl, hl1⟩)
        go_ret
        exact ⟨⟨_, rfl, .inl ⟨hi0, HF.out⟩⟩, HBE.out.trans (hl1.mono HBE.out.size)⟩
      | true =>
        rw [hu] at HCM
        have HN : Hid (∀ j y, j < i + 1 → ss[j]? = some y → okS y = true) := fun j y hj hy => by
          rcases Nat.lt_or_ge j i with h | h
          · exact H1.out j y h hy
          · obtain rfl : j = i := by omega
            rw [HX.out] at hy
            cases hy
            exact hu
        clear hu
        go_wp2_with (go_at_call 42; refine HCM.out.mono ?_; rintro e w1 ⟨rfl, hl1⟩)
        go_roundw
        case rel => exact ⟨i + 1, by omega, by go_num, HN.out, HBE.out.trans (hl1.mono HBE.out.size)⟩
        case measure => simp [intOf] <;> omega
    · have hin' : ¬ (i : Int) < (ss.length : Int) := by omega
      have HF : Hid (allOk ss = true) := allOk_iff.2 fun x hx => by
        obtain ⟨j, hj, rfl⟩ := List.getElem_of_mem hx
        exact H1.out j _ (by omega) (List.getElem?_eq_getElem hj)
      clear hbel
      go_wp2
      go_ret
      exact ⟨⟨_, rfl, .inr ⟨rfl, HF.out⟩⟩, HBE.out⟩

set_option maxRecDepth 100000 in
theorem con_any (b o c : Nat) (ss : List Sp) (w : World) (hb : Rd w b o ss) (hn : ss.length ≤ 1048576) :
    Calls Try.prog 41 #[.slice (some ⟨b, o, none⟩) ss.length c, .func (.func 42) #[] #[]] w fun e w' => e = .returned (.bool (!allOk ss)) ∧ Below w.heap.size w w' := by
  have HC : Hid (∀ W : World, W = w → Calls Try.prog 45 #[.slice (some ⟨b, o, none⟩) ss.length c, .func (.func 42) #[] #[]] W fun e w' => (∃ r : Int, e = .returned (.int .i64 r) ∧ (0 ≤ r ∧ allOk ss = false ∨ r = -1 ∧ allOk ss = true)) ∧ Below w.heap.size w w') := fun W hW => by subst hW; exact index_any b o c ss W hb hn
  clear hb
  generalize allOk ss = B at HC ⊢
  go_enter Try.func41, Try.ntmps41
  go_wp2_with (go_at_call 45; refine (HC.out _ rfl).mono ?_; rintro e w1 ⟨⟨r, rfl, hr⟩, hl1⟩)
  go_ret
  refine ⟨ret_bool ?_, hl1⟩
  rcases hr with ⟨h, rfl⟩ | ⟨rfl, rfl⟩
  · simp [h]
  · rfl

def okL (ss : List Sp) : Bool := decide (ss.length ≤ 10000) && allOk ss

set_option maxRecDepth 100000 in
theorem oks_any (b o c : Nat) (ss : List Sp) (w : World) (hb : Rd w b o ss) (hn : ss.length ≤ 1048576) :
    Calls Try.prog 30 #[.slice (some ⟨b, o, none⟩) ss.length c] w fun e w' => e = .returned (.bool (okL ss)) ∧ Below w.heap.size w w' := by
  have HC : Hid (∀ W : World, W = w → Calls Try.prog 41 #[.slice (some ⟨b, o, none⟩) ss.length c, .func (.func 42) #[] #[]] W fun e w' => e = .returned (.bool (!allOk ss)) ∧ Below w.heap.size w w') := fun W hW => by subst hW; exact con_any b o c ss W hb hn
  clear hb
  unfold okL
  generalize allOk ss = B at HC ⊢
  by_cases h : ss.length ≤ 10000
  · have h' : (ss.length : Int) ≤ 10000 := by omega
    go_enter Try.func30, Try.ntmps30
    go_wp2_with (go_at_call 41; refine (HC.out _ rfl).mono ?_; rintro e w1 ⟨rfl, hl1⟩)
    go_ret
    exact ⟨ret_bool (by simp [h]), hl1⟩
  · have h' : ¬ (ss.length : Int) ≤ 10000 := by omega
    go_enter Try.func30, Try.ntmps30
    go_wp2
    go_ret
    exact ⟨ret_bool (by simp [h]), Below.refl _ _⟩

end Go.Proofs.Ytogakignaaoklaa.dl
