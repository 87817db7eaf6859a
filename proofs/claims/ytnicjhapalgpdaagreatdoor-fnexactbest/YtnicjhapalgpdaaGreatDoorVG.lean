import Derived.Test.YtnicjhapalgpdaaGreatDoorVE
import Derived.Deep.RegionHeld3
namespace Go.Proofs.YtnicjhapalgpdaaGreatDoor.vr
open Go.ChangeShapes Go.WideShapes Go.ChangeAt Go.RowKit Go.Deep Go.Shelf
set_option linter.unusedVariables false
set_option linter.unusedSimpArgs false

/-! ### Rows of parts, wherever they lie -/

theorem flat_at {f : Pt → List Value} {sz : Nat} (hf : ∀ p, (f p).length = sz) : ∀ (ps : List Pt) (k : Nat) (p : Pt) (j : Nat) (u : Value), ps[k]? = some p → (f p)[j]? = some u → (ps.flatMap f)[k * sz + j]? = some u
  | [], k, p, j, u, h, _ => by simp at h
  | q :: r, 0, p, j, u, h, hu => by
    obtain rfl : q = p := by simpa using h
    rw [List.flatMap_cons, Nat.zero_mul, Nat.zero_add, List.getElem?_append_left]
    · exact hu
    · exact (List.getElem?_eq_some_iff.1 hu).1
  | q :: r, k + 1, p, j, u, h, hu => by
    have := flat_at hf r k p j u (by simpa using h) hu
    rw [List.flatMap_cons, List.getElem?_append_right (by rw [hf, Nat.succ_mul]; omega), hf]
    rw [show (k + 1) * sz + j - sz = k * sz + j by rw [Nat.succ_mul]; omega]
    exact this

theorem ptIc_len (p : Pt) : (ptIc p).length = 3 := by cases p <;> rfl
theorem ptSc_len (p : Pt) : (ptSc p).length = 2 := by cases p <;> rfl

def RowC (sz : Nat) (f : Pt → List Value) (w : World) (v : Value) (ps : List Pt) : Prop :=
  ∃ a cap, v = .slice a ps.length cap ∧ ps.length ≤ cap ∧ (ps = [] ∨ ∃ bb, a = some ⟨bb, 0, none⟩ ∧ ∀ k p j u, ps[k]? = some p → (f p)[j]? = some u → w.cell? ⟨bb, k * sz + j, none⟩ = some u)

theorem RowC.below {sz : Nat} {f : Pt → List Value} {w w' : World} {v : Value} {ps : List Pt} (h : RowC sz f w v ps) (hb : Below w.heap.size w w') : RowC sz f w' v ps := by
  obtain ⟨a, cap, e, hc, h⟩ := h
  refine ⟨a, cap, e, hc, ?_⟩
  rcases h with h | ⟨bb, ha, h⟩
  · exact .inl h
  · exact .inr ⟨bb, ha, fun k p j u h1 h2 => (hb.cell (p := ⟨bb, _, none⟩) (World.block_lt_of_cell? _ _ (h k p j u h1 h2))).trans (h k p j u h1 h2)⟩

theorem RowC.own {sz : Nat} {f : Pt → List Value} {w : World} {B e : Nat} {v : Value} {ps : List Pt} (hf : ∀ p, (f p).length = sz) (hsz : 0 < sz) (h : w.ownsRow B e sz v ps.length (ps.flatMap f)) : RowC sz f w v ps := by
  have h0 := h
  obtain ⟨hl, h⟩ := h
  rcases h with ⟨hv, hn⟩ | ⟨g, cap, cur, rfl, hb, hg, hcs⟩
  · have : ps = [] := List.length_eq_zero_iff.1 hn
    subst this
    exact ⟨none, 0, hv, Nat.le_refl _, .inl rfl⟩
  · refine ⟨_, cap, rfl, hcs.1, .inr ⟨g, rfl, fun k p j u h1 h2 => ?_⟩⟩
    have := h0.cells (g := g) rfl (k * sz + j) u (flat_at hf ps k p j u h1 h2)
    rwa [addr_add, Nat.zero_add] at this

def RowI := RowC 3 ptIc
def RowP := RowC 2 ptSc
theorem OwnI.row {B : Nat} {w : World} {v : Value} {ps : List Pt} (h : OwnI B w v ps) : RowI w v ps := RowC.own ptIc_len (by omega) h
theorem OwnP.row {B : Nat} {w : World} {v : Value} {ps : List Pt} (h : OwnP B w v ps) : RowP w v ps := RowC.own ptSc_len (by omega) h
theorem RowI.nil (w : World) : RowI w (.slice none 0 0) [] := ⟨none, 0, rfl, Nat.le_refl _, .inl rfl⟩

def optI : Option Pt → Value
  | none => noI
  | some p => ptI p

set_option maxHeartbeats 1000000 in
set_option maxRecDepth 100000 in
theorem part_any (ps : List Pt) (i : Nat) (v : Value) (w : World) (hR : RowI w v ps) (hn : ps.length ≤ 1000) (hi : i ≤ 1000) :
    Calls Tryz.prog 42 #[v, .int .i64 (i : Int)] w fun e w' => e = .returned (optI ps[i]?) ∧ Below w.heap.size w w' := by
  obtain ⟨a, cap, rfl, hcap, hc⟩ := hR
  by_cases h : i < ps.length
  · rcases hc with rfl | ⟨bb, rfl, hc⟩
    · simp at h
    obtain ⟨p, hp⟩ : ∃ p, ps[i]? = some p := ⟨_, List.getElem?_eq_getElem h⟩
    obtain ⟨x, y, z, hI, hIc, hx⟩ := ptI_form p
    have c0 := hc i p 0 _ hp (by rw [hIc]; rfl)
    have c1 := hc i p 1 _ hp (by rw [hIc]; rfl)
    have c2 := hc i p 2 _ hp (by rw [hIc]; rfl)
    have B0 : Below w.heap.size w (w.alloc (.cells #[.int .i64 0, .int .i64 0, .string ⟨#[]⟩] 73)) := (Below.refl _ _).alloc (Nat.le_refl _) _
    have d0 := (B0.cell (p := ⟨bb, _, none⟩) (World.block_lt_of_cell? _ _ c0)).trans c0
    have d1 := (B0.cell (p := ⟨bb, _, none⟩) (World.block_lt_of_cell? _ _ c1)).trans c1
    have d2 := (B0.cell (p := ⟨bb, _, none⟩) (World.block_lt_of_cell? _ _ c2)).trans c2
    rw [Nat.add_zero] at c0 d0
    have HV : Hid (optI ps[i]? = .agg #[.int .i64 x, .int .i64 y, .string z]) := by show _ = _; rw [hp]; exact hI
    clear hc hp hI hIc
    go_enter Tryz.func42, Tryz.ntmps42
    go_wp2
    refine ret_cell3 Tryz.results42 rfl (three_lit _ _ _ _ _) ⟨congrArg Ending.returned HV.out.symm, (Below.refl _ _).alloc (Nat.le_refl _) _⟩
  · have HV : Hid (optI ps[i]? = .agg #[.int .i64 0, .int .i64 0, .string ⟨#[]⟩]) := by show _ = _; rw [List.getElem?_eq_none (by omega)]; rfl
    go_enter Tryz.func42, Tryz.ntmps42
    go_wp2
    refine ret_cell3 Tryz.results42 rfl (three_lit _ _ _ _ _) ⟨congrArg Ending.returned HV.out.symm, (Below.refl _ _).alloc (Nat.le_refl _) _⟩

/-! ### The library's comparisons -/

def cmpZ (a b : Int) : Int := if a < b then -1 else if b < a then 1 else 0

theorem nanI (a : Int) (w : World) : Calls Tryz.prog 72 #[.int .i64 a] w fun e w' => e = .returned (.bool false) ∧ w' = w := by
  go_enter Tryz.func72, Tryz.ntmps72
  go_wp2
  go_ret
  exact ⟨ret_bool (by simp), rfl⟩
theorem nanL (a : Int) (w : World) : Calls Tryz.prog 73 #[.int .i64 a] w fun e w' => e = .returned (.bool false) ∧ w' = w := by
  go_enter Tryz.func73, Tryz.ntmps73
  go_wp2
  go_ret
  exact ⟨ret_bool (by simp), rfl⟩
theorem nanS (a : ByteArray) (w : World) : Calls Tryz.prog 74 #[.string a] w fun e w' => e = .returned (.bool false) ∧ w' = w := by
  go_enter Tryz.func74, Tryz.ntmps74
  go_wp2
  go_ret
  exact ⟨ret_bool (by simp), rfl⟩

theorem compareI (a b : Int) (w : World) : Calls Tryz.prog 61 #[.int .i64 a, .int .i64 b] w fun e w' => e = .returned (.int .i64 (cmpZ a b)) ∧ w' = w := by
  have hz : cmpZ a b = if a < b then -1 else if b < a then 1 else 0 := rfl
  by_cases h1 : a < b
  · rw [if_pos h1] at hz
    rw [hz]
    clear hz
    go_enter Tryz.func61, Tryz.ntmps61
    go_wp2_with (go_at_call 72; refine (nanI _ _).mono ?_; rintro e w ⟨rfl, rfl⟩)
    go_ret
    exact ⟨rfl, rfl⟩
  · rw [if_neg h1] at hz
    by_cases h2 : b < a
    · rw [if_pos h2] at hz
      rw [hz]
      clear hz
      go_enter Tryz.func61, Tryz.ntmps61
      go_wp2_with (go_at_call 72; refine (nanI _ _).mono ?_; rintro e w ⟨rfl, rfl⟩)
      go_ret
      exact ⟨rfl, rfl⟩
    · rw [if_neg h2] at hz
      rw [hz]
      clear hz
      go_enter Tryz.func61, Tryz.ntmps61
      go_wp2_with (go_at_call 72; refine (nanI _ _).mono ?_; rintro e w ⟨rfl, rfl⟩)
      go_ret
      exact ⟨rfl, rfl⟩

theorem compareL (a b : Int) (w : World) : Calls Tryz.prog 62 #[.int .i64 a, .int .i64 b] w fun e w' => e = .returned (.int .i64 (cmpZ a b)) ∧ w' = w := by
  have hz : cmpZ a b = if a < b then -1 else if b < a then 1 else 0 := rfl
  by_cases h1 : a < b
  · rw [if_pos h1] at hz
    rw [hz]
    clear hz
    go_enter Tryz.func62, Tryz.ntmps62
    go_wp2_with (go_at_call 73; refine (nanL _ _).mono ?_; rintro e w ⟨rfl, rfl⟩)
    go_ret
    exact ⟨rfl, rfl⟩
  · rw [if_neg h1] at hz
    by_cases h2 : b < a
    · rw [if_pos h2] at hz
      rw [hz]
      clear hz
      go_enter Tryz.func62, Tryz.ntmps62
      go_wp2_with (go_at_call 73; refine (nanL _ _).mono ?_; rintro e w ⟨rfl, rfl⟩)
      go_ret
      exact ⟨rfl, rfl⟩
    · rw [if_neg h2] at hz
      rw [hz]
      clear hz
      go_enter Tryz.func62, Tryz.ntmps62
      go_wp2_with (go_at_call 73; refine (nanL _ _).mono ?_; rintro e w ⟨rfl, rfl⟩)
      go_ret
      exact ⟨rfl, rfl⟩

theorem bl (x y : ByteArray) : Op.bytesLess x.toList y.toList = decide (x.data.toList < y.data.toList) := by rw [ByteArray.toList_eq, ByteArray.toList_eq, Go.Proofs.bytesLess_eq]

set_option maxRecDepth 100000 in
theorem compareS (a b : ByteArray) (w : World) : Calls Tryz.prog 63 #[.string a, .string b] w fun e w' => e = .returned (.int .i64 (cmpL a.data.toList b.data.toList)) ∧ w' = w := by
  have hz : cmpL a.data.toList b.data.toList = if a.data.toList < b.data.toList then -1 else if b.data.toList < a.data.toList then 1 else 0 := rfl
  have e1 := bl a b
  by_cases h1 : a.data.toList < b.data.toList
  · rw [if_pos h1] at hz
    rw [hz]
    have e1' : Op.bytesLess a.toList b.toList = true := by rw [e1]; exact decide_eq_true h1
    clear hz e1 h1
    go_enter Tryz.func63, Tryz.ntmps63
    go_wp2_with (go_at_call 74; refine (nanS _ _).mono ?_; rintro e w ⟨rfl, rfl⟩)
    go_ret
    exact ⟨rfl, rfl⟩
  · rw [if_neg h1] at hz
    have e1' : Op.bytesLess a.toList b.toList = false := by rw [e1]; exact decide_eq_false h1
    by_cases h2 : b.data.toList < a.data.toList
    · rw [if_pos h2] at hz
      rw [hz]
      have e2 : (a.toList == b.toList) = false := by rw [beq_eq_false_iff_ne, ByteArray.toList_eq, ByteArray.toList_eq]; intro e; rw [e] at h2; exact List.lt_irrefl _ h2
      clear hz e1 h1 h2
      go_enter Tryz.func63, Tryz.ntmps63
      go_wp2_with (go_at_call 74; refine (nanS _ _).mono ?_; rintro e w ⟨rfl, rfl⟩)
      all_goals first
        | (go_ret; exact ⟨rfl, rfl⟩)
        | (exfalso; simp_all)
    · rw [if_neg h2] at hz
      rw [hz]
      have e0 := ll_total h1 h2
      have e2 : a.toList = b.toList := by rw [ByteArray.toList_eq, ByteArray.toList_eq]; exact e0
      have e3 : a = b := by apply ByteArray.ext; exact Array.toList_inj.1 e0
      subst e3
      clear hz e1 h1 h2 e0 e2
      go_enter Tryz.func63, Tryz.ntmps63
      go_wp2_with (go_at_call 74; refine (nanS _ _).mono ?_; rintro e w ⟨rfl, rfl⟩)
      go_ret
      exact ⟨rfl, rfl⟩

def orI (a b c : Int) : Int := if a ≠ 0 then a else if b ≠ 0 then b else c

set_option maxHeartbeats 1000000 in
theorem or_any (a b c : Int) (g : Nat) (w : World) (h0 : w.cell? ⟨g, 0, none⟩ = some (.int .i64 a)) (h1 : w.cell? ⟨g, 1, none⟩ = some (.int .i64 b)) (h2 : w.cell? ⟨g, 2, none⟩ = some (.int .i64 c)) :
    Calls Tryz.prog 60 #[.slice (some ⟨g, 0, none⟩) 3 3] w fun e w' => e = .returned (.int .i64 (orI a b c)) ∧ w' = w := by
  go_enter Tryz.func60, Tryz.ntmps60
  go_wp2
  go_loop [5, 8] (fun _ i => i = .int .i64 0 ∨ i = .int .i64 1 ∧ a = 0 ∨ i = .int .i64 2 ∧ a = 0 ∧ b = 0 ∨ i = .int .i64 3 ∧ a = 0 ∧ b = 0 ∧ c = 0) (fun _ i => 4 - (intOf i).toNat)
  case atStart => exact .inl rfl
  case round =>
    rcases hrel with rfl | ⟨rfl, rfl⟩ | ⟨rfl, rfl, rfl⟩ | ⟨rfl, rfl, rfl, rfl⟩
    · by_cases ha : a = 0
      · subst ha
        go_wp2
        go_round
        case rel => simp
        case measure => simp [intOf]
      · have HO : Hid (orI a b c = a) := if_pos ha
        go_wp2
        go_ret
        exact ⟨ret_int HO.out.symm, rfl⟩
    · by_cases hb : b = 0
      · subst hb
        go_wp2
        go_round
        case rel => simp
        case measure => simp [intOf]
      · have HO : Hid (orI 0 b c = b) := by show _ = _; unfold orI; rw [if_neg (by omega), if_pos hb]
        go_wp2
        go_ret
        exact ⟨ret_int HO.out.symm, rfl⟩
    · by_cases hc : c = 0
      · subst hc
        go_wp2
        go_round
        case rel => simp
        case measure => simp [intOf]
      · have HO : Hid (orI 0 0 c = c) := by show _ = _; unfold orI; rw [if_neg (by omega), if_neg (by omega)]
        go_wp2
        go_ret
        exact ⟨ret_int HO.out.symm, rfl⟩
    · go_wp2
      go_ret
      exact ⟨rfl, rfl⟩

/-! ### Two parts held against each other -/

def cmpO : Option Pt → Option Pt → Int
  | some x, some y => cmpPt x y
  | some (.word _), none => -1
  | some (.num _), none => 1
  | none, some (.word _) => 1
  | none, some (.num _) => -1
  | none, none => 0

theorem optI_form (o : Option Pt) : ∃ (x y : Int) (z : ByteArray), optI o = .agg #[.int .i64 x, .int .i64 y, .string z] := by
  cases o with
  | none => exact ⟨0, 0, ⟨#[]⟩, rfl⟩
  | some p => obtain ⟨x, y, z, h, _⟩ := ptI_form p; exact ⟨x, y, z, h⟩

theorem agg3 {x y x' y' : Int} {z z' : ByteArray} (h : (Value.agg #[.int .i64 x, .int .i64 y, .string z]) = .agg #[.int .i64 x', .int .i64 y', .string z']) : x = x' ∧ y = y' ∧ z = z' := by
  simpa using h

theorem optI_or {o q : Option Pt} {x y x' y' : Int} {z z' : ByteArray} (h : optI o = .agg #[.int .i64 x, .int .i64 y, .string z]) (h' : optI q = .agg #[.int .i64 x', .int .i64 y', .string z']) :
    orI (cmpZ x x') (cmpZ y y') (cmpL z.data.toList z'.data.toList) = cmpO o q := by
  have key : ∀ (a b : Nat), cmpZ (a : Int) (b : Int) = cmpN a b := by intro a b; unfold cmpZ cmpN; simp only [Int.ofNat_lt]
  have l0 : cmpL [] [] = 0 := cmpL_zero.2 rfl
  have z0 : ∀ a, cmpZ a a = 0 := by intro a; unfold cmpZ; rw [if_neg (by omega), if_neg (by omega)]
  cases o with
  | none =>
    obtain ⟨rfl, rfl, rfl⟩ := agg3 h
    cases q with
    | none =>
      obtain ⟨rfl, rfl, rfl⟩ := agg3 h'
      simp [orI, z0, l0, cmpO]
    | some p =>
      cases p with
      | num n =>
        obtain ⟨rfl, rfl, rfl⟩ := agg3 h'
        simp [orI, cmpZ, cmpO]
      | word l =>
        obtain ⟨rfl, rfl, rfl⟩ := agg3 h'
        simp [orI, cmpZ, cmpO]
  | some p =>
    cases p with
    | num n =>
      obtain ⟨rfl, rfl, rfl⟩ := agg3 h
      cases q with
      | none =>
        obtain ⟨rfl, rfl, rfl⟩ := agg3 h'
        simp [orI, cmpZ, cmpO]
      | some p =>
        cases p with
        | num m =>
          obtain ⟨rfl, rfl, rfl⟩ := agg3 h'
          rw [z0, key]
          simp only [orI, l0, cmpO, cmpPt]
          by_cases hh : cmpN n m = 0 <;> simp [hh]
        | word l =>
          obtain ⟨rfl, rfl, rfl⟩ := agg3 h'
          simp [orI, cmpZ, cmpO, cmpPt]
    | word l =>
      obtain ⟨rfl, rfl, rfl⟩ := agg3 h
      cases q with
      | none =>
        obtain ⟨rfl, rfl, rfl⟩ := agg3 h'
        simp [orI, cmpZ, cmpO]
      | some p =>
        cases p with
        | num m =>
          obtain ⟨rfl, rfl, rfl⟩ := agg3 h'
          simp [orI, cmpZ, cmpO, cmpPt]
        | word m =>
          obtain ⟨rfl, rfl, rfl⟩ := agg3 h'
          rw [z0, z0]
          simp [orI, cmpO, cmpPt]

theorem cmpO_zero {o q : Option Pt} : cmpO o q = 0 ↔ o = q := by
  cases o with
  | none =>
    cases q with
    | none => simp [cmpO]
    | some p => cases p <;> simp [cmpO]
  | some p =>
    cases q with
    | none => cases p <;> simp [cmpO]
    | some r => simp [cmpO, cmpPt_zero]

theorem cmpP_cons (x y : Pt) (a b : List Pt) : cmpP (x :: a) (y :: b) = if cmpPt x y = 0 then cmpP a b else cmpPt x y := by cases x <;> cases y <;> rfl

theorem cmpP_eq : ∀ (a b : List Pt) (i : Nat), cmpO a[i]? b[i]? = 0 → cmpP (a.drop i) (b.drop i) = cmpP (a.drop (i + 1)) (b.drop (i + 1))
  | [], [], i, h => by simp
  | [], y :: b, 0, h => by rw [cmpO_zero] at h; simp at h
  | x :: a, [], 0, h => by rw [cmpO_zero] at h; simp at h
  | x :: a, y :: b, 0, h => by
    have h' : cmpPt x y = 0 := by simpa [cmpO] using h
    show cmpP (x :: a) (y :: b) = cmpP a b
    rw [cmpP_cons, if_pos h']
  | [], y :: b, i + 1, h => by
    have := cmpP_eq [] b i (by simpa using h)
    simpa using this
  | x :: a, [], i + 1, h => by
    have := cmpP_eq a [] i (by simpa using h)
    simpa using this
  | x :: a, y :: b, i + 1, h => by
    have := cmpP_eq a b i (by simpa using h)
    simpa using this

theorem cmpP_ne : ∀ (a b : List Pt) (i : Nat), cmpO a[i]? b[i]? ≠ 0 → cmpP (a.drop i) (b.drop i) = cmpO a[i]? b[i]?
  | [], [], i, h => absurd (by simp [cmpO]) h
  | [], y :: b, 0, h => by cases y <;> rfl
  | x :: a, [], 0, h => by cases x <;> rfl
  | x :: a, y :: b, 0, h => by
    have h' : ¬ cmpPt x y = 0 := by simpa [cmpO] using h
    show cmpP (x :: a) (y :: b) = cmpPt x y
    rw [cmpP_cons, if_neg h']
  | [], y :: b, i + 1, h => by
    have := cmpP_ne [] b i (by simpa using h)
    simpa using this
  | x :: a, [], i + 1, h => by
    have := cmpP_ne a [] i (by simpa using h)
    simpa using this
  | x :: a, y :: b, i + 1, h => by
    have := cmpP_ne a b i (by simpa using h)
    simpa using this

end Go.Proofs.YtnicjhapalgpdaaGreatDoor.vr
