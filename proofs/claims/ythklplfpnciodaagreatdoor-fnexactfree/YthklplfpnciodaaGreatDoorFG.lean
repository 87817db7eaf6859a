import Derived.Test.YthklplfpnciodaaGreatDoorFF
namespace Go.Proofs.YthklplfpnciodaaGreatDoor.ex
open Go.ChangeShapes Go.WideShapes Go.ChangeAt Go.RowKit Go.Deep Go.Maps
set_option linter.unusedVariables false
set_option linter.unusedSimpArgs false

/-- A row of names that a search does not write. -/
structure NmR (w : World) (mb mf bb off : Nat) (xs : List (List UInt8)) : Prop where
  b : bb ≠ mb
  f : bb ≠ mf
  lt : 0 < xs.length → bb < w.heap.size
  cell : ∀ i x, xs[i]? = some x → w.cell? ⟨bb, off + i, none⟩ = some (strL x)
  small : ∀ x ∈ xs, x.length ≤ 1048576

theorem NmR.kept {w w' : World} {mb mf bb off : Nat} {xs : List (List UInt8)} (h : NmR w mb mf bb off xs) (k : Lk mb mf w w') : NmR w' mb mf bb off xs := by
  refine ⟨h.b, h.f, fun h0 => Nat.lt_of_lt_of_le (h.lt h0) k.size, fun i x hx => ?_, h.small⟩
  have h0 : 0 < xs.length := by have := (List.getElem?_eq_some_iff.1 hx).1; omega
  have := h.cell i x hx
  simp only [World.cell?] at this ⊢
  rw [k.block bb (h.lt h0) h.b h.f]
  exact this

theorem bm_put {w : World} {D : DataW Unit} {c c' : List UInt8 → Nat} {t : List UInt8} {n : Nat} (hm : IsMap D) (h : ∀ x, D.atKey (.string x) (.lit (.int .i64 0)) = .lit (.int .i64 (c x : Int))) (h1 : c' t = n) (h2 : ∀ x, x ≠ t → c' x = c x) : ∀ x, (D.put (.string t) (.lit (.int .i64 (n : Int)))).atKey (.string x) (.lit (.int .i64 0)) = .lit (.int .i64 (c' x : Int)) := by
  intro x
  by_cases e : x = t
  · subst e
    rw [atKey_put_same hm (show WideAt.IsKeyLit (.string x) from trivial), h1]
  · rw [atKey_put_other (by simpa using e), h x, h2 x e]

theorem cnt_take {B xs : List (List UInt8)} {i : Nat} (h : i < xs.length) (x : List UInt8) : (B ++ xs.take (i + 1)).count x = (B ++ xs.take i).count x + (if xAt xs i = x then 1 else 0) := by
  have e : xs.take (i + 1) = xs.take i ++ [xAt xs i] := by
    rw [List.take_succ_eq_append_getElem h]
    simp [xAt, h]
  rw [e]
  simp only [List.count_append, List.count_singleton, beq_iff_eq]
  omega

theorem cnt_drop {B xs : List (List UInt8)} {i : Nat} (h : i < xs.length) (x : List UInt8) : (B ++ xs.drop i).count x = (B ++ xs.drop (i + 1)).count x + (if xAt xs i = x then 1 else 0) := by
  have e : xs.drop i = xAt xs i :: xs.drop (i + 1) := by
    rw [List.drop_eq_getElem_cons h]
    simp [xAt, h]
  rw [e]
  simp only [List.count_append, List.count_cons, beq_iff_eq]
  omega

theorem cnt_le (l : List (List UInt8)) (x : List UInt8) : l.count x ≤ l.length := List.count_le_length

theorem strL_key (x : List UInt8) (h : x.length ≤ 1048576) : keyOf Tryz.prog 9 (strL x) = some (.string x) := by
  have := key9 ⟨x.toArray⟩ (by simpa [ByteArray.size] using h)
  simpa [strL] using this

set_option maxHeartbeats 1000000 in
theorem within_any {r : Nat} (HL : LkS r) (xs : List (List UInt8)) (nb no nc : Nat) (qs : List Tr) (vs : List Value) (a : Option Addr) (cap mb mf N : Nat) (B : List (List UInt8)) (S : List UInt8 → Prop) (w : World) (O : Nat → Prop) (hX : NmR w mb mf nb no xs) (hP : PsO w O a vs) (hV : NdL w O r vs qs) (hO : Of mb mf w O) (hs : Sq w mb mf N B S) (hne : mb ≠ mf) (hN : N + 2 * xs.length + wL r qs ≤ 1000000) (hB : (B ++ xs).length + 3001 * r ≤ 1000000) (hlen : vs.length ≤ 1000000) :
    Calls Tryz.prog 37 #[.agg #[.map (some mb), .map (some mf)], .slice (some ⟨nb, no, none⟩) xs.length nc, .slice a vs.length cap] w fun e w' => (∃ u, e = .returned u) ∧ Sq w' mb mf (N + 2 * xs.length + wL r qs) B (fun x => S x ∨ x ∈ frL r qs (B ++ xs)) ∧ Lk mb mf w w' := by
  have hbl := hs.b.lt
  have hfl := hs.f.lt
  have HS : Hid (Sq w mb mf N B S) := hs
  have HX : Hid (NmR w mb mf nb no xs) := hX
  have hBl : B.length + xs.length ≤ 1000000 := by simp at hB; omega
  have hxl : xs.length ≤ 1000000 := by omega
  have HALL : Hid (∀ W, Lk mb mf w W → ∀ M, M + wL r qs ≤ 1000000 → Sq W mb mf M (B ++ xs) S → Calls Tryz.prog 36 #[.agg #[.map (some mb), .map (some mf)], .slice a vs.length cap] W fun e w' => (∃ u, e = .returned u) ∧ Sq w' mb mf (M + wL r qs) (B ++ xs) (fun x => S x ∨ x ∈ frL r qs (B ++ xs)) ∧ Lk mb mf W w') := fun W k M hM hq => atAll_any HL qs vs a cap mb mf M (B ++ xs) S W O (hP.kept (hO.kept k)) (hV.kept (hO.kept k) (fun _ h => h)) (hO.next k) hq hne hM hB hlen
  clear hX hP hV hO hs HL
  go_enter Tryz.func37, Tryz.ntmps37
  go_wp2
  go_loopw [7, 12] (fun _ x wr => ∃ (i : Nat), i ≤ xs.length ∧ x = .int .i64 (i : Int) ∧ Sq wr mb mf (N + i) (B ++ xs.take i) S ∧ Lk mb mf (w.alloc (.cells #[.map (some mb), .map (some mf)] 42)) wr) (fun _ x _ => xs.length - (intOf x).toNat)
  case atStart => exact ⟨0, Nat.zero_le _, rfl, by simpa using HS.out.alloc _, Lk.refl _ _ _⟩
  case round =>
    obtain ⟨i, hi, rfl, hsq, hlk⟩ := hrel
    have hall : Lk mb mf w wr := ((Lk.refl _ _ _).alloc _).trans hlk
    have bx := box_cell hlk hbl hfl
    have bx0 : wr.cell? ⟨w.heap.size, 0, none⟩ = some (.map (some mb)) := by simp [World.cell?, bx]
    have bx1 : wr.cell? ⟨w.heap.size, 1, none⟩ = some (.map (some mf)) := by simp [World.cell?, bx]
    clear bx
    by_cases h : i < xs.length
    · have h' : (i : Int) < (xs.length : Int) := by omega
      have ci := (HX.out.kept hall).cell i _ (xAt_some h)
      have hkey : keyOf Tryz.prog 9 (.string ⟨(xAt xs i).toArray⟩) = some (.string (xAt xs i)) := strL_key _ (HX.out.small _ (List.mem_of_getElem? (xAt_some h)))
      unfold strL at ci
      obtain ⟨D, hD, hat⟩ := hsq.b
      have HF : Hid (FM wr mf (N + i) S) := hsq.f
      obtain ⟨C, hC⟩ : ∃ C, (B ++ xs.take i).count (xAt xs i) = C := ⟨_, rfl⟩
      have hCb : C ≤ 1000000 := by have := cnt_le (B ++ xs.take i) (xAt xs i); rw [hC, List.length_append, List.length_take] at this; omega
      have HA0 : Hid (D.atKey (.string (xAt xs i)) (.lit (.int .i64 0)) = .lit (.int .i64 (C : Int))) := by have := hat (xAt xs i); simp only [hC] at this; exact this
      have HAT : Hid (∀ x, D.atKey (.string x) (.lit (.int .i64 0)) = .lit (.int .i64 (((B ++ xs.take i).count x : Nat) : Int))) := hat
      have HC : Hid ((B ++ xs.take i).count (xAt xs i) = C) := hC
      have hwf : (Lit.int .i64 ((C : Int) + 1)).wf = true := by simp [Lit.wf, IntKind.min, IntKind.max, IntKind.signed, IntKind.bits]; omega
      clear hsq hat hC
      go_wp2_with (first
        | (at_lookup; refine wpList_lookup_own_int _ rfl _ _ 40 rfl 9 3 .i64 keyed9 Tryz.underlying40 Tryz.underlying3 (zero3 _) mb (N + i) D rfl hD _ _ rfl hkey ?_; intro cc hat hwc; rw [HA0.out] at hat; cases hat; clear hwc)
        | (at_mapUpdate; refine wpList_mapUpdate_own _ rfl _ _ _ 40 rfl 9 3 keyed9 Tryz.underlying40 _ mb (N + i) D rfl hD (by unfold maxLen; omega) _ _ _ rfl rfl hkey _ [] (plainElem_int Tryz.underlying3 hwf) ?_; intro w1 hown1 hg1)
        | go_in)
      go_roundw
      case rel =>
        refine ⟨i + 1, by omega, by go_num, ⟨⟨_, hown1, bm_put (n := C + 1) (w := wr) hD.isMap HAT.out ?_ ?_⟩, ?_⟩, hlk.grownB hg1⟩
        · rw [cnt_take h, HC.out, if_pos rfl]
        · intro x hx
          rw [cnt_take h, if_neg (fun e => hx e.symm)]
          omega
        · exact (HF.out.mono (by omega)).kept (hg1.block mf HF.out.lt (fun e => hne (Option.some.inj e).symm))
      case measure => simp [intOf]; omega
    · have h' : ¬ (i : Int) < (xs.length : Int) := by omega
      obtain rfl : i = xs.length := by omega
      rw [List.take_length] at hsq
      have HC2 := HALL.out wr hall _ (by omega) hsq
      have HCA : Hid (Calls Tryz.prog 36 #[.agg #[.map (some mb), .map (some mf)], .slice a vs.length cap] wr fun e w' => (∃ u, e = .returned u) ∧ Sq w' mb mf (N + xs.length + wL r qs) (B ++ xs) (fun x => S x ∨ x ∈ frL r qs (B ++ xs)) ∧ Lk mb mf wr w') := HC2
      clear HC2 hsq
      go_wp2_with (go_at_call 36; refine HCA.out.mono ?_; rintro e w1 ⟨⟨u1, rfl⟩, hs1, hl1⟩)
      have hlk1 := hlk.trans hl1
      have HS1 : Hid (Sq w1 mb mf (N + xs.length + wL r qs) (B ++ xs) (fun x => S x ∨ x ∈ frL r qs (B ++ xs))) := hs1
      clear hs1 bx0 bx1 HCA HALL
      go_loopw [9, 27] (fun _ x wr => ∃ (i : Nat), i ≤ xs.length ∧ x = .int .i64 (i : Int) ∧ Sq wr mb mf (N + xs.length + wL r qs + i) (B ++ xs.drop i) (fun x => S x ∨ x ∈ frL r qs (B ++ xs)) ∧ Lk mb mf (w.alloc (.cells #[.map (some mb), .map (some mf)] 42)) wr) (fun _ x _ => xs.length - (intOf x).toNat)
      case atStart => exact ⟨0, Nat.zero_le _, rfl, by simpa using HS1.out, hlk1⟩
      case round =>
        clear hlk hl1 hlk1 HS1 hall
        obtain ⟨i, hi, rfl, hsq, hlk⟩ := hrel
        have hall : Lk mb mf w wr := ((Lk.refl _ _ _).alloc _).trans hlk
        have bx := box_cell hlk hbl hfl
        have bx0 : wr.cell? ⟨w.heap.size, 0, none⟩ = some (.map (some mb)) := by simp [World.cell?, bx]
        clear bx
        by_cases h : i < xs.length
        · have h' : (i : Int) < (xs.length : Int) := by omega
          have ci := (HX.out.kept hall).cell i _ (xAt_some h)
          have hkey : keyOf Tryz.prog 9 (.string ⟨(xAt xs i).toArray⟩) = some (.string (xAt xs i)) := strL_key _ (HX.out.small _ (List.mem_of_getElem? (xAt_some h)))
          unfold strL at ci
          obtain ⟨D, hD, hat⟩ := hsq.b
          have HF : Hid (FM wr mf (N + xs.length + wL r qs + i) (fun x => S x ∨ x ∈ frL r qs (B ++ xs))) := hsq.f
          obtain ⟨C, hC⟩ : ∃ C, (B ++ xs.drop (i + 1)).count (xAt xs i) = C := ⟨_, rfl⟩
          have hC1 : (B ++ xs.drop i).count (xAt xs i) = C + 1 := by rw [cnt_drop h, hC, if_pos rfl]
          have hCb : C ≤ 1000000 := by have := cnt_le (B ++ xs.drop (i + 1)) (xAt xs i); rw [hC, List.length_append, List.length_drop] at this; omega
          have HA0 : Hid (D.atKey (.string (xAt xs i)) (.lit (.int .i64 0)) = .lit (.int .i64 ((C : Int) + 1))) := by have := hat (xAt xs i); simp only [hC1] at this; exact this
          have HAT : Hid (∀ x, D.atKey (.string x) (.lit (.int .i64 0)) = .lit (.int .i64 (((B ++ xs.drop i).count x : Nat) : Int))) := hat
          have HC : Hid ((B ++ xs.drop (i + 1)).count (xAt xs i) = C) := hC
          have hwf : (Lit.int .i64 (C : Int)).wf = true := by simp [Lit.wf, IntKind.min, IntKind.max, IntKind.signed, IntKind.bits]; omega
          have hsub : (C : Int) + 1 - 1 = C := by omega
          clear hsq hat hC hC1
          go_wp2_with (first
            | (at_lookup; refine wpList_lookup_own_int _ rfl _ _ 40 rfl 9 3 .i64 keyed9 Tryz.underlying40 Tryz.underlying3 (zero3 _) mb (N + xs.length + wL r qs + i) D rfl hD _ _ rfl hkey ?_; intro cc hat hwc; rw [HA0.out] at hat; cases hat; clear hwc)
            | (at_mapUpdate; refine wpList_mapUpdate_own _ rfl _ _ _ 40 rfl 9 3 keyed9 Tryz.underlying40 _ mb (N + xs.length + wL r qs + i) D rfl hD (by unfold maxLen; omega) _ _ _ rfl rfl hkey _ [] (plainElem_int Tryz.underlying3 hwf) ?_; intro w1 hown1 hg1)
            | go_in)
          go_roundw
          case rel =>
            refine ⟨i + 1, by omega, by go_num, ⟨⟨_, hown1, bm_put (n := C) (w := wr) hD.isMap HAT.out HC.out ?_⟩, ?_⟩, hlk.grownB hg1⟩
            · intro x hx
              have := cnt_drop (B := B) h x
              rw [if_neg (fun e => hx e.symm)] at this
              omega
            · exact (HF.out.mono (by omega)).kept (hg1.block mf HF.out.lt (fun e => hne (Option.some.inj e).symm))
          case measure => simp [intOf]; omega
        · have h' : ¬ (i : Int) < (xs.length : Int) := by omega
          obtain rfl : i = xs.length := by omega
          rw [List.drop_length, List.append_nil] at hsq
          go_wp2
          go_returns
          exact ⟨⟨_, rfl⟩, hsq.mono (by omega), hall⟩

end Go.Proofs.YthklplfpnciodaaGreatDoor.ex
