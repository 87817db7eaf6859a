import Derived.Test.YthklplfpnciodaaGreatDoorFO
namespace Go.Proofs.YthklplfpnciodaaGreatDoor.ex
open Go.ChangeShapes Go.WideShapes Go.ChangeAt Go.RowKit Go.Deep Go.Maps
set_option linter.unusedVariables false
set_option linter.unusedSimpArgs false

theorem two_b (w : World) (o o' : Obj) : Below w.heap.size w ((w.alloc o).alloc o') := ((Below.refl _ _).alloc (Nat.le_refl _) _).alloc (by simp) _
theorem three_b (w : World) (o o' o'' : Obj) : Below w.heap.size w (((w.alloc o).alloc o').alloc o'') := (two_b w o o').alloc (by simp; omega) _

theorem goal_set {r : Nat} (HL : LkS r) {tx : ByteArray} {n : Int} {ps : List Tr} {vs : List Value} {a : Option Addr} {cap mb mf N : Nat} {B : List (List UInt8)} {S : List UInt8 → Prop} {w : World} {O : Nat → Prop} (hP : PsO w O a vs) (hV : NdL w O r vs ps) (hK : ∀ q ∈ ps, q.kind = 6 ∨ q.kind = 7) (hO : Of mb mf w O) (hs : Sq w mb mf N B S) (hne : mb ≠ mf) (hN : N + wT (r + 1) (.mk 5 tx n ps) ≤ 1000000) (hB : B.length + 3001 * (r + 1) ≤ 1000000) (hl : ps.length ≤ 3000) :
    Goal mb mf N B S (r + 1) (.mk 5 tx n ps) (.iface 68 (.agg #[.bool (n == 1), .slice a vs.length cap])) w := by
  rw [wT_mk] at hN
  have hvl := hV.1
  by_cases h1 : n = 1
  · subst h1
    unfold Goal
    refine Calls.mono (look5r a vs.length cap mb mf w (fun w' => Sq w' mb mf (N + 2 * ps.length + wL r ps + wL r []) B (fun x => S x ∨ (x ∈ frL r (inhQ ps) B ∨ x ∈ frL r (insQ ps ++ []) (B ++ ps.map txT))) ∧ Lk mb mf w w') ?_) ?_
    · have b := two_b w (.cells #[.map (some mb), .map (some mf)] 42) (.cells #[.bool true, .slice a vs.length cap] 68)
      refine (among_any HL ps [] vs [] (.slice none 0 0) a cap mb mf N B S _ O (hP.kept (hO.kept (Lk.of_below b))) (hV.kept (hO.kept (Lk.of_below b)) (fun _ h => h)) hK .nil (.inl ⟨rfl, rfl⟩) (hO.below b) (hs.kept b) hne (by simp [wL] at hN ⊢; omega) (by omega) (by simp; omega)).mono ?_
      rintro e w' ⟨he, h1, h2⟩
      exact ⟨he, h1, (Lk.of_below b).trans h2⟩
    · rintro e w' ⟨he, h1, h2⟩
      refine ⟨he, (h1.mono (by rw [wT_mk]; simp [wL]; omega)).iff fun x => ?_, h2⟩
      have hi : innT 5 tx 1 ps B = B ++ ps.map txT := by
        rw [innT, if_neg (by decide), if_pos (.inr (.inr ⟨rfl, rfl⟩)), names_all]
        intro q hq
        rcases hK q hq with h | h <;> rw [h]
        · exact expr6
        · exact expr7
      have := mem_split r ps [] (by simp) B (B ++ ps.map txT) x
      rw [List.append_nil] at this
      rw [freesT, if_neg (by decide), hi, this]
  · have hb1 : (n == 1) = false := by simpa using h1
    rw [hb1]
    refine goal_rest ⟨by decide, by decide, by decide, by decide, by decide, fun _ => h1⟩ ?_
    refine look5 a vs.length cap mb mf w _ ?_
    have b := two_b w (.cells #[.map (some mb), .map (some mf)] 42) (.cells #[.bool false, .slice a vs.length cap] 68)
    refine (atAll_any HL ps vs a cap mb mf N B S _ O (hP.kept (hO.kept (Lk.of_below b))) (hV.kept (hO.kept (Lk.of_below b)) (fun _ h => h)) (hO.below b) (hs.kept b) hne (by omega) (by omega) (by omega)).mono ?_
    rintro e w' ⟨he, h1, h2⟩
    exact ⟨he, h1, (Lk.of_below b).trans h2⟩

theorem goal_let {r : Nat} (HL : LkS r) {tx : ByteArray} {n : Int} {qs : List Tr} {bt : Tr} {vs : List Value} {T : TypeId} {p : Value} {a : Option Addr} {cap mb mf N : Nat} {B : List (List UInt8)} {S : List UInt8 → Prop} {w : World} {O : Nat → Prop} (hP : PsO w O a vs) (hV : NdL w O r vs qs) (hX : NdL w O r [.iface T p] [bt]) (hK : ∀ q ∈ qs, q.kind = 6 ∨ q.kind = 7) (hbt : exprK bt.kind = true) (hO : Of mb mf w O) (hs : Sq w mb mf N B S) (hne : mb ≠ mf) (hN : N + wT (r + 1) (.mk 8 tx n (qs ++ [bt])) ≤ 1000000) (hB : B.length + 3001 * (r + 1) ≤ 1000000) (hl : qs.length ≤ 3000) :
    Goal mb mf N B S (r + 1) (.mk 8 tx n (qs ++ [bt])) (.iface 72 (.agg #[.slice a vs.length cap, .iface T p])) w := by
  rw [wT_mk, wL_app] at hN
  have hvl := hV.1
  unfold Goal
  refine Calls.mono (look8 a vs.length cap T p mb mf w (fun w' => Sq w' mb mf (N + 2 * qs.length + wL r qs + wL r [bt]) B (fun x => S x ∨ (x ∈ frL r (inhQ qs) B ∨ x ∈ frL r (insQ qs ++ [bt]) (B ++ qs.map txT))) ∧ Lk mb mf w w') ?_) ?_
  · have b := three_b w (.cells #[.map (some mb), .map (some mf)] 42) (.cells #[.slice a vs.length cap, .iface T p] 72) (.cells #[.iface T p] 45)
    obtain ⟨W1, hW1⟩ : ∃ W1, (w.alloc (.cells #[.map (some mb), .map (some mf)] 42)).alloc (.cells #[.slice a vs.length cap, .iface T p] 72) = W1 := ⟨_, rfl⟩
    have s1 : W1.heap.size = w.heap.size + 2 := by rw [← hW1]; simp
    rw [hW1] at b ⊢
    have cx : (W1.alloc (.cells #[.iface T p] 45)).cell? ⟨w.heap.size + 2, 0, none⟩ = some (.iface T p) := by rw [← s1, World.cell?_alloc_new]; rfl
    have hO2 : Of mb mf (W1.alloc (.cells #[.iface T p] 45)) (fun bb => O bb ∨ bb = w.heap.size + 2) := fun bb h => h.elim (fun h => (hO.below b) bb h) (fun h => by subst h; have := hs.b.lt; have := hs.f.lt; exact ⟨by simp [s1], by omega, by omega⟩)
    refine (among_any HL qs [bt] vs [.iface T p] (.slice (some ⟨w.heap.size + 2, 0, none⟩) 1 1) a cap mb mf N B S _ (fun bb => O bb ∨ bb = w.heap.size + 2) ((hP.kept (hO.kept (Lk.of_below b))).mono (fun _ h => .inl h)) (hV.kept (hO.kept (Lk.of_below b)) (fun _ h => .inl h)) hK (hX.kept (hO.kept (Lk.of_below b)) (fun _ h => .inl h)) (.inr ⟨_, 0, 1, rfl, .inr rfl, fun i x hx => ?_⟩) hO2 (hs.kept b) hne (by simp at hN; omega) (by omega) (by simp; omega)).mono ?_
    · cases i with
      | zero => cases hx; exact cx
      | succ i => simp at hx
    · rintro e w' ⟨he, h1, h2⟩
      exact ⟨he, h1, (Lk.of_below b).trans h2⟩
  · rintro e w' ⟨he, h1, h2⟩
    refine ⟨he, (h1.mono (by rw [wT_mk, wL_app]; simp; omega)).iff fun x => ?_, h2⟩
    have hi : innT 8 tx n (qs ++ [bt]) B = B ++ qs.map txT := by
      rw [innT, if_neg (by decide), if_pos (.inr (.inl rfl)), names_snoc _ hbt]
      intro q hq
      rcases hK q hq with h | h <;> rw [h]
      · exact expr6
      · exact expr7
    rw [freesT, if_neg (by decide), hi, mem_split r qs [bt] (by intro b hb; simp at hb; subst hb; exact expr_ne hbt)]

theorem goal_fun {r : Nat} (HL : LkS r) {tx : ByteArray} (htx : tx.size ≤ 1048576) {n : Int} {bt : Tr} {T : TypeId} {p : Value} {mb mf N : Nat} {B : List (List UInt8)} {S : List UInt8 → Prop} {w : World} {O : Nat → Prop} (hX : NdL w O r [.iface T p] [bt]) (hbt : exprK bt.kind = true) (hO : Of mb mf w O) (hs : Sq w mb mf N B S) (hne : mb ≠ mf) (hN : N + wT (r + 1) (.mk 13 tx n [bt]) ≤ 1000000) (hB : B.length + 3001 * (r + 1) ≤ 1000000) :
    Goal mb mf N B S (r + 1) (.mk 13 tx n [bt]) (.iface 74 (.agg #[.string tx, .iface T p])) w := by
  rw [wT_mk] at hN
  have hbl := hs.b.lt
  have hfl := hs.f.lt
  unfold Goal
  refine Calls.mono (look13 tx T p mb mf w (fun w' => Sq w' mb mf (N + 2 * [tx.data.toList].length + wL r [bt]) B (fun x => S x ∨ x ∈ frL r [bt] (B ++ [tx.data.toList])) ∧ Lk mb mf w w') ?_) ?_
  · obtain ⟨W1, hW1⟩ : ∃ W1, (w.alloc (.cells #[.map (some mb), .map (some mf)] 42)).alloc (.cells #[.string tx, .iface T p] 74) = W1 := ⟨_, rfl⟩
    have s1 : W1.heap.size = w.heap.size + 2 := by rw [← hW1]; simp
    have b1 : Below w.heap.size w W1 := by rw [← hW1]; exact two_b _ _ _
    rw [hW1]
    obtain ⟨W2, hW2⟩ : ∃ W2, W1.alloc (.cells #[.string tx] 9) = W2 := ⟨_, rfl⟩
    have s2 : W2.heap.size = w.heap.size + 3 := by rw [← hW2]; simp [s1]
    have c2 : W2.cell? ⟨w.heap.size + 2, 0, none⟩ = some (.string tx) := by rw [← hW2, ← s1, World.cell?_alloc_new]; rfl
    have b2 : Below w.heap.size w W2 := by rw [← hW2]; exact b1.alloc (by omega) _
    rw [hW2]
    obtain ⟨W3, hW3⟩ : ∃ W3, W2.alloc (.cells #[.iface T p] 45) = W3 := ⟨_, rfl⟩
    have s3 : W3.heap.size = w.heap.size + 4 := by rw [← hW3]; simp [s2]
    have c3 : W3.cell? ⟨w.heap.size + 3, 0, none⟩ = some (.iface T p) := by rw [← hW3, ← s2, World.cell?_alloc_new]; rfl
    have b23 : Below W2.heap.size W2 W3 := by rw [← hW3]; exact (Below.refl _ _).alloc (Nat.le_refl _) _
    have c2' : W3.cell? ⟨w.heap.size + 2, 0, none⟩ = some (.string tx) := (b23.cell (p := ⟨_, _, none⟩) (by show w.heap.size + 2 < _; omega)).trans c2
    have b : Below w.heap.size w W3 := b2.trans (b23.mono (by omega))
    rw [hW3]
    have hO2 : Of mb mf W3 (fun bb => O bb ∨ bb = w.heap.size + 3) := fun bb h => h.elim (fun h => (hO.below b) bb h) (fun h => by subst h; exact ⟨by omega, by omega, by omega⟩)
    have hnm : NmR W3 mb mf (w.heap.size + 2) 0 [tx.data.toList] := ⟨by omega, by omega, fun _ => by omega, fun i x hx => by
      cases i with
      | zero => cases hx; rw [strL_of]; exact c2'
      | succ i => simp at hx, by intro x hx; simp at hx; subst hx; simpa using htx⟩
    refine (within_any HL [tx.data.toList] (w.heap.size + 2) 0 1 [bt] [.iface T p] (some ⟨w.heap.size + 3, 0, none⟩) 1 mb mf N B S W3 (fun bb => O bb ∨ bb = w.heap.size + 3) hnm ⟨w.heap.size + 3, 0, .inr ⟨rfl, .inr rfl⟩, fun i x hx => ?_⟩ (hX.kept (hO.kept (Lk.of_below b)) (fun _ h => .inl h)) hO2 (hs.kept b) hne (by simp at hN ⊢; omega) (by simp; omega) (by simp)).mono ?_
    · cases i with
      | zero => cases hx; exact c3
      | succ i => simp at hx
    · rintro e w' ⟨he, h1, h2⟩
      exact ⟨he, h1, (Lk.of_below b).trans h2⟩
  · rintro e w' ⟨he, h1, h2⟩
    refine ⟨he, (h1.mono (by rw [wT_mk]; simp; omega)).iff fun x => ?_, h2⟩
    rw [freesT, if_neg (by decide), innT, if_pos rfl, mem_all r [bt] (by intro b hb; simp at hb; subst hb; exact expr_ne hbt)]

theorem goal_take {r : Nat} (HL : LkS r) {tx : ByteArray} {n : Int} {qs : List Tr} {bt : Tr} {vs : List Value} {T : TypeId} {p : Value} {b0 : Bool} {a : Option Addr} {cap mb mf N : Nat} {B : List (List UInt8)} {S : List UInt8 → Prop} {w : World} {O : Nat → Prop} (hP : PsO w O a vs) (hV : NdL w O r vs qs) (hX : NdL w O r [.iface T p] [bt]) (hK : ∀ q ∈ qs, q.kind = 15) (hbt : exprK bt.kind = true) (hO : Of mb mf w O) (hs : Sq w mb mf N B S) (hne : mb ≠ mf) (hN : N + wT (r + 1) (.mk 14 tx n (qs ++ [bt])) ≤ 1000000) (hB : B.length + 3001 * (r + 1) ≤ 1000000) (hl : qs.length ≤ 3000) (hsm : ∀ q ∈ qs, q.text.size ≤ 1048576) :
    Goal mb mf N B S (r + 1) (.mk 14 tx n (qs ++ [bt])) (.iface 77 (.agg #[.slice a vs.length cap, .bool b0, .iface T p])) w := by
  rw [wT_mk] at hN
  have hvl := hV.1
  have hbl := hs.b.lt
  have hfl := hs.f.lt
  obtain ⟨W0, hW0⟩ : ∃ W0, W0 = ((w.alloc (.cells #[.map (some mb), .map (some mf)] 42)).alloc (.cells #[.slice a vs.length cap, .bool b0, .iface T p] 77)).drew := ⟨_, rfl⟩
  have s0 : W0.heap.size = w.heap.size + 2 := by rw [hW0]; show (World.alloc _ _).heap.size = _; simp
  have bw0 : Below w.heap.size w W0 := by rw [hW0]; exact (two_b _ _ _).drew
  have hxsm : ∀ x ∈ qs.map txT, x.length ≤ 1048576 := by
    intro x hx
    obtain ⟨q, hq, rfl⟩ := List.mem_map.1 hx
    simpa [txT] using hsm q hq
  unfold Goal
  refine Calls.mono (look14 a vs.length cap b0 T p mb mf w hbl hfl
    (fun w1 vN => ∃ nb no nc, vN = .slice (some ⟨nb, no, none⟩) (qs.map txT).length nc ∧ NmR w1 mb mf nb no (qs.map txT))
    (fun w2 vN vP => ∃ nb no nc ap cp, vN = .slice (some ⟨nb, no, none⟩) (qs.map txT).length nc ∧ NmR w2 mb mf nb no (qs.map txT) ∧ vP = .slice ap (vs ++ [Value.iface T p]).length cp ∧ PsO w2 (On O (w.heap.size + 2) w2) ap (vs ++ [Value.iface T p]))
    (fun w' => Sq w' mb mf (N + 2 * (qs.map txT).length + wL r (qs ++ [bt])) B (fun x => S x ∨ x ∈ frL r (qs ++ [bt]) (B ++ qs.map txT)) ∧ Lk mb mf w w') W0 hW0 ?_ ?_ ?_) ?_
  · have k0 := hO.kept (Lk.of_below (mb := mb) (mf := mf) bw0)
    refine (texts_any qs vs a cap W0 O (fun bb h => ((hO.below bw0) bb h).1) (hP.kept k0) (hV.kept k0 (fun _ h => h)) (fun q hq => .inr (.inr (hK q hq))) (by omega) (qs.map txT) rfl).mono ?_
    rintro e w' ⟨v, he, h1, h2, h3⟩
    obtain ⟨nb, no, nc, rfl, _, _, hnm⟩ := nm_own (mb := mb) (mf := mf) h1 h2 (by omega) (by omega) hxsm
    exact ⟨_, he, ⟨nb, no, nc, rfl, hnm⟩, by rw [s0] at h3; exact h3⟩
  · rintro w1 vN ⟨nb, no, nc, rfl, hnm⟩ hb1
    have bw1 : Below w.heap.size w w1 := bw0.trans (hb1.mono (by omega))
    have k1 := hO.kept (Lk.of_below (mb := mb) (mf := mf) bw1)
    have hz := hb1.size
    have hpt := parts14 vs a cap b0 T p w1 O (fun bb h => ((hO.below bw1) bb h).1) (hP.kept k1) hV.one (by omega)
    unfold PtS at hpt
    refine Calls.mono hpt ?_
    rintro e w' ⟨ap, cp, he, h1, h2⟩
    exact ⟨_, he, ⟨nb, no, nc, ap, cp, rfl, hnm.kept (Lk.of_below h2), rfl, h1.mono (fun bb h => h.imp id (fun h => ⟨by omega, h.2⟩))⟩, h2.mono (by omega)⟩
  · rintro w2 vN vP ⟨nb, no, nc, ap, cp, rfl, hnm, rfl, hps⟩ hb2
    have bw2 : Below w.heap.size w w2 := bw0.trans (hb2.mono (by omega))
    have k2 := hO.kept (Lk.of_below (mb := mb) (mf := mf) bw2)
    have hO2 : Of mb mf w2 (On O (w.heap.size + 2) w2) := fun bb h => h.elim (fun h => (hO.below bw2) bb h) (fun h => ⟨h.2, by omega, by omega⟩)
    have hVX : NdL w2 (On O (w.heap.size + 2) w2) r (vs ++ [Value.iface T p]) (qs ++ [bt]) := NdL.app (hX.kept k2 (fun _ h => .inl h)) (hV.kept k2 (fun _ h => .inl h))
    refine (within_any HL (qs.map txT) nb no nc (qs ++ [bt]) (vs ++ [Value.iface T p]) ap cp mb mf N B S w2 _ hnm hps hVX hO2 (hs.kept bw2) hne (by simp at hN ⊢; omega) (by simp; omega) (by simp; omega)).mono ?_
    rintro e w' ⟨he, h1, h2⟩
    exact ⟨he, ⟨h1, (Lk.of_below bw2).trans h2⟩, h2⟩
  · rintro e w' ⟨he, h1, h2⟩
    refine ⟨he, (h1.mono (by rw [wT_mk]; simp; omega)).iff fun x => ?_, h2⟩
    have hi : innT 14 tx n (qs ++ [bt]) B = B ++ qs.map txT := by
      rw [innT, if_neg (by decide), if_pos (.inl rfl), names_snoc _ hbt]
      intro q hq
      rw [hK q hq]
      exact expr15
    rw [freesT, if_neg (by decide), hi, mem_all r (qs ++ [bt])]
    intro b hb
    rcases List.mem_append.1 hb with h | h
    · rw [hK b h]; decide
    · simp at h; subst h; exact expr_ne hbt


set_option maxHeartbeats 1000000 in
theorem look_succ {r : Nat} (HL : LkS r) : LkS (r + 1) := by
  intro t v mb mf N B S w O hnd hok hO hs hne hN hB
  obtain ⟨k, tx, n, ps⟩ := t
  obtain ⟨hif, vs, hl, hp, hv⟩ := hnd
  obtain ⟨hts, hkk, hpl, hkid⟩ := hok
  have hV : NdL w O r vs ps := ⟨hl, fun i x y hx hy => ⟨hp i x y hx hy, (hkid i y hy).2⟩⟩
  have hI := hV.ifaces
  have hN2 := hN
  rw [wT_mk] at hN2
  have b0 : ∀ o, Below w.heap.size w (w.alloc o).drew := fun o => ((Below.refl _ _).alloc (Nat.le_refl _) _).drew
  show Goal mb mf N B S (r + 1) (.mk k tx n ps) v w
  cases hv with
  | intN =>
    refine goal_rest ⟨by decide, by decide, by decide, by decide, by decide, fun h => absurd h (by decide)⟩ ?_
    exact rest_case HL _ _ (as1_3 _) (as1_7 _) (as1_5 _) (as1_8 _) (as1_13 _) (as1_14 _) _ _ mb mf N B S w O hV hO hs hne (by omega) (by omega) (by omega) (parts1 tx n _ O)
  | strN =>
    refine goal_rest ⟨by decide, by decide, by decide, by decide, by decide, fun h => absurd h (by decide)⟩ ?_
    exact rest_case HL _ _ (as2_3 _) (as2_7 _) (as2_5 _) (as2_8 _) (as2_13 _) (as2_14 _) _ _ mb mf N B S w O hV hO hs hne (by omega) (by omega) (by omega) (parts2 tx n _ O)
  | listN vs a cap h =>
    refine goal_rest ⟨by decide, by decide, by decide, by decide, by decide, fun h => absurd h (by decide)⟩ ?_
    exact rest_case HL _ _ (as4_3 _) (as4_7 _) (as4_5 _) (as4_8 _) (as4_13 _) (as4_14 _) _ _ mb mf N B S w O hV hO hs hne (by omega) (by omega) (by omega) (parts4 vs a cap _ O (fun bb hb => ((hO.below (b0 _)) bb hb).1) (h.kept (hO.kept (Lk.of_below (b0 _)))))
  | bindN x =>
    obtain ⟨T0, p0, rfl⟩ := hI x (by simp)
    refine goal_rest ⟨by decide, by decide, by decide, by decide, by decide, fun h => absurd h (by decide)⟩ ?_
    exact rest_case HL _ _ (as6_3 _) (as6_7 _) (as6_5 _) (as6_8 _) (as6_13 _) (as6_14 _) _ _ mb mf N B S w O hV hO hs hne (by omega) (by omega) (by omega) (parts6 tx T0 p0 _ O)
  | withN x y =>
    obtain ⟨T0, p0, rfl⟩ := hI x (by simp)
    obtain ⟨T1, p1, rfl⟩ := hI y (by simp)
    refine goal_rest ⟨by decide, by decide, by decide, by decide, by decide, fun h => absurd h (by decide)⟩ ?_
    exact rest_case HL _ _ (as9_3 _) (as9_7 _) (as9_5 _) (as9_8 _) (as9_13 _) (as9_14 _) _ _ mb mf N B S w O hV hO hs hne (by omega) (by omega) (by omega) (parts9 tx T0 p0 T1 p1 _ O)
  | assertN x y =>
    obtain ⟨T0, p0, rfl⟩ := hI x (by simp)
    obtain ⟨T1, p1, rfl⟩ := hI y (by simp)
    refine goal_rest ⟨by decide, by decide, by decide, by decide, by decide, fun h => absurd h (by decide)⟩ ?_
    exact rest_case HL _ _ (as10_3 _) (as10_7 _) (as10_5 _) (as10_8 _) (as10_13 _) (as10_14 _) _ _ mb mf N B S w O hV hO hs hne (by omega) (by omega) (by omega) (parts10 tx T0 p0 T1 p1 _ O)
  | callN x y =>
    obtain ⟨T0, p0, rfl⟩ := hI x (by simp)
    obtain ⟨T1, p1, rfl⟩ := hI y (by simp)
    refine goal_rest ⟨by decide, by decide, by decide, by decide, by decide, fun h => absurd h (by decide)⟩ ?_
    exact rest_case HL _ _ (as11_3 _) (as11_7 _) (as11_5 _) (as11_8 _) (as11_13 _) (as11_14 _) _ _ mb mf N B S w O hV hO hs hne (by omega) (by omega) (by omega) (parts11 tx T0 p0 T1 p1 _ O)
  | ifN x y z =>
    obtain ⟨T0, p0, rfl⟩ := hI x (by simp)
    obtain ⟨T1, p1, rfl⟩ := hI y (by simp)
    obtain ⟨T2, p2, rfl⟩ := hI z (by simp)
    refine goal_rest ⟨by decide, by decide, by decide, by decide, by decide, fun h => absurd h (by decide)⟩ ?_
    exact rest_case HL _ _ (as12_3 _) (as12_7 _) (as12_5 _) (as12_8 _) (as12_13 _) (as12_14 _) _ _ mb mf N B S w O hV hO hs hne (by omega) (by omega) (by omega) (parts12 tx T0 p0 T1 p1 T2 p2 _ O)
  | param0 =>
    refine goal_rest ⟨by decide, by decide, by decide, by decide, by decide, fun h => absurd h (by decide)⟩ ?_
    exact rest_case HL _ _ (as15_3 _) (as15_7 _) (as15_5 _) (as15_8 _) (as15_13 _) (as15_14 _) _ _ mb mf N B S w O hV hO hs hne (by omega) (by omega) (by omega) (parts15a tx _ O)
  | param1 x =>
    obtain ⟨T0, p0, rfl⟩ := hI x (by simp)
    refine goal_rest ⟨by decide, by decide, by decide, by decide, by decide, fun h => absurd h (by decide)⟩ ?_
    exact rest_case HL _ _ (as15_3 _) (as15_7 _) (as15_5 _) (as15_8 _) (as15_13 _) (as15_14 _) _ _ mb mf N B S w O hV hO hs hne (by omega) (by omega) (by omega) (parts15b tx T0 p0 _ O)
  | get1 x =>
    obtain ⟨T0, p0, rfl⟩ := hI x (by simp)
    refine goal_rest ⟨by decide, by decide, by decide, by decide, by decide, fun h => absurd h (by decide)⟩ ?_
    exact rest_case HL _ _ (as16_3 _) (as16_7 _) (as16_5 _) (as16_8 _) (as16_13 _) (as16_14 _) _ _ mb mf N B S w O hV hO hs hne (by omega) (by omega) (by omega) (parts16a tx T0 p0 _ O)
  | get2 x y =>
    obtain ⟨T0, p0, rfl⟩ := hI x (by simp)
    obtain ⟨T1, p1, rfl⟩ := hI y (by simp)
    refine goal_rest ⟨by decide, by decide, by decide, by decide, by decide, fun h => absurd h (by decide)⟩ ?_
    exact rest_case HL _ _ (as16_3 _) (as16_7 _) (as16_5 _) (as16_8 _) (as16_13 _) (as16_14 _) _ _ mb mf N B S w O hV hO hs hne (by omega) (by omega) (by omega) (parts16b tx T0 p0 T1 p1 _ O)
  | hasN x =>
    obtain ⟨T0, p0, rfl⟩ := hI x (by simp)
    refine goal_rest ⟨by decide, by decide, by decide, by decide, by decide, fun h => absurd h (by decide)⟩ ?_
    exact rest_case HL _ _ (as17_3 _) (as17_7 _) (as17_5 _) (as17_8 _) (as17_13 _) (as17_14 _) _ _ mb mf N B S w O hV hO hs hne (by omega) (by omega) (by omega) (parts17 tx T0 p0 _ O)
  | binN x y =>
    obtain ⟨T0, p0, rfl⟩ := hI x (by simp)
    obtain ⟨T1, p1, rfl⟩ := hI y (by simp)
    refine goal_rest ⟨by decide, by decide, by decide, by decide, by decide, fun h => absurd h (by decide)⟩ ?_
    exact rest_case HL _ _ (as18_3 _) (as18_7 _) (as18_5 _) (as18_8 _) (as18_13 _) (as18_14 _) _ _ mb mf N B S w O hV hO hs hne (by omega) (by omega) (by omega) (parts18 tx T0 p0 T1 p1 _ O)
  | negN x =>
    obtain ⟨T0, p0, rfl⟩ := hI x (by simp)
    refine goal_rest ⟨by decide, by decide, by decide, by decide, by decide, fun h => absurd h (by decide)⟩ ?_
    exact rest_case HL _ _ (as19_3 _) (as19_7 _) (as19_5 _) (as19_8 _) (as19_13 _) (as19_14 _) _ _ mb mf N B S w O hV hO hs hne (by omega) (by omega) (by omega) (parts19 tx T0 p0 _ O)
  | notN x =>
    obtain ⟨T0, p0, rfl⟩ := hI x (by simp)
    refine goal_rest ⟨by decide, by decide, by decide, by decide, by decide, fun h => absurd h (by decide)⟩ ?_
    exact rest_case HL _ _ (as20_3 _) (as20_7 _) (as20_5 _) (as20_8 _) (as20_13 _) (as20_14 _) _ _ mb mf N B S w O hV hO hs hne (by omega) (by omega) (by omega) (parts20 tx T0 p0 _ O)
  | nameN =>
    obtain rfl : ps = [] := List.length_eq_zero_iff.1 (by simpa using hl.symm)
    exact goal_name (.inl rfl) (look3 tx mb mf w _ (found_case hts (two_b _ _ _) hs hne (by omega) (by omega)))
  | inheritN =>
    obtain rfl : ps = [] := List.length_eq_zero_iff.1 (by simpa using hl.symm)
    exact goal_name (.inr rfl) (look7 tx mb mf w _ (found_case hts (two_b _ _ _) hs hne (by omega) (by omega)))
  | setN vs a cap h =>
    refine goal_set HL h hV (fun q hq => ?_) hO hs hne hN hB hpl
    obtain ⟨i, hi, rfl⟩ := List.getElem_of_mem hq
    have := (hkid i ps[i] (by simp)).1
    unfold kidOk at this
    simpa using this
  | letN vs x a cap h =>
    obtain ⟨qs, bt, rfl, hql⟩ := snoc_of (n := vs.length) (by simpa using hl.symm)
    obtain ⟨T0, p0, rfl⟩ := hI x (by simp)
    obtain ⟨h1, h2⟩ := NdL.split hql.symm hV
    have hlast : exprK bt.kind = true := by
      have := (hkid qs.length bt (by simp)).1
      unfold kidOk at this
      simpa using this
    refine goal_let HL h h1 h2 (fun q hq => ?_) hlast hO hs hne hN hB (by simp at hpl; omega)
    obtain ⟨i, hi, rfl⟩ := List.getElem_of_mem hq
    have := (hkid i qs[i] (by rw [List.getElem?_append_left hi]; simp)).1
    unfold kidOk at this
    simpa [hi] using this
  | funN x =>
    obtain ⟨qs, bt, rfl, hql⟩ := snoc_of (n := 0) (by simpa using hl.symm)
    obtain rfl := List.length_eq_zero_iff.1 hql
    obtain ⟨T0, p0, rfl⟩ := hI x (by simp)
    have hlast : exprK bt.kind = true := by
      have := (hkid 0 bt (by simp)).1
      unfold kidOk at this
      simpa using this
    exact goal_fun HL hts hV hlast hO hs hne hN hB
  | takeN vs x a cap h =>
    obtain ⟨qs, bt, rfl, hql⟩ := snoc_of (n := vs.length) (by simpa using hl.symm)
    obtain ⟨T0, p0, rfl⟩ := hI x (by simp)
    obtain ⟨h1, h2⟩ := NdL.split hql.symm hV
    have hlast : exprK bt.kind = true := by
      have := (hkid qs.length bt (by simp)).1
      unfold kidOk at this
      simpa using this
    refine goal_take HL h h1 h2 (fun q hq => ?_) hlast hO hs hne hN hB (by simp at hpl; omega) (fun q hq => ?_)
    · obtain ⟨i, hi, rfl⟩ := List.getElem_of_mem hq
      have := (hkid i qs[i] (by rw [List.getElem?_append_left hi]; simp)).1
      unfold kidOk at this
      simpa [hi] using this
    · obtain ⟨i, hi, rfl⟩ := List.getElem_of_mem hq
      have hok := (hkid i qs[i] (by rw [List.getElem?_append_left hi]; simp)).2
      generalize qs[i] = q at hok
      cases r with
      | zero => exact hok.elim
      | succ r => obtain ⟨k, t, n, ps⟩ := q; exact hok.1

theorem look_all : ∀ r, LkS r
  | 0 => fun t v mb mf N B S w O hnd => hnd.elim
  | r + 1 => look_succ (look_all r)

end Go.Proofs.YthklplfpnciodaaGreatDoor.ex
