import Derived.Test.YthklplfpnciodaaGreatDoorFN
namespace Go.Proofs.YthklplfpnciodaaGreatDoor.ex
open Go.ChangeShapes Go.WideShapes Go.ChangeAt Go.RowKit Go.Deep Go.Maps
set_option linter.unusedVariables false
set_option linter.unusedSimpArgs false

theorem NdL.split {w : World} {O : Nat → Prop} {r : Nat} {us : List Value} {ps : List Tr} : ∀ {vs : List Value} {qs : List Tr}, vs.length = qs.length → NdL w O r (vs ++ us) (qs ++ ps) → NdL w O r vs qs ∧ NdL w O r us ps
  | [], [], _, h => ⟨.nil, h⟩
  | [], _ :: _, hl, _ => by simp at hl
  | _ :: _, [], hl, _ => by simp at hl
  | v :: vs, q :: qs, hl, h => by
    obtain ⟨h1, h2⟩ := NdL.split (by simpa using hl) h.cons.2
    exact ⟨.mk h.cons.1 h1, h2⟩

theorem snoc_of {ps : List Tr} {n : Nat} (h : ps.length = n + 1) : ∃ qs b, ps = qs ++ [b] ∧ qs.length = n := by
  have hne : ps ≠ [] := by intro e; rw [e] at h; simp at h
  exact ⟨ps.dropLast, ps.getLast hne, (List.dropLast_concat_getLast hne).symm, by simp [h]⟩

theorem mem_split (r : Nat) (qs bs : List Tr) (hb : ∀ b ∈ bs, b.kind ≠ 7) (B I : List (List UInt8)) (x : List UInt8) : x ∈ (qs ++ bs).flatMap (fun q => freesT r q (if q.kind = 7 then B else I)) ↔ (x ∈ frL r (inhQ qs) B ∨ x ∈ frL r (insQ qs ++ bs) I) := by
  simp only [frL, inhQ, insQ, List.mem_flatMap, List.mem_append, List.mem_filter, decide_eq_true_eq]
  constructor
  · rintro ⟨q, hq | hq, hx⟩
    · by_cases h7 : q.kind = 7
      · rw [if_pos h7] at hx; exact .inl ⟨q, ⟨hq, h7⟩, hx⟩
      · rw [if_neg h7] at hx; exact .inr ⟨q, .inl ⟨hq, h7⟩, hx⟩
    · rw [if_neg (hb q hq)] at hx; exact .inr ⟨q, .inr hq, hx⟩
  · rintro (⟨q, ⟨hq, h7⟩, hx⟩ | ⟨q, ⟨hq, h7⟩ | hq, hx⟩)
    · exact ⟨q, .inl hq, by rwa [if_pos h7]⟩
    · exact ⟨q, .inl hq, by rwa [if_neg h7]⟩
    · exact ⟨q, .inr hq, by rwa [if_neg (hb q hq)]⟩

theorem mem_all (r : Nat) (ps : List Tr) (hb : ∀ b ∈ ps, b.kind ≠ 7) (B I : List (List UInt8)) (x : List UInt8) : x ∈ ps.flatMap (fun q => freesT r q (if q.kind = 7 then B else I)) ↔ x ∈ frL r ps I := by
  simp only [frL, List.mem_flatMap]
  constructor
  · rintro ⟨q, hq, hx⟩
    rw [if_neg (hb q hq)] at hx
    exact ⟨q, hq, hx⟩
  · rintro ⟨q, hq, hx⟩
    exact ⟨q, hq, by rwa [if_neg (hb q hq)]⟩
theorem mem_same (r : Nat) (ps : List Tr) (B : List (List UInt8)) (x : List UInt8) : x ∈ ps.flatMap (fun q => freesT r q (if q.kind = 7 then B else B)) ↔ x ∈ frL r ps B := by
  simp [frL]

theorem names_all {ps : List Tr} (h : ∀ q ∈ ps, exprK q.kind = false) : namesT ps = ps.map txT := by
  unfold namesT
  rw [List.filter_eq_self.2 (fun q hq => by simp [h q hq])]
  rfl
theorem names_snoc {qs : List Tr} {b : Tr} (h : ∀ q ∈ qs, exprK q.kind = false) (hb : exprK b.kind = true) : namesT (qs ++ [b]) = qs.map txT := by
  unfold namesT
  rw [List.filter_append, List.filter_eq_self.2 (fun q hq => by simp [h q hq])]
  simp [hb, txT]

theorem expr6 : exprK 6 = false := by decide
theorem expr7 : exprK 7 = false := by decide
theorem expr15 : exprK 15 = false := by decide
theorem expr_ne {k : Int} (h : exprK k = true) : k ≠ 7 := by rintro rfl; rw [expr7] at h; cases h

theorem Sq.below2 {w w' : World} {mb mf N : Nat} {B : List (List UInt8)} {S : List UInt8 → Prop} (h : Sq w mb mf N B S) (b : Below w.heap.size w w') : Sq w' mb mf N B S := h.kept b
theorem Of.below {mb mf : Nat} {w w' : World} {O : Nat → Prop} (h : Of mb mf w O) (b : Below w.heap.size w w') : Of mb mf w' O := h.next (Lk.of_below b)

/-- All other kinds: their parts, one behind the other. -/
theorem rest_case {r : Nat} (HL : LkS r) (T : TypeId) (x : Value) (h3 : ∀ w, (Instr.typeAssert (.iface T x) 45 63 true).run Tryz.prog w = .ok (.tuple #[.agg #[.string ⟨#[]⟩], .bool false]) w) (h7 : ∀ w, (Instr.typeAssert (.iface T x) 45 65 true).run Tryz.prog w = .ok (.tuple #[.agg #[.string ⟨#[]⟩], .bool false]) w) (h5 : ∀ w, (Instr.typeAssert (.iface T x) 45 68 true).run Tryz.prog w = .ok (.tuple #[.agg #[.bool false, .slice none 0 0], .bool false]) w) (h8 : ∀ w, (Instr.typeAssert (.iface T x) 45 72 true).run Tryz.prog w = .ok (.tuple #[.agg #[.slice none 0 0, .nilIface], .bool false]) w) (h13 : ∀ w, (Instr.typeAssert (.iface T x) 45 74 true).run Tryz.prog w = .ok (.tuple #[.agg #[.string ⟨#[]⟩, .nilIface], .bool false]) w) (h14 : ∀ w, (Instr.typeAssert (.iface T x) 45 77 true).run Tryz.prog w = .ok (.tuple #[.agg #[.slice none 0 0, .bool false, .nilIface], .bool false]) w) (ps : List Tr) (vs : List Value) (mb mf N : Nat) (B : List (List UInt8)) (S : List UInt8 → Prop) (w : World) (O : Nat → Prop) (hV : NdL w O r vs ps) (hO : Of mb mf w O) (hs : Sq w mb mf N B S) (hne : mb ≠ mf) (hN : N + wL r ps ≤ 1000000) (hB : B.length + 3001 * r ≤ 1000000) (hlen : vs.length ≤ 1000000) (hP : PtS (w.alloc (.cells #[.map (some mb), .map (some mf)] 42)).drew O vs (.iface T x)) :
    Calls Tryz.prog 18 #[.agg #[.map (some mb), .map (some mf)], .iface T x] w fun e w' => (∃ u, e = .returned u) ∧ (Sq w' mb mf (N + wL r ps) B (fun x => S x ∨ x ∈ frL r ps B) ∧ Lk mb mf w w') := by
  have hs0 : (w.alloc (.cells #[.map (some mb), .map (some mf)] 42)).drew.heap.size = w.heap.size + 1 := by show (World.alloc _ _).heap.size = _; simp
  have b0 : Below w.heap.size w (w.alloc (.cells #[.map (some mb), .map (some mf)] 42)).drew := ((Below.refl _ _).alloc (Nat.le_refl _) _).drew
  refine look_rest T x h3 h7 h5 h8 h13 h14 mb mf vs.length w hs.b.lt hs.f.lt (fun w1 ap cp => PsO w1 (On O (w.heap.size + 1) w1) ap vs) _ ?_ ?_
  · have := hP
    unfold PtS at this
    rw [hs0] at this
    exact this
  · intro w1 ap cp hps hb
    have bw : Below w.heap.size w w1 := b0.trans (hb.mono (by omega))
    have hO1 := hO.below bw
    have hbl := hs.b.lt
    have hfl := hs.f.lt
    have hO2 : Of mb mf w1 (On O (w.heap.size + 1) w1) := fun bb h => h.elim (fun h => hO1 bb h) (fun h => ⟨h.2, by omega, by omega⟩)
    refine (atAll_any HL ps vs ap cp mb mf N B S w1 (On O (w.heap.size + 1) w1) hps (hV.kept (hO.kept (Lk.of_below bw)) (fun _ h => .inl h)) hO2 (hs.kept bw) hne hN hB hlen).mono ?_
    rintro e w' ⟨he, h1, h2⟩
    exact ⟨he, ⟨h1, (Lk.of_below bw).trans h2⟩, h2⟩


/-- What is to be shown of a node. -/
def Goal (mb mf N : Nat) (B : List (List UInt8)) (S : List UInt8 → Prop) (r : Nat) (t : Tr) (v : Value) (w : World) : Prop := Calls Tryz.prog 18 #[.agg #[.map (some mb), .map (some mf)], v] w fun e w' => (∃ u, e = .returned u) ∧ Sq w' mb mf (N + wT r t) B (fun x => S x ∨ x ∈ freesT r t B) ∧ Lk mb mf w w'

theorem wT_mk (r : Nat) (k : Int) (t : ByteArray) (n : Int) (ps : List Tr) : wT (r + 1) (.mk k t n ps) = 4 + 4 * ps.length + wL r ps := rfl

theorem goal_rest {r : Nat} {k : Int} {tx : ByteArray} {n : Int} {ps : List Tr} {v : Value} {mb mf N : Nat} {B : List (List UInt8)} {S : List UInt8 → Prop} {w : World} (hk : k ≠ 3 ∧ k ≠ 7 ∧ k ≠ 13 ∧ k ≠ 14 ∧ k ≠ 8 ∧ (k = 5 → n ≠ 1)) (h : Calls Tryz.prog 18 #[.agg #[.map (some mb), .map (some mf)], v] w fun e w' => (∃ u, e = .returned u) ∧ (Sq w' mb mf (N + wL r ps) B (fun x => S x ∨ x ∈ frL r ps B) ∧ Lk mb mf w w')) : Goal mb mf N B S (r + 1) (.mk k tx n ps) v w := by
  refine Calls.mono h ?_
  rintro e w' ⟨he, h1, h2⟩
  refine ⟨he, (h1.mono (by rw [wT_mk]; omega)).iff fun x => ?_, h2⟩
  have hi : innT k tx n ps B = B := by
    unfold innT
    rw [if_neg hk.2.2.1, if_neg]
    rintro (h | h | ⟨h5, h6⟩)
    · exact hk.2.2.2.1 h
    · exact hk.2.2.2.2.1 h
    · exact hk.2.2.2.2.2 h5 h6
  rw [freesT, if_neg (by rintro (h | h); exact hk.1 h; exact hk.2.1 h), hi, mem_same]

theorem goal_name {r : Nat} {k : Int} {tx : ByteArray} {n : Int} {v : Value} {mb mf N : Nat} {B : List (List UInt8)} {S : List UInt8 → Prop} {w : World} (hk : k = 3 ∨ k = 7) (h : Calls Tryz.prog 18 #[.agg #[.map (some mb), .map (some mf)], v] w fun e w' => (∃ u, e = .returned u) ∧ (Sq w' mb mf (N + 1) B (fun x => S x ∨ (x = tx.data.toList ∧ B.count x = 0)) ∧ Lk mb mf w w')) : Goal mb mf N B S (r + 1) (.mk k tx n []) v w := by
  refine Calls.mono h ?_
  rintro e w' ⟨he, h1, h2⟩
  refine ⟨he, (h1.mono (by rw [wT_mk]; omega)).iff fun x => ?_, h2⟩
  rw [freesT, if_pos hk]
  by_cases hm : tx.data.toList ∈ B
  · rw [if_pos hm]
    constructor
    · rintro (h | ⟨rfl, h0⟩)
      · exact .inl h
      · exact absurd hm (List.count_eq_zero.1 h0)
    · rintro (h | h)
      · exact .inl h
      · simp at h
  · rw [if_neg hm]
    constructor
    · rintro (h | ⟨rfl, h0⟩)
      · exact .inl h
      · exact .inr (by simp)
    · rintro (h | h)
      · exact .inl h
      · obtain rfl : x = tx.data.toList := by simpa using h
        exact .inr ⟨rfl, List.count_eq_zero.2 hm⟩

theorem found_case {tx : ByteArray} (ht : tx.size ≤ 1048576) {mb mf N : Nat} {B : List (List UInt8)} {S : List UInt8 → Prop} {w W : World} (hb : Below w.heap.size w W) (hs : Sq w mb mf N B S) (hne : mb ≠ mf) (hN : N ≤ 1000000) (hB : B.length ≤ 1000000) :
    Calls Tryz.prog 34 #[.agg #[.map (some mb), .map (some mf)], .string tx] W fun e w' => (∃ u, e = .returned u) ∧ (Sq w' mb mf (N + 1) B (fun x => S x ∨ (x = tx.data.toList ∧ B.count x = 0)) ∧ Lk mb mf w w') := by
  have hq := hs.kept hb
  refine (found_any tx ht mb mf N _ S W hq.b hq.f hne hN (fun x => Nat.le_trans (cnt_le B x) hB)).mono ?_
  rintro e w' ⟨he, h1, h2, h3⟩
  exact ⟨he, ⟨h1, h2⟩, (Lk.of_below hb).trans h3⟩

end Go.Proofs.YthklplfpnciodaaGreatDoor.ex
