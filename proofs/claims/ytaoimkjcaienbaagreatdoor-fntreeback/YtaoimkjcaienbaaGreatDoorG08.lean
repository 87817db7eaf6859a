import Derived.Test.YtaoimkjcaienbaaGreatDoorG05
import Derived.Test.YtaoimkjcaienbaaGreatDoorG06
import Derived.Test.YtaoimkjcaienbaaGreatDoorG07
import Derived.Maps.AppendAt
import Derived.Deep.RegionHeld3
import Derived.BigQuiet
namespace Go.Proofs.YtaoimkjcaienbaaGreatDoor.tt
open Go.ChangeShapes Go.WideShapes Go.ChangeAt Go.RowKit Go.Deep
set_option linter.unusedVariables false
set_option linter.unusedSimpArgs false

theorem lt_tri (p q : List UInt8) : p < q ∨ p = q ∨ q < p := by
  by_cases h : p < q
  · exact .inl h
  · by_cases h2 : q < p
    · exact .inr (.inr h2)
    · exact .inr (.inl (List.le_antisymm (List.not_lt.1 h2) (List.not_lt.1 h)))
theorem bl_yes {x y : ByteArray} (h : x.data.toList < y.data.toList) : Op.bytesLess x.toList y.toList = true := by rw [bl]; simpa using h
theorem bl_no {x y : ByteArray} (h : ¬ x.data.toList < y.data.toList) : Op.bytesLess x.toList y.toList = false := by rw [bl]; simpa using h
/-- The number of those ahead of a text. -/
structure Rk (E : Nat → En) (n : Nat) (q : List UInt8) (a : Nat) : Prop where
  le : a ≤ n
  lo : ∀ j, j < a → pth E j < q
  hi : ∀ j, a ≤ j → j < n → ¬ pth E j < q
theorem Rk.uniq {E : Nat → En} {n a b : Nat} {q : List UInt8} (h : Rk E n q a) (g : Rk E n q b) : a = b := by
  rcases Nat.lt_trichotomy a b with h1 | h1 | h1
  · exact absurd (g.lo a h1) (h.hi a (Nat.le_refl _) (by have := g.le; omega))
  · exact h1
  · exact absurd (h.lo b h1) (g.hi b (Nat.le_refl _) (by have := h.le; omega))
def Is (E : Nat → En) (n : Nat) (q : List UInt8) (a : Nat) : Prop := a < n ∧ pth E a = q
noncomputable def isB (E : Nat → En) (n : Nat) (q : List UInt8) (a : Nat) : Bool := @decide (Is E n q a) (Classical.propDecidable _)
theorem isB_yes {E : Nat → En} {n a : Nat} {q : List UInt8} (h : Is E n q a) : isB E n q a = true := by unfold isB; exact @decide_eq_true _ (Classical.propDecidable _) h
theorem isB_no {E : Nat → En} {n a : Nat} {q : List UInt8} (h : ¬ Is E n q a) : isB E n q a = false := by unfold isB; exact @decide_eq_false _ (Classical.propDecidable _) h
theorem isB_iff {E : Nat → En} {n a : Nat} {q : List UInt8} : isB E n q a = true ↔ Is E n q a := by unfold isB; exact @decide_eq_true_iff _ (Classical.propDecidable _)

/-- One text stands below another. -/
def Und (x d : List UInt8) : Prop := (d ++ [47]) <+: x
instance (x d : List UInt8) : Decidable (Und x d) := inferInstanceAs (Decidable ((d ++ [47]) <+: x))
def Full (E : Nat → En) (n : Nat) (p : List UInt8) : Prop := ∃ j, j < n ∧ Und (pth E j) p
theorem und_at {x d : List UInt8} (h : Und x d) : x[d.length]? = some 47 ∧ x.take d.length = d ∧ d.length < x.length := by
  obtain ⟨t, rfl⟩ := h
  refine ⟨by simp, by simp, by simp⟩
theorem up_of {x : List UInt8} {k : Nat} (h : lst x = some k) : up x = x.take k := by unfold up; rw [h]
theorem lst_lt {x : List UInt8} {k : Nat} (h : lst x = some k) : k < x.length := (List.getElem?_eq_some_iff.1 (lst_some h).1).1
theorem up_ne {x : List UInt8} {k : Nat} (h : lst x = some k) (hk : 0 < k) : up x ≠ [] := fun e => by
  rw [up_of h] at e
  have h1 := congrArg List.length e
  rw [List.length_take, List.length_nil] at h1
  have := lst_lt h
  omega
theorem full_dir {E : Nat → En} {n : Nat} {p : List UInt8} (hT : Tr E n) (hp : p ≠ []) : ∀ (m j : Nat), j ≤ m → j < n → Und (pth E j) p → Dir E n p := by
  intro m
  induction m with
  | zero =>
    intro j hj hjn hu
    obtain rfl : j = 0 := by omega
    obtain ⟨h1, h2, h3⟩ := und_at hu
    cases hl : lst (pth E 0) with
    | none => exact absurd h1 (lst_none hl _)
    | some k =>
      have hk : p.length ≤ k := Nat.le_of_not_lt fun h => (lst_some hl).2 _ h h1
      have hpl : 0 < p.length := List.length_pos_iff.2 hp
      have hne : up (pth E 0) ≠ [] := up_ne hl (by omega)
      obtain ⟨i, hi, _⟩ := hT.2.2 0 hjn hne
      omega
  | succ m ih =>
    intro j hj hjn hu
    obtain ⟨h1, h2, h3⟩ := und_at hu
    cases hl : lst (pth E j) with
    | none => exact absurd h1 (lst_none hl _)
    | some k =>
      have hk : p.length ≤ k := Nat.le_of_not_lt fun h => (lst_some hl).2 _ h h1
      have hkl := lst_lt hl
      have hpl : 0 < p.length := List.length_pos_iff.2 hp
      have hne : up (pth E j) ≠ [] := up_ne hl (by omega)
      obtain ⟨i, hi, hpi, hki⟩ := hT.2.2 j hjn hne
      rw [up_of hl] at hpi
      by_cases hkp : k = p.length
      · rw [hkp, h2] at hpi
        exact ⟨i, by omega, hpi, hki⟩
      · refine ih i (by omega) (by omega) ?_
        rw [hpi]
        obtain ⟨t, ht⟩ := hu
        refine ⟨t.take (k - (p.length + 1)), ?_⟩
        rw [← ht]
        have hlen : (p ++ [47]).length = p.length + 1 := by simp
        have htk : (p ++ [47]).take k = p ++ [47] := List.take_of_length_le (by omega)
        rw [List.take_append, htk, hlen]
theorem full_is {E : Nat → En} {n : Nat} {p : List UInt8} (hT : Tr E n) (hp : p ≠ []) (h : Full E n p) : Dir E n p := by
  obtain ⟨j, hj, hu⟩ := h
  exact full_dir hT hp j j (Nat.le_refl _) hj hu
theorem path_ne {e : En} (h : eOk e = true) : e.path.data.toList ≠ [] := fun hl => by
  unfold eOk pOk at h
  rw [hl, pk, name_nil] at h
  simp at h
/-- Would it be a tree with this entry. -/
def Tk (E : Nat → En) (n : Nat) (e : En) (a : Nat) : Prop := eOk e = true ∧ (up e.path.data.toList ≠ [] → Dir E n (up e.path.data.toList)) ∧ (e.kind = 1 ∨ ¬ Full E n e.path.data.toList) ∧ (Is E n e.path.data.toList a ∨ n < 500)
noncomputable def tkB (E : Nat → En) (n : Nat) (e : En) (a : Nat) : Bool := @decide (Tk E n e a) (Classical.propDecidable _)
theorem tkB_yes {E : Nat → En} {n a : Nat} {e : En} (h : Tk E n e a) : tkB E n e a = true := by unfold tkB; exact @decide_eq_true _ (Classical.propDecidable _) h
theorem tkB_no {E : Nat → En} {n a : Nat} {e : En} (h : ¬ Tk E n e a) : tkB E n e a = false := by unfold tkB; exact @decide_eq_false _ (Classical.propDecidable _) h
theorem tkB_iff {E : Nat → En} {n a : Nat} {e : En} : tkB E n e a = true ↔ Tk E n e a := by unfold tkB; exact @decide_eq_true_iff _ (Classical.propDecidable _)
/-- The tree with it: how many, and which. -/
noncomputable def ptN (E : Nat → En) (n : Nat) (e : En) (a : Nat) : Nat := if isB E n e.path.data.toList a = true then n else n + 1
noncomputable def ptF (E : Nat → En) (n : Nat) (e : En) (a : Nat) : Nat → En := fun k => if k < a then E k else if k = a then e else if isB E n e.path.data.toList a = true then E k else E (k - 1)
/-- What a takes' last question says. -/
theorem tk_there {E : Nat → En} {n a : Nat} {e : En} (hT : Tr E n) (h1 : eOk e = true) (h2 : up e.path.data.toList ≠ [] → Dir E n (up e.path.data.toList)) (hi : Is E n e.path.data.toList a) : Tk E n e a ↔ (e.kind = 1 ∨ (E a).kind ≠ 1 ∨ ¬ Full E n e.path.data.toList) := by
  constructor
  · rintro ⟨_, _, h | h, _⟩
    · exact .inl h
    · exact .inr (.inr h)
  · intro h
    refine ⟨h1, h2, ?_, .inl hi⟩
    rcases h with h | h | h
    · exact .inl h
    · refine .inr fun hf => ?_
      obtain ⟨j, hj, hpj, hk⟩ := full_is hT (path_ne h1) hf
      have : j = a := by
        have hA := hT.asc
        rcases Nat.lt_trichotomy j a with h' | h' | h'
        · exact absurd (hA j a h' hi.1) (by rw [hpj, hi.2]; exact List.lt_irrefl _)
        · exact h'
        · exact absurd (hA a j h' hj) (by rw [hpj, hi.2]; exact List.lt_irrefl _)
      subst this
      exact h hk
    · exact .inr h
theorem tk_new {E : Nat → En} {n a : Nat} {e : En} (hT : Tr E n) (h1 : eOk e = true) (h2 : up e.path.data.toList ≠ [] → Dir E n (up e.path.data.toList)) (hr : Rk E n e.path.data.toList a) (hi : ¬ Is E n e.path.data.toList a) : Tk E n e a ↔ n < 500 := by
  constructor
  · rintro ⟨_, _, _, h | h⟩
    · exact absurd h hi
    · exact h
  · intro h
    refine ⟨h1, h2, .inr fun hf => ?_, .inr h⟩
    obtain ⟨j, hj, hpj, hk⟩ := full_is hT (path_ne h1) hf
    rcases Nat.lt_or_ge j a with h' | h'
    · exact absurd (hr.lo j h') (by rw [hpj]; exact List.lt_irrefl _)
    · rcases Nat.lt_or_ge a j with h'' | h''
      · exact absurd (hT.asc a j h'' hj) (by rw [hpj]; exact hr.hi a (Nat.le_refl _) (by omega))
      · obtain rfl : j = a := by omega
        exact hi ⟨hj, hpj⟩

theorem pre_take {p s : List UInt8} : p <+: s ↔ p.length ≤ s.length ∧ s.take p.length = p := by
  constructor
  · rintro ⟨t, rfl⟩
    exact ⟨by simp, by simp⟩
  · rintro ⟨_, h⟩
    exact ⟨s.drop p.length, by have := List.take_append_drop p.length s; rwa [h] at this⟩
noncomputable def fullB (E : Nat → En) (n : Nat) (p : List UInt8) : Bool := @decide (Full E n p) (Classical.propDecidable _)
theorem fullB_yes {E : Nat → En} {n : Nat} {p : List UInt8} (h : Full E n p) : fullB E n p = true := by unfold fullB; exact @decide_eq_true _ (Classical.propDecidable _) h
theorem fullB_no {E : Nat → En} {n : Nat} {p : List UInt8} (h : ¬ Full E n p) : fullB E n p = false := by unfold fullB; exact @decide_eq_false _ (Classical.propDecidable _) h
theorem fullB_iff {E : Nat → En} {n : Nat} {p : List UInt8} : fullB E n p = true ↔ Full E n p := by unfold fullB; exact @decide_eq_true_iff _ (Classical.propDecidable _)

theorem treeB_is {E : Nat → En} {n : Nat} (h : treeB E n = true) : n ≤ 500 ∧ Tr E n := by unfold treeB at h; exact (@decide_eq_true_iff _ (Classical.propDecidable _)).1 h
/-- A box with an entry. -/
def BxE (W : World) (eb : Nat) (P d : ByteArray) (k : Int) (x : Bool) : Prop := W.cell? ⟨eb, 0, none⟩ = some (.string P) ∧ W.cell? ⟨eb, 1, none⟩ = some (.int .i64 k) ∧ W.cell? ⟨eb, 2, none⟩ = some (.string d) ∧ W.cell? ⟨eb, 3, none⟩ = some (.bool x)
theorem BxE.below {W W' : World} {eb : Nat} {P d : ByteArray} {k : Int} {x : Bool} (h : BxE W eb P d k x) (hb : Below W.heap.size W W') : BxE W' eb P d k x := by
  have hl : eb < W.heap.size := World.block_lt_of_cell? W ⟨eb, 0, none⟩ h.1
  have c : ∀ j, W'.cell? ⟨eb, j, none⟩ = W.cell? ⟨eb, j, none⟩ := fun j => hb.cell (p := ⟨eb, j, none⟩) hl
  exact ⟨(c _).trans h.1, (c _).trans h.2.1, (c _).trans h.2.2.1, (c _).trans h.2.2.2⟩
theorem bxE_new (w : World) (T : Nat) (P d : ByteArray) (k : Int) (x : Bool) : BxE (w.alloc (.cells #[.string P, .int .i64 k, .string d, .bool x] T)) w.heap.size P d k x := by
  have h : ∀ j, (w.alloc (.cells #[.string P, .int .i64 k, .string d, .bool x] T)).cell? ⟨w.heap.size, j, none⟩ = (#[Value.string P, .int .i64 k, .string d, .bool x] : Array Value)[j]? := fun j => World.cell?_alloc_new w _ _ j
  refine ⟨?_, ?_, ?_, ?_⟩ <;> rw [h] <;> rfl

theorem news_of {w : World} {b o n : Nat} {E : Nat → En} (hR : EnR w b o n E) : ∀ j u, (enC E n)[j]? = some u → w.cell? ((⟨b, o, none⟩ : Addr).add j) = some u := by
  intro j u hj
  have hjl : j < n * 4 := by have := (List.getElem?_eq_some_iff.1 hj).1; rwa [enC_len] at this
  have hu : u = cellE E j := by simpa [enC, hjl] using hj.symm
  obtain ⟨a0, a1, a2, a3⟩ := hR (j / 4) (by omega)
  rw [addr_add, hu]
  have hm : j % 4 < 4 := Nat.mod_lt _ (by omega)
  unfold cellE
  by_cases h0 : j % 4 = 0
  · rw [if_pos h0, show o + j = o + j / 4 * 4 by omega]; exact a0
  · by_cases h1 : j % 4 = 1
    · rw [if_neg h0, if_pos h1, show o + j = o + j / 4 * 4 + 1 by omega]; exact a1
    · by_cases h2 : j % 4 = 2
      · rw [if_neg h0, if_neg h1, if_pos h2, show o + j = o + j / 4 * 4 + 2 by omega]; exact a2
      · rw [if_neg h0, if_neg h1, if_neg h2, show o + j = o + j / 4 * 4 + 3 by omega]; exact a3
theorem one_enC (E : Nat → En) (n : Nat) : ∀ u ∈ enC E n, u.oneCell' = true := by
  intro u hu
  obtain ⟨j, _, rfl⟩ := List.mem_map.1 hu
  unfold cellE
  split
  · rfl
  · split
    · rfl
    · split
      · rfl
      · rfl
theorem enR_from {w : World} {b o n : Nat} {E : Nat → En} (hR : EnR w b o n E) (s m : Nat) (h : s + m ≤ n) : EnR w b (o + s * 4) m (fun k => E (s + k)) := fun i hi => by
  have := hR (s + i) (by omega)
  rwa [show o + (s + i) * 4 = o + s * 4 + i * 4 by omega] at this
theorem enR_mono {w : World} {b o n m : Nat} {E : Nat → En} (hR : EnR w b o n E) (h : m ≤ n) : EnR w b o m E := fun i hi => hR i (by omega)
theorem own_not_nil {w : World} {base e size n : Nat} {v : Value} {xs : List Value} (h : w.ownsRow base e size v n xs) (hx : xs ≠ []) : v ≠ .slice none 0 0 := by
  rintro rfl
  rcases h.2 with ⟨_, h2⟩ | ⟨g, cap, cur, h2, _⟩
  · exact hx (by first | exact h2 | (have := h.1; subst h2; simpa using this))
  · cases h2
theorem step_ent {base : Nat} {W : World} {ops : Array Oper} {o : Oper} {a : Act} {K : Act → World → Prop} {Q : Exit → Act → World → Prop} {Ex : Prop} (hgd : o.guard = none) (s x : Operand)
    (ho : o.op = .call { callee := .builtin .append, args := #[s, x], argTypes := #[24, 24] }) (v : Value) (n : Nat) (xs : List Value) (hs : a.eval s = v) (hown : W.ownsRow base 29 4 v n xs) (hb : base ≤ W.heap.size)
    (ad : Addr) (m c : Nat) (news : List Value) (hx : a.eval x = .slice (some ad) m c) (hm : news.length = m * 4) (hnews : ∀ j u, news[j]? = some u → W.cell? (ad.add j) = some u) (h1 : ∀ u ∈ news, u.oneCell' = true) (hlen : n + m ≤ 1000000)
    (h : ∀ v' w', w'.ownsRow base 29 4 v' (n + m) (xs ++ news) → W.grownBy w' v.ownBlock → K (a.put o.dst v') w') :
    if Region.wanted o (yielded ops a.tmps) = true then Oper.wp Tryz.prog o a W K Q else Ex := by
  have hw : Region.wanted o (yielded ops a.tmps) = true := by simp [Region.wanted, hgd]
  rw [if_pos hw]
  obtain ⟨i, hi, hzz⟩ := Option.map_eq_some_iff.1 infoE
  simp only [Prod.mk.injEq] at hzz
  obtain ⟨hz, hsi, hby⟩ := hzz
  refine wp_append_own W s x 24 ho base 29 i _ 4 48 Tryz.underlying24 hi hz hsi hby rfl (by decide) v n xs hs hown ad m c news hx hm hnews h1 (by unfold maxLen; omega) (by omega) hb ?_
  intro v' w' q1 q2 _
  exact h v' w' q1 q2
theorem bel_none {B : Nat} {w W W' : World} (h : Below B w W) (hg : W.grownBy W' none) (hB : B ≤ W.heap.size) : Below B w W' := h.grown hg hB (fun k hk => by cases hk)
theorem rk_ex {E : Nat → En} {q : List UInt8} : ∀ (n : Nat), Asc E n → ∃ a, Rk E n q a
  | 0, _ => ⟨0, Nat.le_refl _, fun j h => by omega, fun j h h2 => by omega⟩
  | n + 1, hA => by
    obtain ⟨a, ha⟩ := rk_ex n (fun i j h h2 => hA i j h (by omega))
    by_cases h : pth E n < q
    · refine ⟨n + 1, Nat.le_refl _, fun j hj => ?_, fun j h1 h2 => by omega⟩
      rcases Nat.lt_or_ge j n with h1 | h1
      · exact List.lt_trans (hA j n h1 (by omega)) h
      · obtain rfl : j = n := by omega
        exact h
    · refine ⟨a, by have := ha.le; omega, ha.lo, fun j h1 h2 => ?_⟩
      rcases Nat.lt_or_ge j n with h3 | h3
      · exact ha.hi j h1 h3
      · obtain rfl : j = n := by omega
        exact h
/-- What PutEntry answers. -/
noncomputable def puB (E : Nat → En) (n : Nat) (e : En) (a : Nat) : Bool := treeB E n && tkB E n e a
noncomputable def puN (E : Nat → En) (n : Nat) (e : En) (a : Nat) : Nat := if treeB E n = true then (if tkB E n e a = true then ptN E n e a else n) else 0
noncomputable def puF (E : Nat → En) (n : Nat) (e : En) (a : Nat) : Nat → En := if tkB E n e a = true then ptF E n e a else E
theorem ptN_le (E : Nat → En) (n : Nat) (e : En) (a : Nat) : ptN E n e a ≤ n + 1 := by unfold ptN; split <;> omega
theorem ptN_ge (E : Nat → En) (n : Nat) (e : En) (a : Nat) : n ≤ ptN E n e a := by unfold ptN; split <;> omega
theorem puN_le (E : Nat → En) (n : Nat) (e : En) (a : Nat) : puN E n e a ≤ n + 1 := by
  unfold puN
  split
  · split
    · exact ptN_le E n e a
    · omega
  · omega
theorem sm_pt {E : Nat → En} {n a : Nat} {e : En} (hS : SmE n E) (h1 : e.path.size ≤ 1048576) (h2 : e.data.size ≤ 1048576) (ha : a ≤ n) : SmE (ptN E n e a) (ptF E n e a) := fun i hi => by
  unfold ptN at hi
  unfold ptF
  split
  · exact hS i (by omega)
  · split
    · exact ⟨h1, h2⟩
    · split
      · rename_i h3; rw [if_pos h3] at hi; exact hS i hi
      · rename_i h3; rw [if_neg h3] at hi; exact hS (i - 1) (by omega)
theorem rowE_none (w w1 : World) (hb : Below w.heap.size w w1) (E : Nat → En) : RowE w.heap.size (w1.alloc (.cells #[] 29)) (.slice (some ⟨w1.heap.size, 0, none⟩) 0 0) 0 E :=
  ⟨w1.heap.size, 0, fun _ => undef, rfl, hb.size, Nat.le_refl _, Nat.zero_le _, ⟨#[], heap_alloc_new w1 _, rfl, fun i hi => by omega⟩, fun i hi => by omega⟩
theorem rowE_mono {base base' : Nat} {w : World} {v : Value} {n : Nat} {E : Nat → En} (h : RowE base w v n E) (hb : base' ≤ base) : RowE base' w v n E := by
  obtain ⟨g, cap, f, rfl, h1, h2, h3, h4, h5⟩ := h
  exact ⟨g, cap, f, rfl, Nat.le_trans hb h1, h2, h3, h4, h5⟩
set_option maxRecDepth 100000 in
theorem under_any (s d : ByteArray) (hs : s.size ≤ 1048576) (hd : d.size ≤ 1048576) (w : World) :
    Calls Tryz.prog 94 #[.string s, .string d] w fun e w' => e = .returned (.bool (decide (Und s.data.toList d.data.toList))) ∧ w' = w := by
  obtain ⟨r, hr⟩ : ∃ r, decide (Und s.data.toList d.data.toList) = r := ⟨_, rfl⟩
  rw [hr]
  have hsl : s.data.toList.length = s.size := by simp
  have hdl : d.data.toList.length = d.size := by simp
  by_cases hle : d.size < s.size
  · have hle' : (d.size : Int) < (s.size : Int) := by omega
    have hle2 : (d.size : Int) + 1 ≤ (s.size : Int) := by omega
    have heq : ((s.extract 0 (d.size + 1)).toList == (d.toList ++ [47])) = r := by
      rw [← hr, take_ext hle, ByteArray.toList_eq, ByteArray.toList_eq, Bool.eq_iff_iff, decide_eq_true_iff]
      unfold Und
      rw [pre_take, List.length_append, hdl, hsl]
      simp only [List.length_cons, List.length_nil, Nat.zero_add, beq_iff_eq]
      exact ⟨fun h => ⟨by omega, h⟩, fun h => h.2⟩
    have heq2 : ((s.extract 0 (d.size + 1)).toList == (d ++ ⟨#[47]⟩).toList) = r := by
      rw [← heq]
      congr 1
      rw [ByteArray.toList_eq, ByteArray.toList_eq]
      simp
    clear hr hsl hdl
    go_enter Tryz.func94, Tryz.ntmps94
    go_wp2
    go_ret
    first | exact ⟨rfl, rfl⟩ | exact ⟨by rw [heq], rfl⟩ | exact ⟨by rw [heq2], rfl⟩ | exact ⟨by simp [heq], rfl⟩ | exact ⟨by simp [heq2], rfl⟩
  · have hle' : ¬ (d.size : Int) < (s.size : Int) := by omega
    have e : r = false := by
      rw [← hr, decide_eq_false_iff_not]
      intro h
      have := (und_at h).2.2
      omega
    subst e
    clear hr hsl hdl
    go_enter Tryz.func94, Tryz.ntmps94
    go_wp2
    go_ret
    exact ⟨rfl, rfl⟩
set_option maxHeartbeats 2000000 in
set_option maxRecDepth 100000 in
theorem full_any (E : Nat → En) (b o n cap : Nat) (P : ByteArray) (w : World) (hR : EnR w b o n E) (hS : SmE n E) (hn : n ≤ 1048576) (hPs : P.size ≤ 1048576) :
    Calls Tryz.prog 86 #[.slice (some ⟨b, o, none⟩) n cap, .string P] w fun e w' => e = .returned (.bool (fullB E n P.data.toList)) ∧ w' = w := by
  have HR : Hid (EnR w b o n E) := hR
  have HC : Hid (∀ p W, p.size ≤ 1048576 → Calls Tryz.prog 94 #[.string p, .string P] W fun e w' => e = .returned (.bool (decide (Und p.data.toList P.data.toList))) ∧ w' = W) := fun p W hp => under_any p P hp hPs W
  have HS : Hid (SmE n E) := hS
  clear hR hS
  go_enter Tryz.func86, Tryz.ntmps86
  go_wp2
  go_loopw [5] (fun x wr => ∃ i : Nat, i ≤ n ∧ x = .int .i64 (i : Int) ∧ (∀ j, j < i → ¬ Und (pth E j) P.data.toList) ∧ wr = w) (fun x _ => n - (intOf x).toNat)
  case atStart => exact ⟨0, Nat.zero_le _, rfl, fun j h => by omega, rfl⟩
  case round =>
    obtain ⟨i, hi, rfl, h1, rfl⟩ := hrel
    have H1 : Hid (∀ j, j < i → ¬ Und (pth E j) P.data.toList) := h1
    clear h1
    by_cases hin : i < n
    · have hin' : (i : Int) < (n : Int) := by omega
      have hi0 : (0 : Int) ≤ (i : Int) := by omega
      obtain ⟨c0, -, -, -⟩ := HR.out i hin
      have HPM : Hid (pth E i = (E i).path.data.toList) := rfl
      have hsm := (HS.out i hin).1
      obtain ⟨M, hM⟩ : ∃ M, (E i).path = M := ⟨_, rfl⟩
      rw [hM] at c0 HPM hsm
      have HCM : Hid (Calls Tryz.prog 94 #[.string M, .string P] wr fun e w' => e = .returned (.bool (decide (Und M.data.toList P.data.toList))) ∧ w' = wr) := HC.out M wr hsm
      clear hM
      by_cases hu : Und M.data.toList P.data.toList
      · rw [decide_eq_true hu] at HCM
        have HF : Hid (fullB E n P.data.toList = true) := fullB_yes ⟨i, hin, by rw [HPM.out]; exact hu⟩
        clear hu
        go_wp2_with (go_at_call 94; refine HCM.out.mono ?_; rintro e w1 ⟨rfl, rfl⟩)
        go_ret
        exact ⟨by rw [HF.out]; rfl, rfl⟩
      · rw [decide_eq_false hu] at HCM
        have HN : Hid (∀ j, j < i + 1 → ¬ Und (pth E j) P.data.toList) := fun j hj => by
          rcases Nat.lt_or_ge j i with h | h
          · exact H1.out j h
          · obtain rfl : j = i := by omega
            rw [HPM.out]; exact hu
        clear hu
        go_wp2_with (go_at_call 94; refine HCM.out.mono ?_; rintro e w1 ⟨rfl, rfl⟩)
        go_roundw
        case rel => exact ⟨i + 1, by omega, by go_num, HN.out, by first | rfl | trivial⟩
        case measure => simp [intOf] <;> omega
    · have hin' : ¬ (i : Int) < (n : Int) := by omega
      have HF : Hid (fullB E n P.data.toList = false) := fullB_no fun ⟨j, hj, hu⟩ => H1.out j (by omega) hu
      go_wp2
      go_ret
      exact ⟨by rw [HF.out]; rfl, rfl⟩
end Go.Proofs.YtaoimkjcaienbaaGreatDoor.tt
