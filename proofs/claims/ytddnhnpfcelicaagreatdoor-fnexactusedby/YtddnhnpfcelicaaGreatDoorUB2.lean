import Derived.Test.YtddnhnpfcelicaaGreatDoorCL2
import Derived.Test.YtddnhnpfcelicaaGreatDoorYC
import Derived.Maps.AppendAt
import Derived.Deep.RegionHeld3
import Derived.Test.YtddnhnpfcelicaaGreatDoorYB
import Derived.Test.YtddnhnpfcelicaaGreatDoorYD
import Derived.Test.YtddnhnpfcelicaaGreatDoorLA
import Derived.Test.YtddnhnpfcelicaaGreatDoorST
namespace Go.Proofs.YtddnhnpfcelicaaGreatDoor.so
open Go.ChangeShapes Go.WideShapes Go.ChangeAt Go.RowKit Go.Deep Go.Shelf Go.Maps
set_option linter.unusedVariables false
set_option linter.unusedSimpArgs false

/-! ### Closures, plainly: what is found is what can be reached; turned round -/

/-- Along what an item refers to; all of it is there. -/
inductive Rch (g : List UInt8 → Option (List (List UInt8))) : List UInt8 → List UInt8 → Prop
  | here {p : List UInt8} (h : g p ≠ none) : Rch g p p
  | over {p q y : List UInt8} {r : List (List UInt8)} (h : g p = some r) (hy : y ∈ r) (hr : Rch g y q) : Rch g p q
theorem Rch.dom {g : List UInt8 → Option (List (List UInt8))} {p q : List UInt8} (h : Rch g p q) : g p ≠ none := by
  cases h with
  | here h => exact h
  | over h _ _ => rw [h]; simp
theorem Rch.snoc {g : List UInt8 → Option (List (List UInt8))} {p q z : List UInt8} {r : List (List UInt8)} (h : Rch g p q) (hq : g q = some r) (hz : z ∈ r) (hd : g z ≠ none) : Rch g p z := by
  induction h with
  | here _ => exact .over hq hz (.here hd)
  | over h1 h2 _ ih => exact .over h1 h2 (ih hq)

/-- What is right of every state. -/
def Sta (g : List UInt8 → Option (List (List UInt8))) (s : List (List UInt8)) (q : List (List UInt8) × List (List UInt8)) : Prop :=
  ((∀ x ∈ q.1, ∃ p ∈ s, Rch g p x) ∧ ∀ y ∈ q.2, ∀ x, Rch g y x → ∃ p ∈ s, Rch g p x) ∧ (∀ y ∈ q.1, ∀ r, g y = some r → ∀ z ∈ r, z ∈ q.1 ∨ z ∈ q.2 ∨ g z = none) ∧ ∀ p ∈ s, p ∈ q.1 ∨ p ∈ q.2 ∨ g p = none
theorem Sta.zero (g : List UInt8 → Option (List (List UInt8))) (s : List (List UInt8)) : Sta g s ([], s) :=
  ⟨⟨fun x hx => by (cases hx), fun y hy x hx => ⟨y, hy, hx⟩⟩, (fun y hy => by cases hy), fun p hp => .inr (.inl hp)⟩
theorem Sta.step {g : List UInt8 → Option (List (List UInt8))} {s : List (List UInt8)} {q : List (List UInt8) × List (List UInt8)} (h : Sta g s q) : Sta g s (stp g q) := by
  obtain ⟨F, st⟩ := q
  rcases List.eq_nil_or_concat st with rfl | ⟨st', p, rfl⟩
  · rw [stp_nil]; exact h
  rw [List.concat_eq_append] at *
  obtain ⟨⟨h1, h2⟩, h3, h4⟩ := h
  simp only at h1 h2 h3 h4
  have hsub : ∀ y ∈ st', y ∈ st' ++ [p] := fun y hy => List.mem_append_left _ hy
  by_cases hp : p ∈ F
  · rw [stp_seen hp]
    have fx : ∀ z, (z ∈ F ∨ z ∈ st' ++ [p] ∨ g z = none) → (z ∈ F ∨ z ∈ st' ∨ g z = none) := fun z hz => by
      rcases hz with hz | hz | hz
      · exact .inl hz
      · rcases List.mem_append.1 hz with hz | hz
        · exact .inr (.inl hz)
        · rw [List.mem_singleton] at hz
          rw [hz]; exact .inl hp
      · exact .inr (.inr hz)
    exact ⟨⟨h1, fun y hy => h2 y (hsub y hy)⟩, fun y hy r hr z hz => fx z (h3 y hy r hr z hz), fun y hy => fx y (h4 y hy)⟩
  · cases hg : g p with
    | none =>
      rw [stp_none hg]
      have fx : ∀ z, (z ∈ F ∨ z ∈ st' ++ [p] ∨ g z = none) → (z ∈ F ∨ z ∈ st' ∨ g z = none) := fun z hz => by
        rcases hz with hz | hz | hz
        · exact .inl hz
        · rcases List.mem_append.1 hz with hz | hz
          · exact .inr (.inl hz)
          · rw [List.mem_singleton] at hz
            rw [hz]; exact .inr (.inr hg)
        · exact .inr (.inr hz)
      exact ⟨⟨h1, fun y hy => h2 y (hsub y hy)⟩, fun y hy r hr z hz => fx z (h3 y hy r hr z hz), fun y hy => fx y (h4 y hy)⟩
    | some r =>
      rw [stp_new hg hp]
      have hpm : p ∈ st' ++ [p] := by simp
      have fx : ∀ z, (z ∈ F ∨ z ∈ st' ++ [p] ∨ g z = none) → (z ∈ F ++ [p] ∨ z ∈ st' ++ r ∨ g z = none) := fun z hz => by
        rcases hz with hz | hz | hz
        · exact .inl (List.mem_append_left _ hz)
        · rcases List.mem_append.1 hz with hz | hz
          · exact .inr (.inl (List.mem_append_left _ hz))
          · exact .inl (List.mem_append_right _ hz)
        · exact .inr (.inr hz)
      refine ⟨⟨fun x hx => ?_, fun y hy x hx => ?_⟩, fun y hy r' hr z hz => ?_, fun y hy => fx y (h4 y hy)⟩
      · rcases List.mem_append.1 hx with hx | hx
        · exact h1 x hx
        · rw [List.mem_singleton] at hx
          subst hx
          exact h2 x hpm x (.here (by rw [hg]; simp))
      · rcases List.mem_append.1 hy with hy | hy
        · exact h2 y (hsub y hy) x hx
        · exact h2 p hpm x (.over hg hy hx)
      · rcases List.mem_append.1 hy with hy | hy
        · exact fx z (h3 y hy r' hr z hz)
        · rw [List.mem_singleton] at hy
          subst hy
          rw [hg] at hr
          cases hr
          exact .inr (.inl (List.mem_append_right _ hz))
theorem Sta.its (g : List UInt8 → Option (List (List UInt8))) (s : List (List UInt8)) : ∀ k, Sta g s (its g k ([], s))
  | 0 => Sta.zero g s
  | k + 1 => (Sta.its g s k).step
theorem fin_iff {g : List UInt8 → Option (List (List UInt8))} {s F : List (List UInt8)} {k : Nat} (h : its g k ([], s) = (F, [])) (x : List UInt8) : x ∈ fin g s ↔ ∃ p ∈ s, Rch g p x := by
  rw [fin_eq h]
  have hs := Sta.its g s k
  rw [h] at hs
  obtain ⟨⟨h1, _⟩, h3, h4⟩ := hs
  simp only [List.not_mem_nil, false_or] at h1 h3 h4
  refine ⟨h1 x, ?_⟩
  rintro ⟨p, hp, hr⟩
  have hpF : p ∈ F := (h4 p hp).resolve_right hr.dom
  clear hp
  induction hr with
  | here _ => exact hpF
  | over e1 e2 e3 ih => exact ih ((h3 _ hpF _ e1 _ e2).resolve_right e3.dom)

/-- It ends. -/
theorem clo_ends (ps : List ty.It) (hr : ∀ x ∈ ps, x.fRefs.length ≤ 300) (s : List (List UInt8)) : ∃ k F, its (gI ps) k ([], s) = (F, []) := by
  suffices ∀ m F st, Clo ps s F st → (ps.length - F.length) * 301 + st.length ≤ m → ∃ k F, its (gI ps) k ([], s) = (F, []) from this _ [] s (Clo.zero ps s) (Nat.le_refl _)
  intro m
  induction m with
  | zero =>
    intro F st h hm
    have : st = [] := List.eq_nil_of_length_eq_zero (by omega)
    subst this
    exact ⟨_, _, h.1.choose_spec⟩
  | succ m ih =>
    intro F st h hm
    rcases List.eq_nil_or_concat st with rfl | ⟨st', p, rfl⟩
    · exact ⟨_, _, h.1.choose_spec⟩
    · rw [List.concat_eq_append] at *
      rw [List.length_append, List.length_singleton] at hm
      by_cases hp : gI ps p = none ∨ p ∈ F
      · exact ih F st' (h.skip hp) (by omega)
      · obtain ⟨r, hg⟩ : ∃ r, gI ps p = some r := by
          cases e : gI ps p with
          | none => exact absurd (.inl e) hp
          | some r => exact ⟨r, rfl⟩
        have hpF : p ∉ F := fun h => hp (.inr h)
        have hrl : r.length ≤ 300 := by
          unfold gI at hg
          obtain ⟨x, hx, rfl⟩ := Option.map_eq_some_iff.1 hg
          unfold refL
          rw [List.length_map]
          exact hr x (List.mem_of_find?_eq_some hx)
        have h2 := h.more hg hpF hrl
        have h3 := h2.len
        rw [List.length_append, List.length_singleton] at h3
        refine ih _ _ h2 ?_
        rw [List.length_append, List.length_append, List.length_singleton]
        have e1 : ps.length - F.length = (ps.length - (F.length + 1)) + 1 := by omega
        rw [e1, Nat.add_mul, Nat.one_mul] at hm
        generalize (ps.length - (F.length + 1)) * 301 = E at hm ⊢
        clear e1 h3 h2 ih h
        omega
theorem clo_iff (ps : List ty.It) (hr : ∀ x ∈ ps, x.fRefs.length ≤ 300) (s : List (List UInt8)) (x : List UInt8) : x ∈ fin (gI ps) s ↔ ∃ p ∈ s, Rch (gI ps) p x := by
  obtain ⟨k, F, h⟩ := clo_ends ps hr s
  exact fin_iff h x

/-- Turned round. -/
theorem rch_turn {g h : List UInt8 → Option (List (List UInt8))} (hd : ∀ p, g p ≠ none → h p ≠ none) (he : ∀ p q r, g p = some r → q ∈ r → g q ≠ none → ∃ r', h q = some r' ∧ p ∈ r') {p q : List UInt8} (hr : Rch g p q) : Rch h q p := by
  induction hr with
  | here h1 => exact .here (hd _ h1)
  | over e1 e2 e3 ih =>
    obtain ⟨r', k1, k2⟩ := he _ _ _ e1 e2 e3.dom
    exact ih.snoc k1 k2 (hd _ (by rw [e1]; simp))

end Go.Proofs.YtddnhnpfcelicaaGreatDoor.so

namespace Go.Proofs.YtddnhnpfcelicaaGreatDoor.so
open Go.ChangeShapes Go.WideShapes Go.ChangeAt Go.RowKit Go.Deep Go.Shelf Go.Maps
set_option linter.unusedVariables false
set_option linter.unusedSimpArgs false

/-! ### Where an item stands that is there (slices.BinarySearchFunc over items) -/

noncomputable def cmpI (p q : List UInt8) : Int := if p < q then -1 else if q < p then 1 else 0
theorem cmpI_lt {p q : List UInt8} (h : p < q) : cmpI p q = -1 := by unfold cmpI; rw [if_pos h]
theorem cmpI_gt {p q : List UInt8} (h : q < p) : cmpI p q = 1 := by unfold cmpI; rw [if_neg (fun h2 => List.lt_irrefl _ (List.lt_trans h h2)), if_pos h]
theorem cmpI_eq (p : List UInt8) : cmpI p p = 0 := by unfold cmpI; rw [if_neg (List.lt_irrefl _), if_neg (List.lt_irrefl _)]
theorem lt_triI (p q : List UInt8) : p < q ∨ p = q ∨ q < p := by
  by_cases h : p < q
  · exact .inl h
  · by_cases h2 : q < p
    · exact .inr (.inr h2)
    · exact .inr (.inl (List.le_antisymm (List.not_lt.1 h2) (List.not_lt.1 h)))
theorem blI (x y : ByteArray) : Op.bytesLess x.toList y.toList = decide (x.data.toList < y.data.toList) := by rw [ByteArray.toList_eq, ByteArray.toList_eq, Go.Proofs.bytesLess_eq]

theorem nanI_any (p : ByteArray) (w : World) : Calls Tryz.prog 79 #[.string p] w fun e w' => e = .returned (.bool false) ∧ w' = w := by
  go_enter Tryz.func79, Tryz.ntmps79
  go_wp2
  go_ret
  first | exact ⟨rfl, rfl⟩ | exact ⟨by simp, rfl⟩

set_option maxRecDepth 100000 in
theorem cmpI_any (p q : ByteArray) (w : World) : Calls Tryz.prog 82 #[.string p, .string q] w fun e w' => e = .returned (.int .i64 (cmpI p.data.toList q.data.toList)) ∧ w' = w := by
  have HNA : Hid (∀ x W, Calls Tryz.prog 79 #[.string x] W fun e w' => e = .returned (.bool false) ∧ w' = W) := fun x W => nanI_any x W
  obtain ⟨r, hr⟩ : ∃ r, cmpI p.data.toList q.data.toList = r := ⟨_, rfl⟩
  rw [hr]
  have HR : Hid (cmpI p.data.toList q.data.toList = r) := hr
  clear hr
  rcases lt_triI p.data.toList q.data.toList with h | h | h
  · have h1 : Op.bytesLess p.toList q.toList = true := by rw [blI]; simpa using h
    have e : r = -1 := HR.out.symm.trans (cmpI_lt h)
    subst e
    clear h HR
    go_enter Tryz.func82, Tryz.ntmps82
    go_wp2_with (go_at_call 79; refine (HNA.out _ _).mono ?_; rintro e w1 ⟨rfl, rfl⟩)
    go_ret
    exact ⟨rfl, rfl⟩
  · have h1 : Op.bytesLess p.toList q.toList = false := by rw [blI, h]; exact decide_eq_false (List.lt_irrefl _)
    have h2 : (p.toList == q.toList) = true := by rw [ByteArray.toList_eq, ByteArray.toList_eq]; simpa using h
    have e : r = 0 := HR.out.symm.trans (by rw [h]; exact cmpI_eq _)
    subst e
    clear h HR
    go_enter Tryz.func82, Tryz.ntmps82
    go_wp2_with (go_at_call 79; refine (HNA.out _ _).mono ?_; rintro e w1 ⟨rfl, rfl⟩)
    go_ret
    exact ⟨rfl, rfl⟩
  · have h1 : Op.bytesLess p.toList q.toList = false := by rw [blI]; exact decide_eq_false (fun h2 => List.lt_irrefl _ (List.lt_trans h h2))
    have h2 : (p.toList == q.toList) = false := by
      rw [ByteArray.toList_eq, ByteArray.toList_eq, beq_eq_false_iff_ne]
      intro e
      rw [e] at h
      exact List.lt_irrefl _ h
    have e : r = 1 := HR.out.symm.trans (cmpI_gt h)
    subst e
    clear h HR
    go_enter Tryz.func82, Tryz.ntmps82
    go_wp2_with (go_at_call 79; refine (HNA.out _ _).mono ?_; rintro e w1 ⟨rfl, rfl⟩)
    go_ret
    exact ⟨rfl, rfl⟩

set_option maxRecDepth 100000 in
theorem in1_any (p v1 v3 q : ByteArray) (v2 v4 : Value) (w : World) :
    Calls Tryz.prog 81 #[.agg #[.string p, .string v1, v2, .string v3, v4], .string q] w fun e w' => e = .returned (.int .i64 (cmpI p.data.toList q.data.toList)) ∧ Below w.heap.size w w' := by
  have HC : Hid (∀ W, Calls Tryz.prog 82 #[.string p, .string q] W fun e w' => e = .returned (.int .i64 (cmpI p.data.toList q.data.toList)) ∧ w' = W) := fun W => cmpI_any p q W
  obtain ⟨r, hr⟩ : ∃ r, cmpI p.data.toList q.data.toList = r := ⟨_, rfl⟩
  rw [hr] at HC ⊢
  clear hr
  go_enter Tryz.func81, Tryz.ntmps81
  go_wp2_with (go_at_call 82; refine (HC.out _).mono ?_; rintro e w1 ⟨rfl, rfl⟩)
  go_ret
  exact ⟨rfl, (Below.refl _ _).alloc (Nat.le_refl _) _⟩

/-- What an item is, as it is read. -/
def ItR (w : World) (a : Option Addr) (ps : List ty.It) : Prop := ∀ (i : Nat) (x : ty.It), ps[i]? = some x → ∃ b o a2 c2 a4 c4, a = some ⟨b, o, none⟩ ∧ w.cell? ⟨b, o + i * 5, none⟩ = some (.string x.fPath) ∧ w.cell? ⟨b, o + i * 5 + 1, none⟩ = some (.string x.fSum) ∧ w.cell? ⟨b, o + i * 5 + 2, none⟩ = some (.slice a2 x.fRefs.length c2) ∧ w.cell? ⟨b, o + i * 5 + 3, none⟩ = some (.string x.fFrom) ∧ w.cell? ⟨b, o + i * 5 + 4, none⟩ = some (.slice a4 x.fTree.length c4)
theorem ItR.of {lo : Nat} {w W : World} {a : Option Addr} {ps : List ty.It} (h : ty.SrcIt (some lo) w a ps) (hb : Below w.heap.size w W) : ItR W a ps := fun i x hx => by
  rcases h.below hb with h | ⟨b, o, e, _, hc⟩
  · cases h.1
  · obtain ⟨a2, c2, a4, c4, q0, q1, q2, q3, q4, _⟩ := hc i x hx
    exact ⟨b, o, a2, c2, a4, c4, e, q0, q1, q2, q3, q4⟩

set_option maxHeartbeats 4000000 in
set_option maxRecDepth 100000 in
theorem bsI_any (lo0 : Nat) (a : Option Addr) (c : Nat) (ps : List ty.It) (q : ByteArray) (J : Nat) (w : World) (hb : ty.SrcIt (some lo0) w a ps) (hn : ps.length ≤ 300) (hasc : ∀ (i j : Nat) (x y : ty.It), j < i → ps[j]? = some y → ps[i]? = some x → y.fPath.data.toList < x.fPath.data.toList) (hJ : ∃ x, ps[J]? = some x ∧ x.fPath.data.toList = q.data.toList) :
    Calls Tryz.prog 80 #[.slice a ps.length c, .string q, .func (.func 81) #[] #[]] w fun e w' => e = .returned (.tuple #[.int .i64 (J : Int), .bool true]) ∧ Below w.heap.size w w' := by
  have HR : Hid (∀ W, Below w.heap.size w W → ItR W a ps) := fun W h => ItR.of hb h
  have HC : Hid (∀ p v1 v3 v2 v4 W, Calls Tryz.prog 81 #[.agg #[.string p, .string v1, v2, .string v3, v4], .string q] W fun e w' => e = .returned (.int .i64 (cmpI p.data.toList q.data.toList)) ∧ Below W.heap.size W w') := fun p v1 v3 v2 v4 W => in1_any p v1 v3 q v2 v4 W
  obtain ⟨xJ, hxJ, hqJ⟩ := hJ
  have HLT : Hid (∀ (j : Nat) (y : ty.It), ps[j]? = some y → (y.fPath.data.toList < q.data.toList ↔ j < J) ∧ (y.fPath.data.toList = q.data.toList → j = J)) := fun j y hy => by
    rcases Nat.lt_trichotomy j J with h | h | h
    · have h1 := hasc J j xJ y h hy hxJ
      rw [hqJ] at h1
      exact ⟨⟨fun _ => h, fun _ => h1⟩, fun e => by rw [e] at h1; exact absurd h1 (List.lt_irrefl _)⟩
    · subst h
      rw [hxJ] at hy
      cases hy
      rw [hqJ]
      exact ⟨⟨fun h => absurd h (List.lt_irrefl _), fun h => by omega⟩, fun _ => rfl⟩
    · have h1 := hasc j J y xJ h hxJ hy
      rw [hqJ] at h1
      exact ⟨⟨fun h2 => absurd (List.lt_trans h1 h2) (List.lt_irrefl _), fun h => by omega⟩, fun e => by rw [e] at h1; exact absurd h1 (List.lt_irrefl _)⟩
  have HQE : Hid (∀ x, ps[J]? = some x → x.fPath.data.toList = q.data.toList) := fun x h => by rw [hxJ] at h; cases h; exact hqJ
  have hJn : J < ps.length := (List.getElem?_eq_some_iff.1 hxJ).1
  obtain ⟨n, hnn⟩ : ∃ n, ps.length = n := ⟨_, rfl⟩
  have HN : Hid (ps.length = n) := hnn
  rw [hnn] at hn hJn ⊢
  clear hb hasc hxJ hqJ hnn
  go_enter Tryz.func80, Tryz.ntmps80
  go_wp2
  go_loopw [9, 10, 11] (fun x y _ wr => ∃ lo hi : Nat, x = .int .i64 (lo : Int) ∧ y = .int .i64 (hi : Int) ∧ lo ≤ J ∧ J ≤ hi ∧ hi ≤ n ∧ Below w.heap.size w wr) (fun x y _ _ => (intOf y - intOf x).toNat)
  case atStart => exact ⟨0, n, rfl, rfl, Nat.zero_le _, by omega, Nat.le_refl _, Below.refl _ _⟩
  case round =>
    obtain ⟨lo, hi, rfl, rfl, h1, h2, hhn, hbel⟩ := hrel
    have HBE : Hid (Below w.heap.size w wr) := hbel
    by_cases hl : lo < hi
    · have hl' : (lo : Int) < (hi : Int) := by omega
      obtain ⟨m, hm⟩ : ∃ m : Nat, (lo + hi) / 2 = m := ⟨_, rfl⟩
      have hm1 : lo ≤ m := by omega
      have hm2 : m < hi := by omega
      have hmi : ((lo : Int) + (hi : Int)) / 2 = (m : Int) := by omega
      have hm0 : (0 : Int) ≤ (m : Int) := by omega
      have hmn : (m : Int) < (n : Int) := by omega
      obtain ⟨x, hx⟩ : ∃ x, ps[m]? = some x := ⟨_, List.getElem?_eq_getElem (by rw [HN.out]; omega)⟩
      obtain ⟨b, o, a2, c2, a4, c4, rfl, c0, c1, d2, d3, d4⟩ := HR.out wr hbel m x hx
      have hlt := (HLT.out m x hx).1
      have HCM : Hid (∀ W, Calls Tryz.prog 81 #[.agg #[.string x.fPath, .string x.fSum, .slice a2 x.fRefs.length c2, .string x.fFrom, .slice a4 x.fTree.length c4], .string q] W fun e w' => e = .returned (.int .i64 (cmpI x.fPath.data.toList q.data.toList)) ∧ Below W.heap.size W w') := fun W => HC.out _ _ _ _ _ W
      obtain ⟨P, hP⟩ : ∃ z, x.fPath = z := ⟨_, rfl⟩
      obtain ⟨z1, hz1⟩ : ∃ z, x.fSum = z := ⟨_, rfl⟩
      obtain ⟨z2, hz2⟩ : ∃ z, x.fRefs.length = z := ⟨_, rfl⟩
      obtain ⟨z3, hz3⟩ : ∃ z, x.fFrom = z := ⟨_, rfl⟩
      obtain ⟨z4, hz4⟩ : ∃ z, x.fTree.length = z := ⟨_, rfl⟩
      rw [hP] at c0 hlt HCM
      rw [hz1] at c1 HCM
      rw [hz2] at d2 HCM
      rw [hz3] at d3 HCM
      rw [hz4] at d4 HCM
      clear hm hx hP hz1 hz2 hz3 hz4 hbel
      by_cases hmJ : m < J
      · rw [cmpI_lt (hlt.2 hmJ)] at HCM
        clear hlt
        go_wp2_with (go_at_call 81; refine (HCM.out _).mono ?_; rintro e w1 ⟨rfl, hl1⟩)
        go_roundw
        case rel => exact ⟨m + 1, hi, by go_num, by first | rfl | trivial, by omega, by omega, hhn, HBE.out.trans (hl1.mono HBE.out.size)⟩
        case measure => simp [intOf] <;> omega
      · have hnl : ¬ P.data.toList < q.data.toList := fun h => hmJ (hlt.1 h)
        have hnn : ¬ cmpI P.data.toList q.data.toList < 0 := by
          rcases lt_triI P.data.toList q.data.toList with h | h | h
          · exact absurd h hnl
          · rw [h, cmpI_eq]; omega
          · rw [cmpI_gt h]; omega
        obtain ⟨r, hr⟩ : ∃ r, cmpI P.data.toList q.data.toList = r := ⟨_, rfl⟩
        rw [hr] at HCM hnn
        clear hlt hr hnl
        go_wp2_with (go_at_call 81; refine (HCM.out _).mono ?_; rintro e w1 ⟨rfl, hl1⟩)
        go_roundw
        case rel => exact ⟨lo, m, by first | rfl | trivial, by first | rfl | trivial | go_num, by omega, by omega, by omega, HBE.out.trans (hl1.mono HBE.out.size)⟩
        case measure => simp [intOf] <;> omega
    · have hl' : ¬ (lo : Int) < (hi : Int) := by omega
      obtain rfl : lo = hi := by omega
      obtain rfl : lo = J := by omega
      have hln' : (lo : Int) < (n : Int) := by omega
      have hl0 : (0 : Int) ≤ (lo : Int) := by omega
      obtain ⟨x, hx⟩ : ∃ x, ps[lo]? = some x := ⟨_, List.getElem?_eq_getElem (by rw [HN.out]; omega)⟩
      obtain ⟨b, o, a2, c2, a4, c4, rfl, c0, c1, d2, d3, d4⟩ := HR.out wr hbel lo x hx
      have hxe : x.fPath.data.toList = q.data.toList := by
        exact HQE.out x hx
      have HCM : Hid (∀ W, Calls Tryz.prog 81 #[.agg #[.string x.fPath, .string x.fSum, .slice a2 x.fRefs.length c2, .string x.fFrom, .slice a4 x.fTree.length c4], .string q] W fun e w' => e = .returned (.int .i64 (cmpI x.fPath.data.toList q.data.toList)) ∧ Below W.heap.size W w') := fun W => HC.out _ _ _ _ _ W
      rw [hxe, cmpI_eq] at HCM
      generalize x.fPath = P at *
      generalize x.fSum = z1 at *
      generalize x.fRefs.length = z2 at *
      generalize x.fFrom = z3 at *
      generalize x.fTree.length = z4 at *
      clear hx hxe hbel
      go_wp2_with (go_at_call 81; refine (HCM.out _).mono ?_; rintro e w1 ⟨rfl, hl1⟩)
      go_ret2
      exact ⟨rfl, HBE.out.trans (hl1.mono HBE.out.size)⟩

set_option maxRecDepth 100000 in
theorem inum_any (lo0 : Nat) (a : Option Addr) (c : Nat) (ps : List ty.It) (q : ByteArray) (J : Nat) (w : World) (hb : ty.SrcIt (some lo0) w a ps) (hn : ps.length ≤ 300) (hasc : ∀ (i j : Nat) (x y : ty.It), j < i → ps[j]? = some y → ps[i]? = some x → y.fPath.data.toList < x.fPath.data.toList) (hJ : ∃ x, ps[J]? = some x ∧ x.fPath.data.toList = q.data.toList) :
    Calls Tryz.prog 57 #[.slice a ps.length c, .string q] w fun e w' => e = .returned (.tuple #[.int .i64 (J : Int), .bool true]) ∧ Below w.heap.size w w' := by
  have HB : Hid (Calls Tryz.prog 80 #[.slice a ps.length c, .string q, .func (.func 81) #[] #[]] w fun e w' => e = .returned (.tuple #[.int .i64 (J : Int), .bool true]) ∧ Below w.heap.size w w') := bsI_any lo0 a c ps q J w hb hn hasc hJ
  clear hb hasc hJ
  go_enter Tryz.func57, Tryz.ntmps57
  go_wp2_with (go_at_call 80; refine HB.out.mono ?_; rintro e w1 ⟨rfl, hl1⟩)
  go_ret2
  exact ⟨rfl, hl1⟩

end Go.Proofs.YtddnhnpfcelicaaGreatDoor.so

namespace Go.Proofs.YtddnhnpfcelicaaGreatDoor.so
open Go.ChangeShapes Go.WideShapes Go.ChangeAt Go.RowKit Go.Deep Go.Shelf Go.Maps
set_option linter.unusedVariables false
set_option linter.unusedSimpArgs false

/-! ### Closures: impl.reached over any items that can be read -/

/-- Texts that can be read; nil when there are none, perhaps. -/
def RdT (w : World) (a : Option Addr) (c : Nat) (l : List ByteArray) : Prop := (a = none ∧ c = 0 ∧ l = []) ∨ ∃ b o, a = some ⟨b, o, none⟩ ∧ ∀ (i : Nat) (x : ByteArray), l[i]? = some x → w.cell? ⟨b, o + i, none⟩ = some (.string x)
def RdI (w : World) (a : Option Addr) (ps : List ty.It) : Prop := ∃ b o, a = some ⟨b, o, none⟩ ∧ ∀ (i : Nat) (x : ty.It), ps[i]? = some x → ∃ a2 c2 a4 c4, w.cell? ⟨b, o + i * 5, none⟩ = some (.string x.fPath) ∧ w.cell? ⟨b, o + i * 5 + 1, none⟩ = some (.string x.fSum) ∧ w.cell? ⟨b, o + i * 5 + 2, none⟩ = some (.slice a2 x.fRefs.length c2) ∧ w.cell? ⟨b, o + i * 5 + 3, none⟩ = some (.string x.fFrom) ∧ w.cell? ⟨b, o + i * 5 + 4, none⟩ = some (.slice a4 x.fTree.length c4) ∧ RdT w a2 c2 x.fRefs

/-- append of nothing. -/
theorem app_nil (w : World) {ops : Array Oper} {rest : List Oper} {o : Oper} {a : Act} {Q : Exit → Act → World → Prop} (hgd : o.guard = none) (s x : Operand)
    (ho : o.op = .call { callee := .builtin .append, args := #[s, x], argTypes := #[24, 24] })
    (ad : Addr) (n c : Nat) (hs : a.eval s = .slice (some ad) n c) (hn : n ≤ c) (hx : a.eval x = .slice none 0 0)
    (h : wpList Tryz.prog ops Q rest (a.put o.dst (.slice (some ad) n c)) w) : wpList Tryz.prog ops Q (o :: rest) a w := by
  refine wpList_plain hgd fun K hK => ?_
  obtain ⟨i0, hi, hz0, hz1, hz2⟩ := sr.info_parts sr.info9
  have hr : (Builtin.append_ #[24, 24] o.type #[.slice (some ad) n c, .slice none 0 0]).run Tryz.prog w = .ok (.slice (some ad) n c) w := by
    simp [Builtin.append_, go_sem, Tryz.underlying24, hi, hz1, hn]
  unfold Oper.wp execOp
  simp only [ho, resolve, invoke, builtin, Sem.run_bind, Sem.run_pure, Result.andThen_ok, List.map_toArray, List.map_cons, List.map_nil, hs, hx, hr]
  exact hK _ _ h

/-- An item as it is read: its Refs can be read. -/
def ItW (lo : Nat) (w : World) (x : ty.It) (V : Value) : Prop := ∃ a2 c2 a4 c4, V = .agg #[.string x.fPath, .string x.fSum, .slice a2 x.fRefs.length c2, .string x.fFrom, .slice a4 x.fTree.length c4] ∧ RdT w a2 c2 x.fRefs
/-- The items that are left. -/
def Lfu (lo : Nat) (w0 : World) (ps : List ty.It) (k : Nat) (F : List (List UInt8)) (w : World) (b : Nat) : Prop :=
  ∃ D N, N ≤ k ∧ OwI w b N D ∧ (∀ p, Maps.has D (.string p) = true ↔ (p ∈ pths (ps.take k) ∧ p ∉ F)) ∧ ∀ (j : Nat) (x : ty.It), j < k → ps[j]? = some x → x.fPath.data.toList ∉ F → ∃ V, ItW lo w0 x V ∧ D.atKey (.string x.fPath.data.toList) (.held itZ) = .held V

theorem Lfu.kept {lo : Nat} {w0 : World} {ps : List ty.It} {k : Nat} {F : List (List UInt8)} {w w' : World} {b : Nat} {row : Option Nat} (h : Lfu lo w0 ps k F w b) (hg : w.grownBy w' row) (hr : some b ≠ row) : Lfu lo w0 ps k F w' b := by
  obtain ⟨D, N, h1, h2, h3, h4⟩ := h
  exact ⟨D, N, h1, h2.kept hg hr, h3, h4⟩
theorem Lfu.below {lo : Nat} {w0 : World} {ps : List ty.It} {k : Nat} {F : List (List UInt8)} {w w' : World} {b : Nat} (h : Lfu lo w0 ps k F w b) (hb : Below w.heap.size w w') : Lfu lo w0 ps k F w' b := h.kept (row := none) ⟨hb.os, hb.tape, hb.output, hb.size, fun j hj _ => hb.block j hj⟩ (by simp)
theorem Lfu.lt {lo : Nat} {w0 : World} {ps : List ty.It} {k : Nat} {F : List (List UInt8)} {w : World} {b : Nat} (h : Lfu lo w0 ps k F w b) : b < w.heap.size := by obtain ⟨D, N, _, h2, _⟩ := h; exact h2.lt

set_option maxRecDepth 100000 in
set_option maxHeartbeats 8000000 in
theorem reach2_any (lo : Nat) (a : Option Addr) (c : Nat) (ps : List ty.It) (va : Option Addr) (xc : Nat) (xs : List (List UInt8)) (w : World) (hb : RdI w a ps) (hn : ps.length ≤ 300) (hx : ∀ x ∈ ps, x.fRefs.length ≤ 300 ∧ x.fPath.size ≤ 1048576 ∧ ∀ y ∈ x.fRefs, y.size ≤ 1048576) (hnd : (pths ps).Nodup) (hX : sr.StrR w (.slice va xs.length xc) xs) (hxl : xs.length ≤ 2000) (hxs : ∀ x ∈ xs, x.length ≤ 1048576) :
    Calls Tryz.prog 33 #[.slice a ps.length c, .slice va xs.length xc] w fun e w' => (∃ v, e = .returned v ∧ sr.OwnS w.heap.size w' v ((fin (gI ps) xs).foldl sr.fadd [])) ∧ Below w.heap.size w w' := by
  have HSR : Hid (RdI w a ps) := hb
  have HRL : Hid (∀ x ∈ ps, x.fRefs.length ≤ 300 ∧ x.fPath.size ≤ 1048576 ∧ ∀ y ∈ x.fRefs, y.size ≤ 1048576) := hx
  have HXS : Hid (∀ x ∈ xs, x.length ≤ 1048576) := hxs
  have HND : Hid ((pths ps).Nodup) := hnd
  have HUN : Hid (∀ (i j : Nat) (x y : ty.It), ps[i]? = some x → ps[j]? = some y → x.fPath.data.toList = y.fPath.data.toList → i = j) := fun i j x y h1 h2 e => by
    have e1 := pth_some h1
    have e2 := pth_some h2
    have hi := (List.getElem?_eq_some_iff.1 e1).1
    exact (List.getElem?_inj hi hnd).1 (by rw [e1, e2, e])
  have HCN : Hid (∀ W, Below w.heap.size w W → Calls Tryz.prog 53 #[.slice va xs.length xc] W fun e w' => ∃ v', e = .returned v' ∧ sr.OwnS W.heap.size w' v' xs ∧ Below W.heap.size W w') := fun W h => sr.clone_any xs _ W (hX.below h) (by omega)
  obtain ⟨nx, hnx⟩ : ∃ n, xs.length = n := ⟨_, rfl⟩
  have HNX : Hid (xs.length = nx) := hnx
  obtain ⟨n, hnn⟩ : ∃ n, ps.length = n := ⟨_, rfl⟩
  have HN : Hid (ps.length = n) := hnn
  rw [hnn] at hn ⊢
  rw [hnx] at hxl HCN ⊢
  have hmm : ∀ W : World, (Instr.makeMap 74 (some (.int .i64 (n : Int)))).run Tryz.prog W = .ok (.map (some W.heap.size)) (W.alloc (.map #[] 0)) := fun W => mk_left n W
  have HL0 : Hid (Lfu lo w ps 0 [] (w.alloc (.map #[] 0)) w.heap.size) := ⟨.map [], 0, Nat.le_refl _, World.ownsMap_made w Tryz.prog 9 _, fun p => by simp [Maps.has, pths], fun j x h => by omega⟩
  clear hb hx hnx hnn hnd hX hxs
  go_enter Tryz.func33, Tryz.ntmps33
  go_wp2
  clear hmm
  go_loopw [18] (fun y wr => ∃ i : Nat, i ≤ n ∧ y = .int .i64 (i : Int) ∧ Lfu lo w ps i [] wr w.heap.size ∧ Below w.heap.size w wr) (fun y _ => n - (intOf y).toNat)
  case atStart => exact ⟨0, Nat.zero_le _, rfl, HL0.out, (Below.refl _ _).alloc (Nat.le_refl _) _⟩
  case round =>
    obtain ⟨i, hi, rfl, hlf, hbel⟩ := hrel
    have HLF : Hid (Lfu lo w ps i [] wr w.heap.size) := hlf
    have HBE : Hid (Below w.heap.size w wr) := hbel
    clear hlf
    by_cases hil : i < n
    · have hil' : (i : Int) < (n : Int) := by omega
      have hi0 : (0 : Int) ≤ (i : Int) := by omega
      obtain ⟨x, hx⟩ : ∃ x, ps[i]? = some x := ⟨_, List.getElem?_eq_getElem (by rw [HN.out]; exact hil)⟩
      obtain ⟨b, o, rfl, hc⟩ := HSR.out
      obtain ⟨a2, c2, a4, c4, q0, q1, q2, q3, q4, s2⟩ := hc i x hx
      have HIV : Hid (ItW lo w x (.agg #[.string x.fPath, .string x.fSum, .slice a2 x.fRefs.length c2, .string x.fFrom, .slice a4 x.fTree.length c4])) := ⟨a2, c2, a4, c4, rfl, s2⟩
      have K : ∀ {p v}, w.cell? ⟨b, p, none⟩ = some v → wr.cell? ⟨b, p, none⟩ = some v := fun {p v} k => (hbel.cell (p := ⟨b, p, none⟩) (World.block_lt_of_cell? _ _ k)).trans k
      have r0 := K q0
      have r1 := K q1
      have r2 := K q2
      have r3 := K q3
      have r4 := K q4
      have hpz : x.fPath.size ≤ 1048576 := (HRL.out x (List.mem_of_getElem? hx)).2.1
      have hkey := keyT x.fPath hpz
      have HPX : Hid (pths (ps.take (i + 1)) = pths (ps.take i) ++ [x.fPath.data.toList]) := pths_take hx
      obtain ⟨P, hP⟩ : ∃ z, x.fPath = z := ⟨_, rfl⟩
      obtain ⟨z1, hz1⟩ : ∃ z, x.fSum = z := ⟨_, rfl⟩
      obtain ⟨z2, hz2⟩ : ∃ z, x.fRefs.length = z := ⟨_, rfl⟩
      obtain ⟨z3, hz3⟩ : ∃ z, x.fFrom = z := ⟨_, rfl⟩
      obtain ⟨z4, hz4⟩ : ∃ z, x.fTree.length = z := ⟨_, rfl⟩
      have HPP : Hid (x.fPath = P) := hP
      have HXX : Hid (ps[i]? = some x) := hx
      rw [hP] at r0 HIV hkey HPX
      rw [hz1] at r1 HIV
      rw [hz2] at r2 HIV
      rw [hz3] at r3 HIV
      rw [hz4] at r4 HIV
      obtain ⟨D, M, d1, d2, d3, d4⟩ := HLF.out.below ((Below.refl _ _).alloc (Nat.le_refl _) (.cells #[.string P, .string z1, .slice a2 z2 c2, .string z3, .slice a4 z4 c4] 45))
      have HD : Hid ((∀ p, Maps.has (D.put (.string P.data.toList) (.held (.agg #[.string P, .string z1, .slice a2 z2 c2, .string z3, .slice a4 z4 c4]))) (.string p) = true ↔ (p ∈ pths (ps.take (i + 1)) ∧ p ∉ ([] : List (List UInt8)))) ∧ ∀ (j : Nat) (y : ty.It), j < i + 1 → ps[j]? = some y → y.fPath.data.toList ∉ ([] : List (List UInt8)) → ∃ V, ItW lo w y V ∧ (D.put (.string P.data.toList) (.held (.agg #[.string P, .string z1, .slice a2 z2 c2, .string z3, .slice a4 z4 c4]))).atKey (.string y.fPath.data.toList) (.held itZ) = .held V) := by
        have hk : WideAt.IsKeyLit (.string P.data.toList) := trivial
        refine ⟨fun p => ?_, fun j y hj hy _ => ?_⟩
        · rw [HPX.out, List.mem_append, List.mem_singleton]
          by_cases e : p = P.data.toList
          · subst e
            rw [has_put_same d2.isMap hk]
            simp
          · rw [has_put_other (by simpa using e), d3 p]
            simp [e]
        · rcases Nat.lt_or_ge j i with h | h
          · obtain ⟨V, v1, v2⟩ := d4 j y h hy (by simp)
            refine ⟨V, v1, ?_⟩
            rw [atKey_put_other (fun e => ?_)]
            · exact v2
            · have e : y.fPath.data.toList = P.data.toList := by simpa using e
              rw [← HPP.out] at e
              have := HUN.out j i y x hy HXX.out e
              omega
          · obtain rfl : j = i := by omega
            rw [HXX.out] at hy
            cases hy
            refine ⟨_, HIV.out, ?_⟩
            rw [HPP.out, atKey_put_same d2.isMap hk]
      have hMn : M < maxLen := by unfold maxLen; omega
      have HW4 : Hid (∀ ob, Below w.heap.size w (wr.alloc ob)) := fun ob => HBE.out.alloc HBE.out.size _
      clear hbel hc s2 q0 q1 q2 q3 q4 K hx hP hz1 hz2 hz3 hz4 hpz d3 d4
      go_wp2_with (first
        | (at_mapUpdate; refine wpList_mapUpdate_own _ rfl _ _ _ 74 rfl 9 45 keyedT Tryz.underlying74 _ w.heap.size M D rfl d2 hMn _ _ _ rfl rfl hkey _ [] rfl ?_; intro wu hownu hgu; refine Hid.out ?_)
        | go_in)
      refine Lib.hid ?_
      have HL5 : Hid (Lfu lo w ps (i + 1) [] wu w.heap.size) := ⟨_, M + 1, by omega, hownu, HD.out.1, HD.out.2⟩
      have HW5 : Hid (Below w.heap.size w wu) := (HW4.out _).grown hgu (HW4.out _).size (fun k hk => by have := Option.some.inj hk; omega)
      clear hownu hgu d2 HD HLF
      go_wp2
      go_roundw
      case rel => exact ⟨i + 1, by omega, by go_num, HL5.out, HW5.out⟩
      case measure => simp [intOf]; omega
    · have hil' : ¬ (i : Int) < (n : Int) := by omega
      obtain rfl : i = n := by omega
      have HLN : Hid (Lfu lo w ps i [] (wr.alloc (.cells #[] 9)) w.heap.size) := HLF.out.below ((Below.refl _ _).alloc (Nat.le_refl _) _)
      have hbl : w.heap.size < wr.heap.size := HLF.out.lt
      have HF0 : Hid (sr.OwnS wr.heap.size (wr.alloc (.cells #[] 9)) (.slice (some ⟨wr.heap.size, 0, none⟩) 0 0) []) := rf.nil_row wr
      have HB0 : Hid (Below w.heap.size w (wr.alloc (.cells #[] 9))) := HBE.out.alloc HBE.out.size _
      clear hbel HLF
      go_wp2_with (go_at_call 53; refine (HCN.out _ HB0.out).mono ?_; rintro e w1 ⟨v1, rfl, hv1, hl1⟩; refine Hid.out ?_)
      refine Lib.hid ?_
      rw [World.size_alloc] at hv1
      have HW1 : Hid (sr.OwnS (wr.heap.size + 1) w1 v1 xs) := hv1
      have HF1 : Hid (sr.OwnS wr.heap.size w1 (.slice (some ⟨wr.heap.size, 0, none⟩) 0 0) []) := sv.OwnS.bel HF0.out hl1
      have HL1 : Hid (Lfu lo w ps i [] w1 w.heap.size) := HLN.out.below hl1
      have HB1 : Hid (Below w.heap.size w w1) := HB0.out.trans (hl1.mono HB0.out.size)
      have HD1 : Hid (∀ k, v1.ownBlock = some k → (Value.slice (some ⟨wr.heap.size, 0, none⟩) 0 0).ownBlock ≠ some k) := fun k hk e => by
        have h1 := (HW1.out.1.lt k hk).1
        have : wr.heap.size = k := Option.some.inj e
        omega
      obtain ⟨B, hB⟩ : ∃ B, wr.heap.size = B := ⟨_, rfl⟩
      have HBB : Hid (wr.heap.size = B) := hB
      rw [hB] at HW1 HF1 HD1 hbl
      clear hv1 hl1 HLN HF0 HB0 HCN
      have HSO : Hid (∀ (W : World) (v : Value) (F : List (List UInt8)), sr.StrR W v F → F.length ≤ 300 → F.Nodup → Calls Tryz.prog 55 #[v, .func (.func 56) #[] #[]] W fun e w' => ∃ v', e = .returned v' ∧ sr.OwnS W.heap.size w' v' (F.foldl sr.fadd []) ∧ Below W.heap.size W w') := fun W v F h1 h2 h3 => by
        have h := sr.sorted_all 12 F v W h1 (by simp; omega) (by omega)
        rwa [srt_fold F h2 h3] at h
      have HCL : Hid (∀ (W : World) (v : Value) (L : List (List UInt8)), sr.StrR W v L → L.length ≤ 300 → (∀ x ∈ L, x.length ≤ 1048576) → Calls Tryz.prog 54 #[v] W fun e w' => e = .returned (.slice (some ⟨W.heap.size, 0, none⟩) L.length L.length) ∧ sr.OwnS W.heap.size w' (.slice (some ⟨W.heap.size, 0, none⟩) L.length L.length) L ∧ Below W.heap.size W w') := fun W v L h1 h2 h3 => sr.clonedR_any L h3 v W (sr.RdS.row h1) (by omega)
      have HPS : Hid (∀ p, gI ps p ≠ none → p.length ≤ 1048576) := fun p h => by
        obtain ⟨x, hx, rfl⟩ := List.mem_map.1 (gI_mem h)
        have h1 := (HRL.out x hx).2.1
        have e : x.fPath.data.toList.length = x.fPath.size := Array.length_toList
        omega
      have hwB : w.heap.size ≤ B := by omega
      clear hB
      go_wp2
      go_loopw [8, 9, 10, 12] (fun v y _ _ wr => ∃ F s, Clo ps xs F s ∧ (∀ p ∈ s, p.length ≤ 1048576) ∧ sr.OwnS B wr v F ∧ sr.OwnS B wr y s ∧ (∀ k, y.ownBlock = some k → v.ownBlock ≠ some k) ∧ Lfu lo w ps i F wr w.heap.size ∧ Below w.heap.size w wr) (fun v y _ _ _ => (301 - slen v) * 1001 + slen y)
      case atStart => exact ⟨[], xs, Clo.zero ps xs, HXS.out, by rw [HBB.out]; exact HF1.out, HW1.out.mono (by omega), by rw [HBB.out]; exact HD1.out, HL1.out, HB1.out⟩
      case round =>
        obtain ⟨F, s, hcl, hsm, hof, hos, hdi, hlf, hbel⟩ := hrel
        have HCO : Hid (Clo ps xs F s) := hcl
        have HSM : Hid (∀ p ∈ s, p.length ≤ 1048576) := hsm
        have HOF : Hid (sr.OwnS B wr u8 F) := hof
        have HOS : Hid (sr.OwnS B wr u9 s) := hos
        have HDI : Hid (∀ k, u9.ownBlock = some k → u8.ownBlock ≠ some k) := hdi
        have HLF : Hid (Lfu lo w ps i F wr w.heap.size) := hlf
        have HBE : Hid (Below w.heap.size w wr) := hbel
        have hFl : F.length ≤ 300 := by have h1 := hcl.len; have h2 := HN.out; omega
        have HS5 : Hid (slen u8 = F.length ∧ F.length ≤ 300) := ⟨own_len hof, hFl⟩
        have hsb : s.length ≤ 100000 := by have h1 := hcl.2.2.2; have h2 := HNX.out; omega
        clear hdi hsm hlf hFl
        rcases List.eq_nil_or_concat s with rfl | ⟨s', p, rfl⟩
        · obtain ⟨g6, c6, hve6, _, _⟩ := lw.GB.own hos
          subst hve6
          have HE : Hid (fin (gI ps) xs = F) := HCO.out.done
          have HND2 : Hid (F.Nodup) := HCO.out.2.1
          have HFM : Hid (∀ x ∈ F.foldl sr.fadd [], x.length ≤ 1048576) := fun x hx => by
            rw [sr.fold_mem] at hx
            exact HPS.out x (HCO.out.2.2.1 x (by simpa using hx))
          have HFN : Hid ((F.foldl sr.fadd []).length ≤ 300) := by show _ ≤ _; rw [fold_nd HND2.out]; exact HS5.out.2
          have HS2 := Lib.hid (HSO.out wr u8 F HOF.out.row HS5.out.2 HND2.out)
          obtain ⟨L, hL⟩ : ∃ L, F.foldl sr.fadd [] = L := ⟨_, rfl⟩
          rw [hL] at HFM HFN HS2
          have HLE : Hid (F.foldl sr.fadd [] = L) := hL
          clear hcl hos hbel hof hL HSO
          go_wp2_with (go_at_call 55; refine HS2.out.mono ?_; rintro e w5 ⟨v5, rfl, hv5, hl5⟩; refine Hid.out ?_)
          refine Lib.hid ?_
          have HV5 : Hid (sr.StrR w5 v5 L) := hv5.row
          have HB5 : Hid (Below w.heap.size w w5) := HBE.out.trans (hl5.mono HBE.out.size)
          clear hv5 hl5 HS2
          go_wp2_with (go_at_call 54; refine (HCL.out _ _ L HV5.out HFN.out HFM.out).mono ?_; rintro e w6 ⟨rfl, ho6, hl6⟩)
          go_ret
          exact ⟨⟨_, rfl, by rw [HE.out, HLE.out]; exact ho6.mono HB5.out.size⟩, HB5.out.trans (hl6.mono HB5.out.size)⟩
        · rw [List.concat_eq_append] at *
          obtain ⟨g6, c6, hve6, hc1, hc2, hcp, hpop⟩ := own_pop hos
          subst hve6
          obtain ⟨N, hNN⟩ : ∃ N, s'.length = N := ⟨_, rfl⟩
          have HSN : Hid (s'.length = N) := hNN
          rw [hNN] at hc1 hcp hpop
          rw [hNN]
          have hNb : N ≤ 100000 := by rw [List.length_append] at hsb; simp at hsb; omega
          have HPO : Hid (sr.OwnS B wr (.slice (some ⟨g6, 0, none⟩) N c6) s') := hpop
          have hst : sr.strL p = .string ⟨p.toArray⟩ := rfl
          rw [hst] at hcp
          obtain ⟨t, ht⟩ : ∃ t : ByteArray, (⟨p.toArray⟩ : ByteArray) = t := ⟨_, rfl⟩
          rw [ht] at hcp
          have HTP : Hid (t.data.toList = p) := by show _ = _; rw [← ht]
          have HTS : Hid (sr.strL p = .string t) := by show _ = _; rw [hst, ht]
          have hts : t.size ≤ 1048576 := by
            have h1 := HSM.out p (by simp)
            rw [← HTP.out] at h1
            have e : t.data.toList.length = t.size := Array.length_toList
            omega
          have HSM2 : Hid (∀ q ∈ s', q.length ≤ 1048576) := fun q hq => HSM.out q (by simp [hq])
          have hN1 : (0 : Int) < (N : Int) + 1 := by omega
          have hN2 : (N : Int) + 1 - 1 = (N : Int) := by omega
          have hN3 : IntKind.i64.wrap (N : Int) = (N : Int) := by rw [IntKind.wrap_i64]; omega
          have hN4 : (0 : Int) ≤ (N : Int) := by omega
          have hN5 : (N : Int) < (N : Int) + 1 := by omega
          have hN6 : (N : Int) ≤ (c6 : Int) := by omega
          have HMS : Hid (slen (Value.slice (some ⟨g6, 0, none⟩) (N + 1) c6) = N + 1) := rfl
          have HDP : Hid (∀ k, (Value.slice (some ⟨g6, 0, none⟩) N c6).ownBlock = some k → u8.ownBlock ≠ some k) := fun k hk => HDI.out k hk
          have hg6 : B ≤ g6 ∧ g6 < wr.heap.size := by obtain ⟨_, _, e, h, hgb⟩ := lw.GB.own HPO.out; cases e; exact ⟨h, hgb.lt⟩
          obtain ⟨D, M, d1, d2, d3, d4⟩ := HLF.out
          have hd3 := d3 p
          rw [← HTP.out] at hd3
          by_cases hleft : p ∈ pths (ps.take i) ∧ p ∉ F
          · obtain ⟨hpm, hpF⟩ := hleft
            obtain ⟨j, x, hxj, hxp⟩ : ∃ (j : Nat) (x : ty.It), ps[j]? = some x ∧ x.fPath.data.toList = p := by
              rw [List.take_of_length_le (by rw [HN.out]; exact Nat.le_refl _)] at hpm
              obtain ⟨x, hx, e⟩ := List.mem_map.1 hpm
              obtain ⟨j, hj⟩ := List.getElem?_of_mem hx
              exact ⟨j, x, hj, e⟩
            have hji : j < i := by have h1 := (List.getElem?_eq_some_iff.1 hxj).1; have h2 := HN.out; omega
            obtain ⟨V, ⟨a2, c2, a4, c4, rfl, s2⟩, hV⟩ := d4 j x hji hxj (by rw [hxp]; exact hpF)
            rw [hxp, ← HTP.out] at hV
            have hhas : Maps.has D (.string t.data.toList) = true := hd3.2 ⟨by rw [HTP.out]; exact hpm, by rw [HTP.out]; exact hpF⟩
            have hg : gI ps p = some (refL x) := gI_first hxj hxp (fun k y hk hy e => by have := HUN.out k j y x hy hxj (e.trans hxp.symm); omega)
            have hrx := HRL.out x (List.mem_of_getElem? hxj)
            have hrl : (refL x).length ≤ 300 := by unfold refL; rw [List.length_map]; exact hrx.1
            have HC2 : Hid (Clo ps xs (F ++ [p]) (s' ++ refL x)) := HCO.out.more hg hpF hrl
            have hxt : x.fPath = t := by
              apply ByteArray.ext
              apply Array.ext'
              rw [HTP.out]
              exact hxp
            rw [hxt] at hV
            rcases s2 with ⟨rfl, rfl, hr0⟩ | ⟨rb, ro, rfl, hrc⟩
            · have HRS : Hid (∀ y ∈ refL x, y.length ≤ 1048576) := fun y hy => by
                unfold refL at hy
                obtain ⟨z, hz, rfl⟩ := List.mem_map.1 hy
                have h1 := hrx.2.2 z hz
                have e : z.data.toList.length = z.size := Array.length_toList
                omega
              have HRN : Hid ((refL x).length = x.fRefs.length) := by show _ = _; unfold refL; rw [List.length_map]
              have HLM : Hid (∀ (W : World) (N' : Nat), N' ≤ i → OwI W w.heap.size N' (D.del (.string t.data.toList)) → Lfu lo w ps i (F ++ [p]) W w.heap.size) := fun W N' hN' hW => by
                refine ⟨_, N', hN', hW, fun q => ?_, fun j' y hj' hy hyF => ?_⟩
                · rw [List.mem_append, List.mem_singleton]
                  by_cases e : q = t.data.toList
                  · subst e
                    rw [has_del_same]
                    rw [HTP.out]
                    simp
                  · rw [has_del_other (by simpa using e), d3 q]
                    rw [HTP.out] at e
                    simp [e]
                · rw [List.mem_append, List.mem_singleton] at hyF
                  have h1 : y.fPath.data.toList ∉ F := fun h => hyF (.inl h)
                  have h2 : y.fPath.data.toList ≠ t.data.toList := fun h => hyF (.inr (by rw [← HTP.out]; exact h))
                  obtain ⟨V', v1, v2⟩ := d4 j' y hj' hy h1
                  exact ⟨V', v1, by rw [atKey_del_other (by simpa using h2)]; exact v2⟩
              generalize x.fSum = z1 at *
              generalize x.fFrom = z3 at *
              have hm2 : x.fRefs.length = 0 := by rw [hr0]; rfl
              obtain ⟨m2, hm20⟩ : ∃ m : Nat, m = 0 := ⟨0, rfl⟩
              obtain ⟨m4, hm4⟩ : ∃ m, x.fTree.length = m := ⟨_, rfl⟩
              rw [hm2] at HRN hV
              rw [hm4] at hV
              have hN7 : N ≤ c6 := by omega
              obtain ⟨rl, hrlx⟩ : ∃ rl, refL x = rl := ⟨_, rfl⟩
              rw [hrlx] at HC2 HRN hrl HRS
              have hkey := keyT t hts
              have HOD : Hid (∀ ob, OwI (wr.alloc ob) w.heap.size M D) := fun ob => d2.alloc _
              have HB4 : Hid (∀ ob, Below w.heap.size w (wr.alloc ob)) := fun ob => HBE.out.alloc HBE.out.size _
              have HF4 : Hid (∀ ob, sr.OwnS B (wr.alloc ob) u8 F) := fun ob => ⟨HOF.out.1.alloc _, HOF.out.2⟩
              have HP4 : Hid (∀ ob, sr.OwnS B (wr.alloc ob) (.slice (some ⟨g6, 0, none⟩) N c6) s') := fun ob => ⟨HPO.out.1.alloc _, HPO.out.2⟩
              clear hst ht hsb hos hpop hNN hcl hbel hc1 hc2 hof d3 d4 hd3 hpm hpF hxj hxp hji hg hrx hrl hm2 hm20 hr0 hm4 hrlx hxt HLF HOS HSO HCL
              go_wp2_with (first
                | (at_lookup; refine look_item _ rfl _ _ rfl w.heap.size M D rfl d2 t rfl hts _ hV true hhas ?_)
                | (at_delete; refine wpList_delete_own _ rfl _ _ 74 9 rfl 45 keyedT Tryz.underlying74 _ w.heap.size M D rfl (HOD.out _) _ _ rfl hkey ?_; intro w5 hown5 hturn5; refine Hid.out ?_)
                | go_in)
              refine Lib.hid ?_
              have hgr5 := hturn5.grown
              have HB5 : Hid (Below w.heap.size w w5) := (HB4.out _).grown hgr5 (HB4.out _).size (fun k hk => by have := Option.some.inj hk; omega)
              have HF5 : Hid (∀ ob, sr.OwnS B (w5.alloc ob) u8 F) := fun ob => ⟨((HF4.out _).1.kept hgr5 (.inr fun e => by have := (HOF.out.1.lt _ e).1; omega)).alloc _, HOF.out.2⟩
              have HP5 : Hid (sr.OwnS B w5 (.slice (some ⟨g6, 0, none⟩) N c6) s') := ⟨(HP4.out _).1.kept hgr5 (.inr fun e => by have : g6 = w.heap.size := Option.some.inj e; omega), HPO.out.2⟩
              have HL5 : Hid (Lfu lo w ps i (F ++ [p]) w5 w.heap.size) := HLM.out w5 M d1 hown5
              have hs5 : wr.heap.size + 1 ≤ w5.heap.size := by have := hgr5.size; simpa using this
              have hblk : w5.heap[wr.heap.size]? = some (.cells #[.string t, .string z1, .slice none 0 0, .string z3, .slice a4 m4 c4] 45) := by
                rw [hgr5.block wr.heap.size (by simp) (by intro e; have := Option.some.inj e; omega)]
                exact blk_new _ _
              have q0 : w5.cell? ⟨wr.heap.size, 0, none⟩ = some (.string t) := by simp [World.cell?, hblk]
              have HQ2 : Hid (∀ (ob : Obj) (W : World), (w5.alloc ob).grownBy W u8.ownBlock → W.cell? ⟨wr.heap.size, 2, none⟩ = some (.slice none 0 0)) := fun ob W h => by
                have hb' : W.heap[wr.heap.size]? = some (.cells #[.string t, .string z1, .slice none 0 0, .string z3, .slice a4 m4 c4] 45) := by
                  rw [h.block wr.heap.size (by simp; omega) (fun e => by have := (HOF.out.1.lt _ e.symm).2; omega)]
                  rw [← hblk]
                  exact ((Below.refl _ w5).alloc (Nat.le_refl _) ob).block _ (by omega)
                simp [World.cell?, hb']
              have hB5 : B ≤ w5.heap.size := by omega
              have HFN : Hid (F.length ≤ 300) := HS5.out.2
              clear hown5 hturn5 hgr5 hblk HF4 HP4 HB4 HOD HLM d2 hV hhas
              go_wp2_with (first
                | (at_builtin; refine app_str_at _ rfl _ _ rfl B u8 F rfl (HF5.out _).1 HOF.out.2 ⟨w5.heap.size, 0, none⟩ 1 1 [p] rfl rfl (sv.one_str _ HTS.out) (by have := HFN.out; omega) (by simp; omega) ?_; intro v6 w6 hown6 hv6 hg6' hat6; refine Hid.out ?_)
                | go_in)
              refine Lib.hid ?_
              have q2 := HQ2.out _ _ hg6'
              have HF6 : Hid (sr.OwnS B w6 v6 (F ++ [p])) := ⟨hown6, hv6⟩
              have HB6 : Hid (Below w.heap.size w w6) := (HB5.out.alloc HB5.out.size _).grown hg6' (HB5.out.alloc HB5.out.size _).size (fun k hk => by have := (HOF.out.1.lt k hk).1; omega)
              have HP6 : Hid (w6.ownsRow B 9 1 (.slice (some ⟨g6, 0, none⟩) N c6) s'.length (s'.map sr.strL)) := (HP5.out.1.alloc _).kept hg6' (.inr fun e => HDP.out g6 rfl e.symm)
              have HL6 : Hid (Lfu lo w ps i (F ++ [p]) w6 w.heap.size) := (HL5.out.below ((Below.refl _ _).alloc (Nat.le_refl _) _)).kept hg6' (fun e => by have := (HOF.out.1.lt _ e.symm).1; omega)
              have hs6 : w5.heap.size + 1 ≤ w6.heap.size := by have := hg6'.size; simpa using this
              have HV6 : Hid (v6.ownBlock ≠ some g6) := fun e => by
                rcases hat6 with h | h
                · rw [h] at e; exact HDP.out g6 rfl e
                · rw [h] at e
                  have : w5.heap.size + 1 = g6 := by simpa using e
                  omega
              have HRE : Hid (rl = []) := List.eq_nil_of_length_eq_zero HRN.out
              clear hown6 hv6 hg6' hat6 HQ2 HF5 HP5 HL5 HB5 q0
              go_wp2_with (first
                | (at_builtin; refine app_nil _ rfl _ _ rfl ⟨g6, 0, none⟩ N c6 rfl hN7 rfl ?_; refine Hid.out ?_)
                | go_in)
              refine Lib.hid ?_
              have HN7 : Hid (sr.OwnS B w6 (.slice (some ⟨g6, 0, none⟩) N c6) (s' ++ rl)) := by show sr.OwnS _ _ _ _; rw [HRE.out, List.append_nil]; exact ⟨HP6.out, sr.not_nil _ _ _⟩
              have HM7 : Hid (slen v6 = F.length + 1) := by
                show _ = _
                rw [own_len HF6.out]; simp
              have HD7 : Hid (∀ k, (Value.slice (some ⟨g6, 0, none⟩) N c6).ownBlock = some k → v6.ownBlock ≠ some k) := fun k hk e => HV6.out (by have : g6 = k := Option.some.inj hk; rw [this]; exact e)
              have HS7 : Hid (∀ q ∈ s' ++ rl, q.length ≤ 1048576) := fun q hq => by
                rcases List.mem_append.1 hq with h | h
                · exact HSM2.out q h
                · exact HRS.out q h
              clear HP6
              go_wp2
              go_roundw
              case rel => exact ⟨F ++ [p], s' ++ rl, HC2.out, HS7.out, HF6.out, HN7.out, HD7.out, HL6.out, HB6.out⟩
              case measure =>
                have h1 := HS5.out
                have h2 := HM7.out
                rw [h1.1, h2]
                simp only [slen]
                omega

            · have HRC : Hid (∀ W, Below w.heap.size w W → ∀ (j : Nat) (y : List UInt8), (refL x)[j]? = some y → W.cell? ⟨rb, ro + j, none⟩ = some (sr.strL y)) := fun W h j y hy => by
                unfold refL at hy
                rw [List.getElem?_map] at hy
                obtain ⟨z, hz, rfl⟩ := Option.map_eq_some_iff.1 hy
                have k := hrc j z hz
                rw [str_of]
                exact (h.cell (p := ⟨rb, ro + j, none⟩) (World.block_lt_of_cell? _ _ k)).trans k
              have HRS : Hid (∀ y ∈ refL x, y.length ≤ 1048576) := fun y hy => by
                unfold refL at hy
                obtain ⟨z, hz, rfl⟩ := List.mem_map.1 hy
                have h1 := hrx.2.2 z hz
                have e : z.data.toList.length = z.size := Array.length_toList
                omega
              have HRN : Hid ((refL x).length = x.fRefs.length) := by show _ = _; unfold refL; rw [List.length_map]
              have HLM : Hid (∀ (W : World) (N' : Nat), N' ≤ i → OwI W w.heap.size N' (D.del (.string t.data.toList)) → Lfu lo w ps i (F ++ [p]) W w.heap.size) := fun W N' hN' hW => by
                refine ⟨_, N', hN', hW, fun q => ?_, fun j' y hj' hy hyF => ?_⟩
                · rw [List.mem_append, List.mem_singleton]
                  by_cases e : q = t.data.toList
                  · subst e
                    rw [has_del_same]
                    rw [HTP.out]
                    simp
                  · rw [has_del_other (by simpa using e), d3 q]
                    rw [HTP.out] at e
                    simp [e]
                · rw [List.mem_append, List.mem_singleton] at hyF
                  have h1 : y.fPath.data.toList ∉ F := fun h => hyF (.inl h)
                  have h2 : y.fPath.data.toList ≠ t.data.toList := fun h => hyF (.inr (by rw [← HTP.out]; exact h))
                  obtain ⟨V', v1, v2⟩ := d4 j' y hj' hy h1
                  exact ⟨V', v1, by rw [atKey_del_other (by simpa using h2)]; exact v2⟩
              generalize x.fSum = z1 at *
              generalize x.fFrom = z3 at *
              obtain ⟨m2, hm2⟩ : ∃ m, x.fRefs.length = m := ⟨_, rfl⟩
              obtain ⟨m4, hm4⟩ : ∃ m, x.fTree.length = m := ⟨_, rfl⟩
              rw [hm2] at HRN hV
              rw [hm4] at hV
              obtain ⟨rl, hrlx⟩ : ∃ rl, refL x = rl := ⟨_, rfl⟩
              rw [hrlx] at HRC HC2 HRN hrl HRS
              have hm3 : m2 ≤ 300 := by rw [← HRN.out]; exact hrl
              have hkey := keyT t hts
              have HOD : Hid (∀ ob, OwI (wr.alloc ob) w.heap.size M D) := fun ob => d2.alloc _
              have HB4 : Hid (∀ ob, Below w.heap.size w (wr.alloc ob)) := fun ob => HBE.out.alloc HBE.out.size _
              have HF4 : Hid (∀ ob, sr.OwnS B (wr.alloc ob) u8 F) := fun ob => ⟨HOF.out.1.alloc _, HOF.out.2⟩
              have HP4 : Hid (∀ ob, sr.OwnS B (wr.alloc ob) (.slice (some ⟨g6, 0, none⟩) N c6) s') := fun ob => ⟨HPO.out.1.alloc _, HPO.out.2⟩
              clear hst ht hsb hos hpop hNN hcl hbel hc1 hc2 hof d3 d4 hd3 hpm hpF hxj hxp hji hrc hg hrx hrl hm2 hm4 hrlx hxt HLF HOS HSO HCL
              go_wp2_with (first
                | (at_lookup; refine look_item _ rfl _ _ rfl w.heap.size M D rfl d2 t rfl hts _ hV true hhas ?_)
                | (at_delete; refine wpList_delete_own _ rfl _ _ 74 9 rfl 45 keyedT Tryz.underlying74 _ w.heap.size M D rfl (HOD.out _) _ _ rfl hkey ?_; intro w5 hown5 hturn5; refine Hid.out ?_)
                | go_in)
              refine Lib.hid ?_
              have hgr5 := hturn5.grown
              have HB5 : Hid (Below w.heap.size w w5) := (HB4.out _).grown hgr5 (HB4.out _).size (fun k hk => by have := Option.some.inj hk; omega)
              have HF5 : Hid (∀ ob, sr.OwnS B (w5.alloc ob) u8 F) := fun ob => ⟨((HF4.out _).1.kept hgr5 (.inr fun e => by have := (HOF.out.1.lt _ e).1; omega)).alloc _, HOF.out.2⟩
              have HP5 : Hid (sr.OwnS B w5 (.slice (some ⟨g6, 0, none⟩) N c6) s') := ⟨(HP4.out _).1.kept hgr5 (.inr fun e => by have : g6 = w.heap.size := Option.some.inj e; omega), HPO.out.2⟩
              have HL5 : Hid (Lfu lo w ps i (F ++ [p]) w5 w.heap.size) := HLM.out w5 M d1 hown5
              have hs5 : wr.heap.size + 1 ≤ w5.heap.size := by have := hgr5.size; simpa using this
              have hblk : w5.heap[wr.heap.size]? = some (.cells #[.string t, .string z1, .slice (some ⟨rb, ro, none⟩) m2 c2, .string z3, .slice a4 m4 c4] 45) := by
                rw [hgr5.block wr.heap.size (by simp) (by intro e; have := Option.some.inj e; omega)]
                exact blk_new _ _
              have q0 : w5.cell? ⟨wr.heap.size, 0, none⟩ = some (.string t) := by simp [World.cell?, hblk]
              have HQ2 : Hid (∀ (ob : Obj) (W : World), (w5.alloc ob).grownBy W u8.ownBlock → W.cell? ⟨wr.heap.size, 2, none⟩ = some (.slice (some ⟨rb, ro, none⟩) m2 c2)) := fun ob W h => by
                have hb' : W.heap[wr.heap.size]? = some (.cells #[.string t, .string z1, .slice (some ⟨rb, ro, none⟩) m2 c2, .string z3, .slice a4 m4 c4] 45) := by
                  rw [h.block wr.heap.size (by simp; omega) (fun e => by have := (HOF.out.1.lt _ e.symm).2; omega)]
                  rw [← hblk]
                  exact ((Below.refl _ w5).alloc (Nat.le_refl _) ob).block _ (by omega)
                simp [World.cell?, hb']
              have hB5 : B ≤ w5.heap.size := by omega
              have HFN : Hid (F.length ≤ 300) := HS5.out.2
              clear hown5 hturn5 hgr5 hblk HF4 HP4 HB4 HOD HLM d2 hV hhas
              go_wp2_with (first
                | (at_builtin; refine app_str_at _ rfl _ _ rfl B u8 F rfl (HF5.out _).1 HOF.out.2 ⟨w5.heap.size, 0, none⟩ 1 1 [p] rfl rfl (sv.one_str _ HTS.out) (by have := HFN.out; omega) (by simp; omega) ?_; intro v6 w6 hown6 hv6 hg6' hat6; refine Hid.out ?_)
                | go_in)
              refine Lib.hid ?_
              have q2 := HQ2.out _ _ hg6'
              have HF6 : Hid (sr.OwnS B w6 v6 (F ++ [p])) := ⟨hown6, hv6⟩
              have HB6 : Hid (Below w.heap.size w w6) := (HB5.out.alloc HB5.out.size _).grown hg6' (HB5.out.alloc HB5.out.size _).size (fun k hk => by have := (HOF.out.1.lt k hk).1; omega)
              have HP6 : Hid (w6.ownsRow B 9 1 (.slice (some ⟨g6, 0, none⟩) N c6) s'.length (s'.map sr.strL)) := (HP5.out.1.alloc _).kept hg6' (.inr fun e => HDP.out g6 rfl e.symm)
              have HL6 : Hid (Lfu lo w ps i (F ++ [p]) w6 w.heap.size) := (HL5.out.below ((Below.refl _ _).alloc (Nat.le_refl _) _)).kept hg6' (fun e => by have := (HOF.out.1.lt _ e.symm).1; omega)
              have hs6 : w5.heap.size + 1 ≤ w6.heap.size := by have := hg6'.size; simpa using this
              have HV6 : Hid (v6.ownBlock ≠ some g6) := fun e => by
                rcases hat6 with h | h
                · rw [h] at e; exact HDP.out g6 rfl e
                · rw [h] at e
                  have : w5.heap.size + 1 = g6 := by simpa using e
                  omega
              have HNE : Hid (∀ j u, (rl.map sr.strL)[j]? = some u → w6.cell? ((⟨rb, ro, none⟩ : Addr).add j) = some u) := sr.row_news (HRC.out _ HB6.out)
              clear hown6 hv6 hg6' hat6 HQ2 HF5 HP5 HL5 HB5 q0 HRC
              go_wp2_with (first
                | (at_builtin; refine app_str_at _ rfl _ _ rfl B _ s' rfl HP6.out (sr.not_nil _ _ _) ⟨rb, ro, none⟩ m2 c2 rl rfl HRN.out HNE.out (by have := HSN.out; omega) (by omega) ?_; intro v7 w7 hown7 hv7 hg7 hat7; refine Hid.out ?_)
                | go_in)
              refine Lib.hid ?_
              have HN7 : Hid (sr.OwnS B w7 v7 (s' ++ rl)) := ⟨hown7, hv7⟩
              have HF7 : Hid (sr.OwnS B w7 v6 (F ++ [p])) := ⟨HF6.out.1.kept hg7 (.inr HV6.out), HF6.out.2⟩
              have HB7 : Hid (Below w.heap.size w w7) := HB6.out.grown hg7 HB6.out.size (fun k hk => by have : g6 = k := Option.some.inj hk; omega)
              have HL7 : Hid (Lfu lo w ps i (F ++ [p]) w7 w.heap.size) := HL6.out.kept hg7 (fun e => by have : w.heap.size = g6 := Option.some.inj e; omega)
              have HD7 : Hid (∀ k, v7.ownBlock = some k → v6.ownBlock ≠ some k) := fun k hk e => by
                rcases hat7 with h | h
                · rw [h] at hk
                  have : g6 = k := Option.some.inj hk
                  exact HV6.out (by rw [this]; exact e)
                · rw [h] at hk
                  have h1 : w6.heap.size = k := Option.some.inj hk
                  have := (HF6.out.1.lt k e).2
                  omega
              have HM7 : Hid (slen v6 = F.length + 1 ∧ slen v7 = N + m2) := by
                refine ⟨?_, ?_⟩
                · rw [own_len HF7.out]; simp
                · rw [own_len HN7.out, List.length_append, HSN.out, HRN.out]
              have HS7 : Hid (∀ q ∈ s' ++ rl, q.length ≤ 1048576) := fun q hq => by
                rcases List.mem_append.1 hq with h | h
                · exact HSM2.out q h
                · exact HRS.out q h
              clear hown7 hv7 hg7 hat7 HP6 HF6 HNE
              go_wp2
              go_roundw
              case rel => exact ⟨F ++ [p], s' ++ rl, HC2.out, HS7.out, HF7.out, HN7.out, HD7.out, HL7.out, HB7.out⟩
              case measure =>
                have h1 := HS5.out
                have h2 := HM7.out
                rw [h1.1, h2.1, h2.2]
                simp only [slen]
                omega
          · have hhas : Maps.has D (.string t.data.toList) = false := by
              cases hh : Maps.has D (.string t.data.toList) with
              | false => rfl
              | true => exact absurd (by have := hd3.1 hh; rwa [HTP.out] at this) hleft
            have hV : D.atKey (.string t.data.toList) (.held itZ) = .held itZ := atKey_of_not_has hhas _
            have HC2 : Hid (Clo ps xs F s') := HCO.out.skip (by
              by_cases e : p ∈ F
              · exact .inr e
              · refine .inl (Classical.byContradiction fun h => hleft ⟨?_, e⟩)
                rw [List.take_of_length_le (by rw [HN.out]; exact Nat.le_refl _)]
                exact gI_mem h)
            have HB4 : Hid (∀ ob, Below w.heap.size w (wr.alloc ob)) := fun ob => HBE.out.alloc HBE.out.size _
            have HF4 : Hid (∀ ob, sr.OwnS B (wr.alloc ob) u8 F) := fun ob => ⟨HOF.out.1.alloc _, HOF.out.2⟩
            have HP4 : Hid (∀ ob, sr.OwnS B (wr.alloc ob) (.slice (some ⟨g6, 0, none⟩) N c6) s') := fun ob => ⟨HPO.out.1.alloc _, HPO.out.2⟩
            have HL4 : Hid (∀ ob, Lfu lo w ps i F (wr.alloc ob) w.heap.size) := fun ob => HLF.out.below ((Below.refl _ _).alloc (Nat.le_refl _) _)
            have hzz : itZ = .agg #[.string ⟨#[]⟩, .string ⟨#[]⟩, .slice none 0 0, .string ⟨#[]⟩, .slice none 0 0] := rfl
            clear hst ht hsb hos hpop hNN hcl hbel hc1 hc2 hof d3 d4 hd3 hleft HLF HOS HSO HCL
            go_wp2_with (first
              | (at_lookup; refine look_item _ rfl _ _ rfl w.heap.size M D rfl d2 t rfl hts _ hV false hhas ?_; rw [hzz])
              | go_in)
            go_roundw
            case rel => exact ⟨F, s', HC2.out, HSM2.out, HF4.out _, HP4.out _, HDP.out, HL4.out _, HB4.out _⟩
            case measure => simp [slen]

end Go.Proofs.YtddnhnpfcelicaaGreatDoor.so

namespace Go.Proofs.YtddnhnpfcelicaaGreatDoor.so
open Go.ChangeShapes Go.WideShapes Go.ChangeAt Go.RowKit Go.Deep Go.Shelf Go.Maps
set_option linter.unusedVariables false
set_option linter.unusedSimpArgs false

/-! ### UsedBy: the specification -/

/-- What UsedBy answers. -/
noncomputable def useA (ps : List ty.It) (t : List UInt8) : List (List UInt8) := if stB ps = true ∧ t ∈ pths ps then (pths ps).filter (fun p => decide (t ∈ fin (gI ps) [p])) else []
theorem useA_len (ps : List ty.It) (t : List UInt8) : (useA ps t).length ≤ 300 := by
  unfold useA
  split
  · rename_i h
    have h1 := List.length_filter_le (fun p => decide (t ∈ fin (gI ps) [p])) (pths ps)
    have h2 := (st_facts h.1).1
    rw [pths_len] at h1
    omega
  · simp
theorem gI_yes {ps : List ty.It} {p : List UInt8} (h : p ∈ pths ps) : gI ps p ≠ none := by
  obtain ⟨x, hx, e⟩ := List.mem_map.1 h
  unfold gI
  cases hf : ps.find? (fun x => decide (x.fPath.data.toList = p)) with
  | none =>
    have := List.find?_eq_none.1 hf x hx
    simp at this
    exact absurd e this
  | some y => simp
theorem one_row (w : World) (P : ByteArray) : sr.StrR (w.alloc (.cells #[.string P] 9)) (.slice (some ⟨w.heap.size, 0, none⟩) [P.data.toList].length 1) [P.data.toList] :=
  ⟨w.heap.size, 0, 1, rfl, Nat.le_refl _, by unfold maxLen; omega, fun i x hx => by
    have h1 := sv.one_str w (l := P.data.toList) (u := P) (str_of P) i (sr.strL x) (by rw [List.getElem?_map, hx]; rfl)
    rw [addr_add] at h1
    exact h1⟩

set_option maxRecDepth 100000 in
set_option maxHeartbeats 8000000 in
theorem suse_any (lo : Nat) (a : Option Addr) (c : Nat) (ps : List ty.It) (t : ByteArray) (w : World) (hb : ty.SrcIt (some lo) w a ps) (hw : ty.wtIt ps ≤ 1048576) :
    Calls Tryz.prog 19 #[.slice a ps.length c, .string t] w fun e w' => (∃ v, e = .returned v ∧ sr.OwnS w.heap.size w' v (useA ps t.data.toList)) ∧ Below w.heap.size w w' := by
  have hlen := ty.wtIt_len ps
  have HSO : Hid (∀ W, Below w.heap.size w W → Calls Tryz.prog 30 #[.slice a ps.length c] W fun e w' => e = .returned (.bool (stB ps)) ∧ Below W.heap.size W w') := fun W h => sstore_any lo a c ps W (hb.below h) hw
  have HFD : Hid (∀ W, Below w.heap.size w W → Calls Tryz.prog 34 #[.slice a ps.length c, .string t] W fun e w' => (∃ r : Int, e = .returned (.int .i64 r) ∧ FdR ps t.data.toList r) ∧ w' = W) := fun W h => sfind_any a c ps t W (hb.any.below h) (by omega)
  have HCL : Hid (stB ps = true → ∀ (P : ByteArray) (W : World), Below w.heap.size w W → Calls Tryz.prog 31 #[.slice a ps.length c, .slice (some ⟨W.heap.size, 0, none⟩) 1 1] (W.alloc (.cells #[.string P] 9)) fun e w' => (∃ v, e = .returned v ∧ sr.OwnS (W.alloc (.cells #[.string P] 9)).heap.size w' v ((fin (gI ps) [P.data.toList]).foldl sr.fadd [])) ∧ Below (W.alloc (.cells #[.string P] 9)).heap.size (W.alloc (.cells #[.string P] 9)) w') := fun h1 P W h => by
    have h3 := st_facts h1
    exact l12clo_any lo a c ps _ 1 [P.data.toList] _ (hb.below (h.alloc h.size _)) h3.1 h3.2.2 (one_row W P) (by simp)
  have HSR : Hid (ty.SrcIt (some lo) w a ps) := hb
  have HST : Hid (stB ps = true → ps.length ≤ 300) := fun h => (st_facts h).1
  have HNO : Hid (¬ (stB ps = true ∧ t.data.toList ∈ pths ps) → useA ps t.data.toList = []) := fun h => by unfold useA; rw [if_neg h]
  have HYE : Hid (stB ps = true → t.data.toList ∈ pths ps → useA ps t.data.toList = (pths ps).filter (fun p => decide (t.data.toList ∈ fin (gI ps) [p]))) := fun h1 h2 => by unfold useA; rw [if_pos ⟨h1, h2⟩]
  have HZ0 : Hid (sr.OwnS w.heap.size (w.alloc (.cells #[] 9)) (.slice (some ⟨w.heap.size, 0, none⟩) 0 0) []) := rf.nil_row w
  have HB0 : Hid (Below w.heap.size w (w.alloc (.cells #[] 9))) := (Below.refl _ _).alloc (Nat.le_refl _) _
  obtain ⟨rs, hrs⟩ : ∃ rs, useA ps t.data.toList = rs := ⟨_, rfl⟩
  rw [hrs] at HNO HYE ⊢
  obtain ⟨n, hnn⟩ : ∃ n, ps.length = n := ⟨_, rfl⟩
  have HN : Hid (ps.length = n) := hnn
  rw [hnn] at HSO HFD HCL HST ⊢
  obtain ⟨bs, hbs⟩ : ∃ b, stB ps = b := ⟨_, rfl⟩
  rw [hbs] at HSO HCL HST HNO HYE
  clear hb hw hrs hnn hbs hlen
  cases bs with
  | false =>
    have HE : Hid (rs = []) := HNO.out (by simp)
    go_enter Tryz.func19, Tryz.ntmps19
    go_wp2_with (go_at_call 30; refine (HSO.out _ HB0.out).mono ?_; rintro e w1 ⟨rfl, hl1⟩)
    go_ret
    exact ⟨⟨_, rfl, by rw [HE.out]; exact sv.OwnS.bel HZ0.out hl1⟩, HB0.out.trans (hl1.mono HB0.out.size)⟩
  | true =>
    have hn3 : n ≤ 300 := HST.out rfl
    have HC2 := Lib.hid (HCL.out rfl)
    have HY2 := Lib.hid (HYE.out rfl)
    clear HCL HYE HST
    go_enter Tryz.func19, Tryz.ntmps19
    go_wp2_with (go_at_call 30; refine (HSO.out _ HB0.out).mono ?_; rintro e w1 ⟨rfl, hl1⟩; refine Hid.out ?_)
    refine Lib.hid ?_
    have HZ1 : Hid (sr.OwnS w.heap.size w1 (.slice (some ⟨w.heap.size, 0, none⟩) 0 0) []) := sv.OwnS.bel HZ0.out hl1
    have HB1 : Hid (Below w.heap.size w w1) := HB0.out.trans (hl1.mono HB0.out.size)
    clear hl1 HZ0 HB0 HSO
    go_wp2_with (go_at_call 34; refine (HFD.out _ HB1.out).mono ?_; rintro e w2 ⟨⟨r, rfl, hr⟩, hw2⟩; obtain rfl := hw2.symm; clear hw2; refine Hid.out ?_)
    refine Lib.hid ?_
    rcases hr with ⟨rfl, hg⟩ | ⟨i0, x0, rfl, hxi, hg⟩
    · have HE : Hid (rs = []) := HNO.out (fun h => gI_yes h.2 hg)
      clear hg
      go_wp2
      go_ret
      exact ⟨⟨_, rfl, by rw [HE.out]; exact HZ1.out⟩, HB1.out⟩
    · have hii : ¬ (i0 : Int) < 0 := by omega
      have HE : Hid (rs = (pths ps).filter (fun p => decide (t.data.toList ∈ fin (gI ps) [p]))) := HY2.out (gI_mem (by rw [hg]; simp))
      clear hg hxi HNO HY2
      go_wp2
      go_loopw [5, 6] (fun v y wr => ∃ i : Nat, i ≤ n ∧ y = .int .i64 (i : Int) ∧ sr.OwnS w.heap.size wr v ((pths (ps.take i)).filter (fun p => decide (t.data.toList ∈ fin (gI ps) [p]))) ∧ Below w.heap.size w wr) (fun _ y _ => n - (intOf y).toNat)
      case atStart => exact ⟨0, Nat.zero_le _, rfl, HZ1.out, HB1.out⟩
      case round =>
        obtain ⟨i, hi, rfl, hof, hbel⟩ := hrel
        have HOF : Hid (sr.OwnS w.heap.size wr u5 ((pths (ps.take i)).filter (fun p => decide (t.data.toList ∈ fin (gI ps) [p])))) := hof
        have HBE : Hid (Below w.heap.size w wr) := hbel
        clear hof
        by_cases hil : i < n
        · have hil' : (i : Int) < (n : Int) := by omega
          have hi0 : (0 : Int) ≤ (i : Int) := by omega
          obtain ⟨x, hx⟩ : ∃ x, ps[i]? = some x := ⟨_, List.getElem?_eq_getElem (by rw [HN.out]; exact hil)⟩
          obtain ⟨b, o, rfl, hc⟩ : ∃ b o, a = some ⟨b, o, none⟩ ∧ ∀ (j : Nat) (y : ty.It), ps[j]? = some y → ty.CIt (some lo) w b (o + j * 5) y := by
            rcases HSR.out with h | ⟨b, o, e, _, h⟩
            · cases h.1
            · exact ⟨b, o, e, h⟩
          obtain ⟨a2, c2, a4, c4, q0, q1, q2, q3, q4, s2, s4, t2, t4⟩ := hc i x hx
          have HQ0 : Hid (∀ W, Below w.heap.size w W → W.cell? ⟨b, o + i * 5, none⟩ = some (.string x.fPath)) := fun W h => (h.cell (p := ⟨b, _, none⟩) (World.block_lt_of_cell? _ _ q0)).trans q0
          have HPX : Hid (pths (ps.take (i + 1)) = pths (ps.take i) ++ [x.fPath.data.toList]) := pths_take hx
          have r0 := HQ0.out _ hbel
          obtain ⟨P, hP⟩ : ∃ z, x.fPath = z := ⟨_, rfl⟩
          rw [hP] at r0 HQ0 HPX
          have hfl : ((pths (ps.take i)).filter (fun p => decide (t.data.toList ∈ fin (gI ps) [p]))).length ≤ 300 := by
            have h1 := List.length_filter_le (fun p => decide (t.data.toList ∈ fin (gI ps) [p])) (pths (ps.take i))
            rw [pths_len, List.length_take] at h1
            omega
          have HF2 : Hid ((pths (ps.take (i + 1))).filter (fun p => decide (t.data.toList ∈ fin (gI ps) [p])) = (pths (ps.take i)).filter (fun p => decide (t.data.toList ∈ fin (gI ps) [p])) ++ [P.data.toList].filter (fun p => decide (t.data.toList ∈ fin (gI ps) [p]))) := by show _ = _; rw [HPX.out, List.filter_append]
          obtain ⟨fs, hfs⟩ : ∃ fs, (pths (ps.take i)).filter (fun p => decide (t.data.toList ∈ fin (gI ps) [p])) = fs := ⟨_, rfl⟩
          rw [hfs] at HOF HF2 hfl
          have HCP := Lib.hid (HC2.out P wr HBE.out)
          clear hc q0 q1 q2 q3 q4 s2 s4 t2 t4 hx hP hfs hbel
          go_wp2_with (go_at_call 31; refine HCP.out.mono ?_; rintro e w3 ⟨⟨v3, rfl, hv3⟩, hl3⟩; refine Hid.out ?_)
          refine Lib.hid ?_
          have hl3' : Below wr.heap.size wr w3 := ((Below.refl _ _).alloc (Nat.le_refl _) _).trans (hl3.mono (by simp))
          have HB3 : Hid (Below w.heap.size w w3) := HBE.out.trans (hl3'.mono HBE.out.size)
          have HO3 : Hid (sr.OwnS w.heap.size w3 u5 fs) := sv.OwnS.bel HOF.out hl3'
          have HHS : Hid (Calls Tryz.prog 24 #[v3, .string t] w3 fun e w' => e = .returned (.bool (decide (t.data.toList ∈ fin (gI ps) [P.data.toList]))) ∧ w' = w3) := by
            have := sr.l3has_any _ v3 t w3 hv3.row
            have e : decide (t.data.toList ∈ (fin (gI ps) [P.data.toList]).foldl sr.fadd []) = decide (t.data.toList ∈ fin (gI ps) [P.data.toList]) := by
              rw [Bool.eq_iff_iff, decide_eq_true_eq, decide_eq_true_eq, sr.fold_mem]
              simp
            rwa [e] at this
          have r3 := HQ0.out _ HB3.out
          clear hv3 hl3 hl3' HCP HOF
          by_cases hm : t.data.toList ∈ fin (gI ps) [P.data.toList]
          · rw [decide_eq_true hm] at HHS
            have HF3 : Hid ((pths (ps.take (i + 1))).filter (fun p => decide (t.data.toList ∈ fin (gI ps) [p])) = fs ++ [P.data.toList]) := by show _ = _; rw [HF2.out, List.filter_cons_of_pos (by simpa using hm), List.filter_nil]
            have HOA : Hid (∀ ob, (w3.alloc ob).ownsRow w.heap.size 9 1 u5 fs.length (fs.map sr.strL)) := fun ob => HO3.out.1.alloc _
            have HBA : Hid (∀ ob, Below w.heap.size w (w3.alloc ob)) := fun ob => HB3.out.alloc HB3.out.size _
            clear hm HF2
            go_wp2_with (first
              | (go_at_call 24; refine HHS.out.mono ?_; rintro e w4 ⟨rfl, hw4⟩; obtain rfl := hw4.symm; clear hw4)
              | (at_builtin; refine app_str_at _ rfl _ _ rfl w.heap.size _ fs rfl (HOA.out _) HO3.out.2 ⟨w3.heap.size, 0, none⟩ 1 1 [P.data.toList] rfl rfl (sv.one_str _ (str_of P)) (by omega) (HBA.out _).size ?_; intro v5 w5 hown5 hv5 hg5 hat5; refine Hid.out ?_)
              | go_in)
            refine Lib.hid ?_
            have HN5 : Hid (sr.OwnS w.heap.size w5 v5 ((pths (ps.take (i + 1))).filter (fun p => decide (t.data.toList ∈ fin (gI ps) [p])))) := by show sr.OwnS _ _ _ _; rw [HF3.out]; exact ⟨hown5, hv5⟩
            have HB5 : Hid (Below w.heap.size w w5) := (HBA.out _).grown hg5 (HBA.out _).size (fun k hk => (HO3.out.1.lt k hk).1)
            clear hown5 hv5 hg5 hat5
            go_wp2
            go_roundw
            case rel => exact ⟨i + 1, by omega, by go_num, HN5.out, HB5.out⟩
            case measure => simp [intOf]; omega
          · rw [decide_eq_false hm] at HHS
            have HF3 : Hid ((pths (ps.take (i + 1))).filter (fun p => decide (t.data.toList ∈ fin (gI ps) [p])) = fs) := by show _ = _; rw [HF2.out, List.filter_cons_of_neg (by simpa using hm), List.filter_nil, List.append_nil]
            clear hm HF2
            go_wp2_with (go_at_call 24; refine HHS.out.mono ?_; rintro e w4 ⟨rfl, hw4⟩; obtain rfl := hw4.symm; clear hw4)
            go_roundw
            case rel => exact ⟨i + 1, by omega, by go_num, by rw [HF3.out]; exact HO3.out, HB3.out⟩
            case measure => simp [intOf]; omega
        · have hil' : ¬ (i : Int) < (n : Int) := by omega
          obtain rfl : i = n := by omega
          have HPT : Hid (ps.take i = ps) := List.take_of_length_le (by rw [HN.out]; exact Nat.le_refl _)
          clear hbel
          go_wp2
          go_ret
          exact ⟨⟨_, rfl, by rw [HE.out]; have := HOF.out; rw [HPT.out] at this; exact this⟩, HBE.out⟩

end Go.Proofs.YtddnhnpfcelicaaGreatDoor.so

namespace Go.Proofs.YtddnhnpfcelicaaGreatDoor.so
open Go.ChangeShapes Go.WideShapes Go.ChangeAt Go.RowKit Go.Deep Go.Shelf Go.Maps
set_option linter.unusedVariables false
set_option linter.unusedSimpArgs false

/-! ### UsedBy: a store turned round; its memory -/

/-- What the cells of the items under way hold. -/
def uF (Pf : Nat → ByteArray) (V : Nat → Value) (j : Nat) : Value := if j % 5 = 0 then .string (Pf (j / 5)) else if j % 5 = 2 then V (j / 5) else if j % 5 = 4 then .slice none 0 0 else .string ⟨#[]⟩
/-- The items under way: each Refs nil or a row of its own. -/
structure TuV (B U n : Nat) (Pf : Nat → ByteArray) (L : Nat → List ByteArray) (V : Nat → Value) (w : World) : Prop where
  row : w.rowIs U 45 (n * 5) (uF Pf V)
  own : ∀ j, j < n → w.ownsRow B 9 1 (V j) (L j).length ((L j).map Value.string)
  dis : ∀ j k, j < n → k < n → j ≠ k → ∀ b, (V j).ownBlock = some b → (V k).ownBlock ≠ some b
def TuS (B U n : Nat) (Pf : Nat → ByteArray) (L : Nat → List ByteArray) (w : World) : Prop := ∃ V, TuV B U n Pf L V w

theorem grown_cell (w : World) (b o : Nat) (v : Value) : w.grownBy (w.setCell ⟨b, o, none⟩ v) (some b) := ⟨rfl, rfl, rfl, by simp, fun j hj hne => blk_setCell_other _ _ _ _ (fun e => hne (by rw [e]))⟩
theorem TuV.below {B U n : Nat} {Pf : Nat → ByteArray} {L : Nat → List ByteArray} {V : Nat → Value} {w w' : World} (h : TuV B U n Pf L V w) (hb : Below w.heap.size w w') : TuV B U n Pf L V w' :=
  ⟨h.row.of_block (hb.block _ h.row.lt), fun j hj => World.ownsRow.kept (h.own j hj) (row := none) ⟨hb.os, hb.tape, hb.output, hb.size, fun i hi _ => hb.block i hi⟩ (Classical.em _), h.dis⟩
theorem TuV.set0 {B U n : Nat} {Pf : Nat → ByteArray} {L : Nat → List ByteArray} {V : Nat → Value} {w : World} (h : TuV B U n Pf L V w) (hU : U < B) (i : Nat) (P : ByteArray) : TuV B U n (fun j => if j = i then P else Pf j) L V (w.setCell ⟨U, i * 5, none⟩ (.string P)) := by
  refine ⟨(h.row.set (i * 5) (.string P)).congr fun j hj => ?_, fun j hj => World.ownsRow.kept (h.own j hj) (row := some U) (grown_cell w U (i * 5) (.string P)) (.inr fun e => ?_), h.dis⟩
  · unfold uF
    by_cases e : j = i * 5
    · subst e
      simp
    · rw [if_neg e]
      by_cases h0 : j % 5 = 0
      · rw [if_pos h0, if_pos h0]
        show Value.string (Pf (j / 5)) = Value.string (if j / 5 = i then P else Pf (j / 5))
        rw [if_neg (by omega)]
      · rw [if_neg h0, if_neg h0]
  · have := ((h.own j hj).lt U e).1
    omega
theorem TuV.set2 {B U n : Nat} {Pf : Nat → ByteArray} {L : Nat → List ByteArray} {V : Nat → Value} {w : World} {at' : Nat} {v : Value} {P : ByteArray} (hr : w.rowIs U 45 (n * 5) (uF Pf V)) (hU : U < B)
    (ho : ∀ j, j < n → j ≠ at' → w.ownsRow B 9 1 (V j) (L j).length ((L j).map Value.string)) (hv : w.ownsRow B 9 1 v (L at' ++ [P]).length ((L at' ++ [P]).map Value.string))
    (hd : ∀ j k, j < n → k < n → j ≠ k → ∀ b, (V j).ownBlock = some b → (V k).ownBlock ≠ some b) (hd2 : ∀ k, k < n → k ≠ at' → ∀ b, v.ownBlock = some b → (V k).ownBlock ≠ some b) :
    TuV B U n Pf (fun j => if j = at' then L at' ++ [P] else L j) (fun j => if j = at' then v else V j) (w.setCell ⟨U, at' * 5 + 2, none⟩ v) := by
  refine ⟨(hr.set (at' * 5 + 2) v).congr fun j hj => ?_, fun j hj => ?_, fun j k hj hk hne b hb => ?_⟩
  · unfold uF
    by_cases e : j = at' * 5 + 2
    · subst e
      have e1 : (at' * 5 + 2) % 5 = 2 := by omega
      have e2 : (at' * 5 + 2) / 5 = at' := by omega
      simp [e1, e2]
    · rw [if_neg e]
      by_cases h0 : j % 5 = 0
      · rw [if_pos h0, if_pos h0]
      · rw [if_neg h0, if_neg h0]
        by_cases h2 : j % 5 = 2
        · rw [if_pos h2, if_pos h2]
          show V (j / 5) = if j / 5 = at' then v else V (j / 5)
          rw [if_neg (by omega)]
        · rw [if_neg h2, if_neg h2]
  · by_cases e : j = at'
    · subst e
      simp only [if_pos]
      exact World.ownsRow.kept hv (row := some U) (grown_cell w U _ _) (.inr fun e => by have := (hv.lt U e).1; omega)
    · simp only [if_neg e]
      exact World.ownsRow.kept (ho j hj e) (row := some U) (grown_cell w U _ _) (.inr fun e' => by have := ((ho j hj e).lt U e').1; omega)
  · by_cases e : j = at'
    · subst e
      simp only [if_pos] at hb
      simp only [if_neg (Ne.symm hne)]
      exact hd2 k hk (Ne.symm hne) b hb
    · simp only [if_neg e] at hb
      by_cases e2 : k = at'
      · subst e2
        simp only [if_pos]
        intro hb2
        exact hd2 j hj e b hb2 hb
      · simp only [if_neg e2]
        exact hd j k hj hk hne b hb

/-- One text more behind the Refs of one of them. -/
theorem TuV.grow {B U n : Nat} {Pf : Nat → ByteArray} {L : Nat → List ByteArray} {V : Nat → Value} {W : World} (h : TuV B U n Pf L V W) (hU : U < B) {at' : Nat} (hat : at' < n) {P : ByteArray} {ad : Addr} (hy : W.cell? ad = some (.string P)) (hB : B ≤ W.heap.size) (hl : (L at').length ≤ 2000000) :
    ∃ v6 W6, (Builtin.append_ #[24, 24] 24 #[V at', .slice (some ad) 1 1]).run Tryz.prog W = .ok v6 W6 ∧ (∃ a6 l6 c6, v6 = .slice a6 l6 c6) ∧ W6.rowIs U 45 (n * 5) (uF Pf V) ∧ TuS B U n Pf (fun j => if j = at' then L at' ++ [P] else L j) (W6.setCell ⟨U, at' * 5 + 2, none⟩ v6) ∧ (∀ B0, B0 ≤ U → B0 ≤ W.heap.size → Below B0 W (W6.setCell ⟨U, at' * 5 + 2, none⟩ v6)) ∧ ∀ I C, W.heap[I]? = some (.cells C 45) → I ≠ U → (W6.setCell ⟨U, at' * 5 + 2, none⟩ v6).heap[I]? = some (.cells C 45) := by
  obtain ⟨i0, hi, hz0, hz1, hz2⟩ := sr.info_parts sr.info9
  have hnews : ∀ j u, [Value.string P][j]? = some u → W.cell? (ad.add j) = some u := fun j u hj => by
    match j with
    | 0 => simp at hj; subst hj; simpa [Addr.add] using hy
    | j + 1 => simp at hj
  have hone : ∀ u ∈ [Value.string P], u.oneCell' = true := fun u hu => by
    simp only [List.mem_singleton] at hu
    subst hu
    rfl
  obtain ⟨v', w', hr, h1, h2, h3, h4⟩ := run_append_own_at (P := Tryz.prog) W B 24 24 9 i0 _ 1 16 Tryz.underlying24 hi hz0 hz1 hz2 rfl (by omega) (V at') (L at').length ((L at').map Value.string) (h.own at' hat) ad 1 1 [.string P] rfl hnews hone (by unfold maxLen; omega) (by omega) hB
  have hne : some U ≠ (V at').ownBlock := fun e => by have := ((h.own at' hat).lt U e.symm).1; omega
  have hrow : w'.rowIs U 45 (n * 5) (uF Pf V) := h.row.of_block (h2.block U h.row.lt hne)
  have hsh : ∃ a6 l6 c6, v' = .slice a6 l6 c6 := by
    rcases h1.2 with ⟨e2, _⟩ | ⟨g, cap, cur, e2, _⟩
    · exact ⟨_, _, _, e2⟩
    · exact ⟨_, _, _, e2⟩
  refine ⟨v', w', hr, hsh, hrow, ⟨_, TuV.set2 hrow hU (fun j hj hja => World.ownsRow.kept (h.own j hj) h2 ?_) (by rw [List.length_append, List.map_append]; exact h1) h.dis (fun k hk hka b hb => ?_)⟩, fun B0 hB0 hB0' => ?_, fun I C hI hIU => ?_⟩
  · by_cases e : (V j).ownBlock = none
    · exact .inl e
    · refine .inr fun e2 => ?_
      obtain ⟨b, hb⟩ : ∃ b, (V j).ownBlock = some b := Option.ne_none_iff_exists'.1 e
      exact h.dis j at' hj hat hja b hb (by rw [← e2]; exact hb)
  · rcases h4 with e | e
    · rw [e] at hb
      exact h.dis at' k hat hk (Ne.symm hka) b hb
    · rw [e] at hb
      have : W.heap.size = b := Option.some.inj hb
      intro hb2
      have := ((h.own k hk).lt b hb2).2
      omega
  · have hb1 : Below B0 W w' := (Below.refl B0 W).grown h2 hB0' (fun k hk => by have := ((h.own at' hat).lt k hk).1; omega)
    exact hb1.setCell hB0 _
  · have h5 : some I ≠ (V at').ownBlock := fun e => by
      rcases (h.own at' hat).2 with ⟨e2, _⟩ | ⟨g, cap, cur, e2, _, hg, _⟩
      · rw [e2] at e; cases e
      · rw [e2] at e
        have : I = g := Option.some.inj e
        rw [this, hg] at hI
        cases hI
    rw [blk_setCell_other _ _ _ _ hIU, h2.block I (Array.getElem?_eq_some_iff.1 hI).1 h5]
    exact hI

theorem wp_appS {o : Oper} {a : Act} {W W6 : World} {v v6 : Value} {ad : Addr} {K : Act → World → Prop} {Q : Exit → Act → World → Prop} (s x : Operand) (ho : o.op = .call { callee := .builtin .append, args := #[s, x], argTypes := #[24, 24] }) (hty : o.type = 24) (hs : a.eval s = v) (hx : a.eval x = .slice (some ad) 1 1)
    (hr : (Builtin.append_ #[24, 24] 24 #[v, .slice (some ad) 1 1]).run Tryz.prog W = .ok v6 W6) (h : K (a.put o.dst v6) W6) : o.wp Tryz.prog a W K Q := by
  unfold Oper.wp execOp
  simp only [ho, hty, resolve, invoke, builtin, Sem.run_bind, Sem.run_pure, Result.andThen_ok, List.map_toArray, List.map_cons, List.map_nil, hs, hx, hr]
  exact h

/-! The lists, plainly. -/

def pB (ps : List ty.It) (j : Nat) : ByteArray := (ps[j]?.map fun x => x.fPath).getD ⟨#[]⟩
def pF (ps : List ty.It) (i j : Nat) : ByteArray := if j < i then pB ps j else ⟨#[]⟩
def lF (ps : List ty.It) (i j : Nat) : List ByteArray := ((ps.take i).filter fun z => decide ((pB ps j).data.toList ∈ refL z)).map fun z => z.fPath
def lK (ps : List ty.It) (i k : Nat) (x : ty.It) (j : Nat) : List ByteArray := lF ps i j ++ (if (pB ps j).data.toList ∈ (refL x).take k then [x.fPath] else [])
theorem pB_some {ps : List ty.It} {j : Nat} {x : ty.It} (h : ps[j]? = some x) : pB ps j = x.fPath := by unfold pB; rw [h]; rfl
theorem pF_zero (ps : List ty.It) : pF ps 0 = fun _ => ⟨#[]⟩ := by funext j; unfold pF; rw [if_neg (by omega)]
theorem pF_succ (ps : List ty.It) {i : Nat} {x : ty.It} (h : ps[i]? = some x) : (fun j => if j = i then x.fPath else pF ps i j) = pF ps (i + 1) := by
  funext j
  unfold pF
  by_cases e : j = i
  · subst e
    rw [if_pos rfl, if_pos (by omega), pB_some h]
  · rw [if_neg e]
    by_cases h1 : j < i
    · rw [if_pos h1, if_pos (by omega)]
    · rw [if_neg h1, if_neg (by omega)]
theorem lF_zero (ps : List ty.It) : lF ps 0 = fun _ => [] := by funext j; simp [lF]
theorem lK_zero (ps : List ty.It) (i : Nat) (x : ty.It) : lK ps i 0 x = lF ps i := by funext j; simp [lK]
theorem lK_all (ps : List ty.It) {i : Nat} {x : ty.It} (h : ps[i]? = some x) {k : Nat} (hk : (refL x).length ≤ k) : lK ps i k x = lF ps (i + 1) := by
  funext j
  unfold lK lF
  rw [List.take_of_length_le hk, List.take_add_one, h, Option.toList_some, List.filter_append, List.map_append]
  congr 1
  by_cases e : (pB ps j).data.toList ∈ refL x
  · rw [if_pos e, List.filter_cons_of_pos (by simpa using e)]
    rfl
  · rw [if_neg e, List.filter_cons_of_neg (by simpa using e)]
    rfl
theorem lF_len (ps : List ty.It) (i j : Nat) : (lF ps i j).length ≤ ps.length := by
  unfold lF
  rw [List.length_map]
  refine Nat.le_trans (List.length_filter_le _ _) ?_
  rw [List.length_take]
  omega
theorem lK_len (ps : List ty.It) (i k : Nat) (x : ty.It) (j : Nat) : (lK ps i k x j).length ≤ ps.length + 1 := by
  have h := lF_len ps i j
  unfold lK
  rw [List.length_append]
  split <;> simp <;> omega
/-- One reference more. -/
theorem lK_step {ps : List ty.It} {i k J : Nat} {x : ty.It} {r : List UInt8} (hr : (refL x)[k]? = some r) (hnd : (refL x).Nodup) (hJ : (pB ps J).data.toList = r) (hun : ∀ j, j < ps.length → (pB ps j).data.toList = r → j = J) (hJn : J < ps.length) : ∀ j, j < ps.length → (if j = J then lK ps i k x J ++ [x.fPath] else lK ps i k x j) = lK ps i (k + 1) x j := fun j hj => by
  have hk := (List.getElem?_eq_some_iff.1 hr).1
  have htk : (refL x).take (k + 1) = (refL x).take k ++ [r] := by rw [List.take_add_one, hr]; rfl
  have hno : r ∉ (refL x).take k := fun hm => by
    obtain ⟨m, hm'⟩ := List.getElem?_of_mem hm
    have hml := (List.getElem?_eq_some_iff.1 hm').1
    rw [List.length_take] at hml
    rw [List.getElem?_take_of_lt (by omega)] at hm'
    have := (List.getElem?_inj (by omega) hnd).1 (hm'.trans hr.symm)
    omega
  unfold lK
  rw [htk]
  by_cases e : j = J
  · subst e
    rw [if_pos rfl, hJ, if_neg hno, if_pos (by simp), List.append_nil]
  · rw [if_neg e]
    have hne : (pB ps j).data.toList ≠ r := fun e2 => e (hun j hj e2)
    congr 1
    by_cases h1 : (pB ps j).data.toList ∈ (refL x).take k
    · rw [if_pos h1, if_pos (List.mem_append_left _ h1)]
    · rw [if_neg h1, if_neg (fun h => by rcases List.mem_append.1 h with h | h; exact h1 h; exact hne (by simpa using h))]
theorem TuS.congr {B U n : Nat} {Pf : Nat → ByteArray} {L L' : Nat → List ByteArray} {w : World} (h : TuS B U n Pf L w) (e : ∀ j, j < n → L j = L' j) : TuS B U n Pf L' w := by
  obtain ⟨V, h1, h2, h3⟩ := h
  exact ⟨V, h1, fun j hj => by rw [← e j hj]; exact h2 j hj, h3⟩

/-- The items, turned. -/
def usL (ps : List ty.It) : List ty.It := (List.range ps.length).map fun j => ⟨pB ps j, ⟨#[]⟩, lF ps ps.length j, ⟨#[]⟩, []⟩

end Go.Proofs.YtddnhnpfcelicaaGreatDoor.so

namespace Go.Proofs.YtddnhnpfcelicaaGreatDoor.so
open Go.ChangeShapes Go.WideShapes Go.ChangeAt Go.RowKit Go.Deep Go.Shelf Go.Maps
set_option linter.unusedVariables false
set_option linter.unusedSimpArgs false

/-! ### UsedBy: impl.turned -/

theorem uF_two (Pf : Nat → ByteArray) (V : Nat → Value) (J : Nat) : uF Pf V (J * 5 + 2) = V J := by
  unfold uF
  rw [if_neg (by omega), if_pos (by omega)]
  have : (J * 5 + 2) / 5 = J := by omega
  rw [this]
theorem uF_zero (Pf : Nat → ByteArray) (V : Nat → Value) (J : Nat) : uF Pf V (J * 5) = .string (Pf J) := by
  unfold uF
  rw [if_pos (by omega)]
  have : (J * 5) / 5 = J := by omega
  rw [this]
theorem TuS.below {B U n : Nat} {Pf : Nat → ByteArray} {L : Nat → List ByteArray} {w w' : World} (h : TuS B U n Pf L w) (hb : Below w.heap.size w w') : TuS B U n Pf L w' := by
  obtain ⟨V, hV⟩ := h
  exact ⟨V, hV.below hb⟩
theorem TuS.zero (w : World) (n : Nat) (ps : List ty.It) : TuS (w.heap.size + 1) w.heap.size n (pF ps 0) (lF ps 0) (w.alloc (.cells (madeCells (Value.agg #[.string ⟨#[]⟩, .string ⟨#[]⟩, .slice none 0 0, .string ⟨#[]⟩, .slice none 0 0]).cells (n * 5)) 45)) := by
  refine ⟨fun _ => .slice none 0 0, (ty.rowIs_madeN w #[.string ⟨#[]⟩, .string ⟨#[]⟩, .slice none 0 0, .string ⟨#[]⟩, .slice none 0 0] n 5 45 rfl (by omega)).congr fun j hj => ?_, fun j hj => ?_, fun j k _ _ _ b hb => by cases hb⟩
  · rw [pF_zero]
    unfold uF
    have h5 : j % 5 < 5 := Nat.mod_lt _ (by omega)
    match hm : j % 5, h5 with
    | 0, _ => rfl
    | 1, _ => rfl
    | 2, _ => rfl
    | 3, _ => rfl
    | 4, _ => rfl
  · rw [lF_zero]
    exact World.ownsRow_nil _ _ 9 1

set_option maxRecDepth 100000 in
set_option maxHeartbeats 16000000 in
theorem turned_any (lo : Nat) (a : Option Addr) (c : Nat) (ps : List ty.It) (w : World) (hb : ty.SrcIt (some lo) w a ps) (hn : ps.length ≤ 300) (hasc : ∀ (i j : Nat) (x y : ty.It), j < i → ps[j]? = some y → ps[i]? = some x → y.fPath.data.toList < x.fPath.data.toList) (hrf : ∀ x ∈ ps, x.fRefs.length ≤ 300 ∧ (refL x).Nodup ∧ ∀ r ∈ refL x, r ∈ pths ps) :
    Calls Tryz.prog 35 #[.slice a ps.length c] w fun e w' => e = .returned (.slice (some ⟨w.heap.size, 0, none⟩) ps.length ps.length) ∧ TuS (w.heap.size + 1) w.heap.size ps.length (pF ps ps.length) (lF ps ps.length) w' ∧ Below w.heap.size w w' := by
  have hmk := ty.makeN (P := Tryz.prog) 26 45 (.agg #[.string ⟨#[]⟩, .string ⟨#[]⟩, .slice none 0 0, .string ⟨#[]⟩, .slice none 0 0]) 5 96 Tryz.underlying26 ty.infoIt .i64 .i64 ps.length (by omega) (by omega)
  have HSR : Hid (ty.SrcIt (some lo) w a ps) := hb
  have HRF : Hid (∀ x ∈ ps, x.fRefs.length ≤ 300 ∧ (refL x).Nodup ∧ ∀ r ∈ refL x, r ∈ pths ps) := hrf
  have HUN : Hid (∀ i j, i < ps.length → j < ps.length → (pB ps i).data.toList = (pB ps j).data.toList → i = j) := fun i j hi hj e => by
    rw [pB_some (List.getElem?_eq_getElem hi), pB_some (List.getElem?_eq_getElem hj)] at e
    rcases Nat.lt_trichotomy i j with h | h | h
    · have := hasc j i _ _ h (List.getElem?_eq_getElem hi) (List.getElem?_eq_getElem hj)
      rw [e] at this
      exact absurd this (List.lt_irrefl _)
    · exact h
    · have := hasc i j _ _ h (List.getElem?_eq_getElem hj) (List.getElem?_eq_getElem hi)
      rw [e] at this
      exact absurd this (List.lt_irrefl _)
  have HNU : Hid (∀ (q : ByteArray) (J : Nat) (W : World), Below w.heap.size w W → J < ps.length → (pB ps J).data.toList = q.data.toList → Calls Tryz.prog 57 #[.slice a ps.length c, .string q] W fun e w' => e = .returned (.tuple #[.int .i64 (J : Int), .bool true]) ∧ Below W.heap.size W w') := fun q J W h hJ e => inum_any lo a c ps q J W (hb.below h) hn hasc ⟨_, List.getElem?_eq_getElem hJ, by rw [← pB_some (List.getElem?_eq_getElem hJ)]; exact e⟩
  have HT0 : Hid (TuS (w.heap.size + 1) w.heap.size ps.length (pF ps 0) (lF ps 0) (w.alloc (.cells (madeCells (Value.agg #[.string ⟨#[]⟩, .string ⟨#[]⟩, .slice none 0 0, .string ⟨#[]⟩, .slice none 0 0]).cells (ps.length * 5)) 45))) := TuS.zero w ps.length ps
  have HB0 : Hid (∀ ob, Below w.heap.size w (w.alloc ob)) := fun ob => (Below.refl _ _).alloc (Nat.le_refl _) _
  obtain ⟨U, hU⟩ : ∃ U, w.heap.size = U := ⟨_, rfl⟩
  have HUU : Hid (w.heap.size = U) := hU
  have hUw : w.heap.size ≤ U := by omega
  rw [hU] at HT0
  obtain ⟨n, hnn⟩ : ∃ n, ps.length = n := ⟨_, rfl⟩
  have HN : Hid (ps.length = n) := hnn
  rw [hnn] at hn hmk HUN HNU HT0 ⊢
  clear hb hasc hrf hnn
  go_enter Tryz.func35, Tryz.ntmps35
  go_wp2
  clear hmk
  try rw [HUU.out]
  go_loopw [4, 7, 8, 9, 15] (fun _ _ _ _ y wr => ∃ i : Nat, i ≤ n ∧ y = .int .i64 (i : Int) ∧ TuS (U + 1) U n (pF ps i) (lF ps i) wr ∧ Below w.heap.size w wr) (fun _ _ _ _ y _ => n - (intOf y).toNat)
  case atStart => exact ⟨0, Nat.zero_le _, rfl, HT0.out, HB0.out _⟩
  case round =>
    obtain ⟨i, hi, rfl, hts, hbel⟩ := hrel
    have HTS : Hid (TuS (U + 1) U n (pF ps i) (lF ps i) wr) := hts
    have HBE : Hid (Below w.heap.size w wr) := hbel
    by_cases hil : i < n
    · have hil' : (i : Int) < (n : Int) := by omega
      have hi0 : (0 : Int) ≤ (i : Int) := by omega
      obtain ⟨x, hx⟩ : ∃ x, ps[i]? = some x := ⟨_, List.getElem?_eq_getElem (by rw [HN.out]; exact hil)⟩
      obtain ⟨b, o, rfl, hc⟩ : ∃ b o, a = some ⟨b, o, none⟩ ∧ ∀ (j : Nat) (y : ty.It), ps[j]? = some y → ty.CIt (some lo) w b (o + j * 5) y := by
        rcases HSR.out with h | ⟨b, o, e, _, h⟩
        · cases h.1
        · exact ⟨b, o, e, h⟩
      obtain ⟨a2, c2, a4, c4, q0, q1, q2, q3, q4, s2, s4, t2, t4⟩ := hc i x hx
      obtain ⟨rb, ro, rfl, hrc⟩ : ∃ rb ro, a2 = some ⟨rb, ro, none⟩ ∧ ∀ (j : Nat) (y : ByteArray), x.fRefs[j]? = some y → w.cell? ⟨rb, ro + j, none⟩ = some (.string y) := by
        rcases s2 with h | ⟨b, o, e, _, h⟩
        · cases h.1
        · exact ⟨b, o, e, h⟩
      have HRC : Hid (∀ (j : Nat) (y : ByteArray), x.fRefs[j]? = some y → ∀ W, Below w.heap.size w W → W.cell? ⟨rb, ro + j, none⟩ = some (.string y)) := fun j y hy W h => (h.cell (p := ⟨rb, _, none⟩) (World.block_lt_of_cell? _ _ (hrc j y hy))).trans (hrc j y hy)
      have K : ∀ {p v}, w.cell? ⟨b, p, none⟩ = some v → wr.cell? ⟨b, p, none⟩ = some v := fun {p v} k => (hbel.cell (p := ⟨b, p, none⟩) (World.block_lt_of_cell? _ _ k)).trans k
      have r0 := K q0
      have r1 := K q1
      have r2 := K q2
      have r3 := K q3
      have r4 := K q4
      have hxr := HRF.out x (List.mem_of_getElem? hx)
      have hm2 := hxr.1
      have HXR : Hid ((refL x).Nodup ∧ ∀ r ∈ refL x, r ∈ pths ps) := hxr.2
      have HXX : Hid (ps[i]? = some x) := hx
      have HPS : Hid ((fun j => if j = i then x.fPath else pF ps i j) = pF ps (i + 1)) := pF_succ ps hx
      obtain ⟨m2, hmm2⟩ : ∃ m, x.fRefs.length = m := ⟨_, rfl⟩
      have HM2 : Hid (x.fRefs.length = m2) := hmm2
      obtain ⟨P, hP⟩ : ∃ z, x.fPath = z := ⟨_, rfl⟩
      have HPP : Hid (x.fPath = P) := hP
      obtain ⟨z1, hz1⟩ : ∃ z, x.fSum = z := ⟨_, rfl⟩
      obtain ⟨z3, hz3⟩ : ∃ z, x.fFrom = z := ⟨_, rfl⟩
      obtain ⟨m4, hmm4⟩ : ∃ m, x.fTree.length = m := ⟨_, rfl⟩
      rw [hP] at r0 HPS
      rw [hz1] at r1
      rw [hmm2] at r2 hm2
      rw [hz3] at r3
      rw [hmm4] at r4
      obtain ⟨V, hV⟩ := hts
      have hUl : U < wr.heap.size := hV.row.lt
      have hu0 : wr.cell? ⟨U, i * 5, none⟩ = some (.string (pF ps i i)) := by
        have := hV.row.cell (i := i * 5) (by omega)
        rw [uF_zero] at this
        exact this
      have hf0 : wr.frozen? ⟨U, i * 5, none⟩ = false := hV.row.frozen _
      have hu1 : ∀ ob, (wr.alloc ob).cell? ⟨U, i * 5, none⟩ = some (.string (pF ps i i)) := fun ob => (((Below.refl _ wr).alloc (Nat.le_refl _) ob).cell (p := ⟨U, i * 5, none⟩) hUl).trans hu0
      have hf1 : ∀ ob, (wr.alloc ob).frozen? ⟨U, i * 5, none⟩ = false := fun ob => (hV.row.alloc ob).frozen _
      have hn1 : ¬ U = wr.heap.size := by omega
      have hn2 : ¬ wr.heap.size = U := by omega
      obtain ⟨wo, rfl⟩ : ∃ wo, wo = wr := ⟨_, rfl⟩
      obtain ⟨I, hI⟩ : ∃ I, wo.heap.size = I := ⟨_, rfl⟩
      obtain ⟨C, hC⟩ : ∃ C : Array Value, #[.string P, .string z1, .slice (some ⟨rb, ro, none⟩) m2 c2, .string z3, .slice a4 m4 c4] = C := ⟨_, rfl⟩
      have HT1 : Hid (TuS (U + 1) U n (pF ps (i + 1)) (lK ps i 0 x) ((wo.setCell ⟨U, i * 5, none⟩ (.string P)).alloc (.cells #[.string P, .string z1, .slice (some ⟨rb, ro, none⟩) m2 c2, .string z3, .slice a4 m4 c4] 45))) := by
        rw [lK_zero, ← HPS.out]
        exact ⟨V, (hV.set0 (Nat.lt_succ_self U) i P).below ((Below.refl _ _).alloc (Nat.le_refl _) _)⟩
      have HI1 : Hid (((wo.setCell ⟨U, i * 5, none⟩ (.string P)).alloc (.cells #[.string P, .string z1, .slice (some ⟨rb, ro, none⟩) m2 c2, .string z3, .slice a4 m4 c4] 45)).heap[I]? = some (.cells C 45)) := by
        show _ = _
        have e : (wo.setCell ⟨U, i * 5, none⟩ (.string P)).heap.size = I := by rw [← hI]; simp
        rw [← e, ← hC]
        exact blk_new _ _
      have HB1 : Hid (Below w.heap.size w ((wo.setCell ⟨U, i * 5, none⟩ (.string P)).alloc (.cells #[.string P, .string z1, .slice (some ⟨rb, ro, none⟩) m2 c2, .string z3, .slice a4 m4 c4] 45))) := (HBE.out.setCell hUw _).alloc (HBE.out.setCell hUw _).size _
      have HC0 : Hid (C[0]? = some (.string P)) := by show _ = _; rw [← hC]; rfl
      have hIU : U < I := by omega
      have HIE : Hid (wo.heap.size = I) := hI
      clear hc hrc s2 s4 t2 t4 q0 q1 q2 q3 q4 K hx hxr hbel hmm2 hP hz1 hz3 hmm4 hV hC hI hu0 hf0
      go_wp2
      go_loopw [7, 8, 9, 29] (fun _ _ _ y wr => ∃ k : Nat, k ≤ m2 ∧ y = .int .i64 (k : Int) ∧ TuS (U + 1) U n (pF ps (i + 1)) (lK ps i k x) wr ∧ wr.heap[I]? = some (.cells C 45) ∧ Below w.heap.size w wr) (fun _ _ _ y _ => m2 - (intOf y).toNat)
      case atStart => exact ⟨0, Nat.zero_le _, rfl, HT1.out, HI1.out, HB1.out⟩
      case round =>
        obtain ⟨k, hk, rfl, hts, hib, hbel⟩ := hrel
        have HT2 : Hid (TuS (U + 1) U n (pF ps (i + 1)) (lK ps i k x) wr) := hts
        have HI2 : Hid (wr.heap[I]? = some (.cells C 45)) := hib
        have HB2 : Hid (Below w.heap.size w wr) := hbel
        clear hts hib
        by_cases hkl : k < m2
        · have hkl' : (k : Int) < (m2 : Int) := by omega
          have hk0 : (0 : Int) ≤ (k : Int) := by omega
          obtain ⟨r, hr⟩ : ∃ r, x.fRefs[k]? = some r := ⟨_, List.getElem?_eq_getElem (by rw [HM2.out]; exact hkl)⟩
          have p0 := HRC.out k r hr wr hbel
          have hrr : (refL x)[k]? = some r.data.toList := by unfold refL; rw [List.getElem?_map, hr]; rfl
          obtain ⟨J, hJn, hJr⟩ : ∃ J, J < n ∧ (pB ps J).data.toList = r.data.toList := by
            have h1 := HXR.out.2 _ (List.mem_of_getElem? hrr)
            obtain ⟨J, hJ⟩ := List.getElem?_of_mem h1
            have hJl := (List.getElem?_eq_some_iff.1 hJ).1
            rw [pths_len, HN.out] at hJl
            refine ⟨J, hJl, ?_⟩
            rw [pB_some (List.getElem?_eq_getElem (by rw [HN.out]; exact hJl))]
            have e : (pths ps)[J]? = some (ps[J]'(by rw [HN.out]; exact hJl)).fPath.data.toList := pth_some (List.getElem?_eq_getElem _)
            rw [hJ] at e
            exact (Option.some.inj e).symm
          have HLS : Hid (∀ j, j < n → (if j = J then lK ps i k x J ++ [P] else lK ps i k x j) = lK ps i (k + 1) x j) := fun j hj => by
            rw [← HPP.out]
            exact lK_step hrr HXR.out.1 hJr (fun j' hj' e => HUN.out j' J (by rw [← HN.out]; exact hj') hJn (e.trans hJr.symm)) (by rw [HN.out]; exact hJn) j (by rw [HN.out]; exact hj)
          have HNJ := Lib.hid (HNU.out r J wr HB2.out hJn hJr)
          have hJi : (J : Int) < (n : Int) := by omega
          have hJ0 : (0 : Int) ≤ (J : Int) := by omega
          clear hr hrr hJr hbel
          go_wp2_with (go_at_call 57; refine HNJ.out.mono ?_; rintro e w3 ⟨rfl, hl3⟩; refine Hid.out ?_)
          refine Lib.hid ?_
          have HTd : Hid (TuS (U + 1) U n (pF ps (i + 1)) (lK ps i k x) w3.drew) := (HT2.out.below hl3).below (Below.refl _ _).drew
          have HId : Hid (w3.drew.heap[I]? = some (.cells C 45)) := (hl3.block I (Array.getElem?_eq_some_iff.1 HI2.out).1).trans HI2.out
          have HBd : Hid (Below w.heap.size w w3.drew) := (HB2.out.trans (hl3.mono HB2.out.size)).drew
          have HSd : Hid (w3.drew.heap.size = w3.heap.size) := rfl
          clear hl3 HNJ
          go_wp2_with fail
          refine wp_region_held_drew (S := fun _ => True) (by kernel_rfl) (trivial) (fun hHeld => ?_)
          obtain ⟨wd, hwd⟩ : ∃ z, w3.drew = z := ⟨_, rfl⟩
          rw [hwd] at HTd HId HBd HSd
          rw [hwd]
          clear hwd
          obtain ⟨V, hV⟩ := HTd.out
          have l6 : wd.cell? ⟨U, J * 5 + 2, none⟩ = some (V J) := by
            have := hV.row.cell (i := J * 5 + 2) (by omega)
            rw [uF_two] at this
            exact this
          have l8 : wd.cell? ⟨wo.heap.size, 0, none⟩ = some (.string P) := by
            rw [HIE.out]
            simp only [World.cell?, HId.out]
            exact HC0.out
          have hVa : TuV (U + 1) U n (pF ps (i + 1)) (lK ps i k x) V (wd.alloc (.cells #[.string P] 9)) := hV.below ((Below.refl _ _).alloc (Nat.le_refl _) _)
          have m6 : (wd.alloc (.cells #[.string P] 9)).cell? ⟨U, J * 5 + 2, none⟩ = some (V J) := by
            have := hVa.row.cell (i := J * 5 + 2) (by omega)
            rw [uF_two] at this
            exact this
          obtain ⟨_, W6, hap, ⟨a6, l6, c6, rfl⟩, hrow6, ht6, hb6, hi6⟩ := hVa.grow (Nat.lt_succ_self U) hJn (P := P) (ad := ⟨wd.heap.size, 0, none⟩) (by rw [World.cell?_alloc_new]; rfl) (by have := hV.row.lt; simp; omega) (by have := lK_len ps i k x J; have := HN.out; omega)
          have c7 : W6.cell? ⟨U, J * 5 + 2, none⟩ = some (V J) := by
            have := hrow6.cell (i := J * 5 + 2) (by omega)
            rw [uF_two] at this
            exact this
          have q7 : W6.frozen? ⟨U, J * 5 + 2, none⟩ = false := hrow6.frozen _
          have HT6 : Hid (TuS (U + 1) U n (pF ps (i + 1)) (lK ps i (k + 1) x) (W6.setCell ⟨U, J * 5 + 2, none⟩ (.slice a6 l6 c6))) := ht6.congr HLS.out
          have HI6 : Hid ((W6.setCell ⟨U, J * 5 + 2, none⟩ (.slice a6 l6 c6)).heap[I]? = some (.cells C 45)) := hi6 I C (by rw [← HId.out]; exact ((Below.refl _ wd).alloc (Nat.le_refl _) _).block I (Array.getElem?_eq_some_iff.1 HId.out).1) (by omega)
          have HB6 : Hid (Below w.heap.size w (W6.setCell ⟨U, J * 5 + 2, none⟩ (.slice a6 l6 c6))) := (HBd.out.alloc HBd.out.size _).trans (hb6 w.heap.size hUw (HBd.out.alloc HBd.out.size _).size)
          clear hV hVa hrow6 ht6 hb6 hi6 HLS
          refine wpAnyH_take (i := 0) (oi := ⟨some 39, .move (.tmp 3), 26, "l12_store.go:181", #[], none⟩) (v := ?v1) rfl (by kernel_rfl) (by kernel_rfl) (by kernel_rfl) (fun _ _ _ h => h) (Or.inl ⟨by rfl, ?hy1⟩) (by assumption) ?r1
          case hy1 => (intro w hSw; (try dsimp only at hSw); go_simp; try with_reducible rfl)
          try simp only [Act.put, List.setIfInBounds_toArray, List.set_cons_zero, List.set_cons_succ]
          refine wpAnyH_take (i := 1) (oi := ⟨some 40, .move (.tmp 8), 3, "l12_store.go:181", #[], none⟩) (v := ?v2) rfl (by kernel_rfl) (by kernel_rfl) (by kernel_rfl) (fun _ _ _ h => h) (Or.inl ⟨by rfl, ?hy2⟩) (by assumption) ?r2
          case hy2 => (intro w hSw; (try dsimp only at hSw); go_simp; try with_reducible rfl)
          try simp only [Act.put, List.setIfInBounds_toArray, List.set_cons_zero, List.set_cons_succ]
          refine wpAnyH_take (i := 2) (oi := ⟨some 41, .move (.tmp 3), 26, "l12_store.go:181", #[], none⟩) (v := ?v3) rfl (by kernel_rfl) (by kernel_rfl) (by kernel_rfl) (fun _ _ _ h => h) (Or.inl ⟨by rfl, ?hy3⟩) (by assumption) ?r3
          case hy3 => (intro w hSw; (try dsimp only at hSw); go_simp; try with_reducible rfl)
          try simp only [Act.put, List.setIfInBounds_toArray, List.set_cons_zero, List.set_cons_succ]
          refine wpAnyH_take (i := 3) (oi := ⟨some 42, .move (.tmp 8), 3, "l12_store.go:181", #[], none⟩) (v := ?v4) rfl (by kernel_rfl) (by kernel_rfl) (by kernel_rfl) (fun _ _ _ h => h) (Or.inl ⟨by rfl, ?hy4⟩) (by assumption) ?r4
          case hy4 => (intro w hSw; (try dsimp only at hSw); go_simp; try with_reducible rfl)
          try simp only [Act.put, List.setIfInBounds_toArray, List.set_cons_zero, List.set_cons_succ]
          refine wpAnyH_take (i := 4) (oi := ⟨some 43, .indexAddr 26 (.tmp 41) (.tmp 42), 0, "l12_store.go:181", #[⟨2, .data⟩, ⟨3, .data⟩], none⟩) (v := ?v5) rfl (by kernel_rfl) (by kernel_rfl) (by kernel_rfl) (fun _ _ _ h => h) (Or.inl ⟨by rfl, ?hy5⟩) (by assumption) ?r5
          case hy5 => (intro w hSw; (try dsimp only at hSw); go_simp; try with_reducible rfl)
          try simp only [Act.put, List.setIfInBounds_toArray, List.set_cons_zero, List.set_cons_succ]
          refine wpAnyH_take (i := 5) (oi := ⟨some 44, .fieldAddr 45 (.tmp 43) 2, 0, "l12_store.go:181", #[⟨4, .data⟩], none⟩) (v := ?v6) rfl (by kernel_rfl) (by kernel_rfl) (by kernel_rfl) (fun _ _ _ h => h) (Or.inl ⟨by rfl, ?hy6⟩) (by assumption) ?r6
          case hy6 => (intro w hSw; (try dsimp only at hSw); go_simp; try with_reducible rfl)
          try simp only [Act.put, List.setIfInBounds_toArray, List.set_cons_zero, List.set_cons_succ]
          refine wpAnyH_take (i := 7) (oi := ⟨some 46, .fieldAddr 45 (.tmp 5) 0, 0, "l12_store.go:181", #[], none⟩) (v := ?v7) rfl (by kernel_rfl) (by kernel_rfl) (by kernel_rfl) (fun _ _ _ h => h) (Or.inl ⟨by rfl, ?hy7⟩) (by assumption) ?r7
          case hy7 => (intro w hSw; (try dsimp only at hSw); go_simp; try with_reducible rfl)
          try simp only [Act.put, List.setIfInBounds_toArray, List.set_cons_zero, List.set_cons_succ]
          refine wpAnyH_ready (rs := [6, 8]) (by kernel_rfl) (by simp) ?_
          refine AllReadyH.cons (o := ⟨some 45, .load 24 (.tmp 44), 24, "l12_store.go:181", #[⟨5, .data⟩], none⟩) rfl (fun K hK => ?_) (AllReadyH.cons (o := ⟨some 47, .load 9 (.tmp 46), 9, "l12_store.go:181", #[⟨7, .data⟩], none⟩) rfl (fun K hK => ?_) AllReadyH.nil)
          · go_simp
            skip
            try go_wp2_with fail
            refine hK.out _ _ trivial (fun hHeld => ?_)
            clear hK K
            try simp only [Act.put, List.setIfInBounds_toArray, List.set_cons_zero, List.set_cons_succ]
            refine wpAnyH_ready (rs := [8]) (by kernel_rfl) (by simp) ?_
            refine AllReadyH.cons (o := ⟨some 47, .load 9 (.tmp 46), 9, "l12_store.go:181", #[⟨7, .data⟩], none⟩) rfl (fun K hK => ?_) AllReadyH.nil
            go_simp
            skip
            try go_wp2_with fail
            refine hK.out _ _ (trivial) (fun hHeld => ?_)
            clear hK K
            try simp only [Act.put, List.setIfInBounds_toArray, List.set_cons_zero, List.set_cons_succ]
            refine wpAnyH_ready (rs := [9]) (by kernel_rfl) (by simp) ?_
            refine AllReadyH.cons (o := ⟨some 48, .buildSlice 24 1 #[(0, .tmp 47)], 24, "l12_store.go:181", #[⟨8, .data⟩], none⟩) rfl (fun K hK => ?_) AllReadyH.nil
            go_simp
            skip
            try go_wp2_with fail
            refine hK.out _ _ (trivial) (fun hHeld => ?_)
            clear hK K
            try simp only [Act.put, List.setIfInBounds_toArray, List.set_cons_zero, List.set_cons_succ]
            refine wpAnyH_ready (rs := [10]) (by kernel_rfl) (by simp) ?_
            refine AllReadyH.cons (o := ⟨some 49, .call { callee := .builtin .append, args := #[.tmp 45, .tmp 48], argTypes := #[24, 24] }, 24, "l12_store.go:181", #[⟨6, .data⟩, ⟨9, .data⟩], none⟩) rfl (fun K hK => ?_) AllReadyH.nil
            refine wp_appS _ _ rfl rfl rfl rfl hap ?_
            try go_wp2_with fail
            refine hK.out _ _ (trivial) (fun hHeld => ?_)
            clear hK K
            try simp only [Act.put, List.setIfInBounds_toArray, List.set_cons_zero, List.set_cons_succ]
            refine wpAnyH_take (i := 11) (oi := ⟨some 50, .indexAddr 26 (.tmp 39) (.tmp 40), 0, "l12_store.go:181", #[⟨0, .data⟩, ⟨1, .data⟩, ⟨0, .phase⟩, ⟨1, .phase⟩, ⟨2, .phase⟩, ⟨3, .phase⟩, ⟨4, .phase⟩, ⟨5, .phase⟩, ⟨6, .phase⟩, ⟨7, .phase⟩, ⟨8, .phase⟩, ⟨9, .phase⟩, ⟨10, .phase⟩], none⟩) (v := ?v8) rfl (by kernel_rfl) (by kernel_rfl) (by kernel_rfl) (fun _ _ _ h => h) (Or.inl ⟨by rfl, ?hy8⟩) (by assumption) ?r8
            case hy8 => (intro w hSw; (try dsimp only at hSw); go_simp; try with_reducible rfl)
            try simp only [Act.put, List.setIfInBounds_toArray, List.set_cons_zero, List.set_cons_succ]
            refine wpAnyH_take (i := 12) (oi := ⟨some 51, .fieldAddr 45 (.tmp 50) 2, 0, "l12_store.go:181", #[⟨11, .data⟩, ⟨0, .phase⟩, ⟨1, .phase⟩, ⟨2, .phase⟩, ⟨3, .phase⟩, ⟨4, .phase⟩, ⟨5, .phase⟩, ⟨6, .phase⟩, ⟨7, .phase⟩, ⟨8, .phase⟩, ⟨9, .phase⟩, ⟨10, .phase⟩], none⟩) (v := ?v9) rfl (by kernel_rfl) (by kernel_rfl) (by kernel_rfl) (fun _ _ _ h => h) (Or.inl ⟨by rfl, ?hy9⟩) (by assumption) ?r9
            case hy9 => (intro w hSw; (try dsimp only at hSw); go_simp; try with_reducible rfl)
            try simp only [Act.put, List.setIfInBounds_toArray, List.set_cons_zero, List.set_cons_succ]
            refine wpAnyH_ready (rs := [13]) (by kernel_rfl) (by simp) ?_
            refine AllReadyH.cons (o := ⟨none, .store 24 (.tmp 51) (.tmp 49), 0, "l12_store.go:181", #[⟨12, .data⟩, ⟨10, .data⟩, ⟨10, .chain⟩, ⟨0, .phase⟩, ⟨1, .phase⟩, ⟨2, .phase⟩, ⟨3, .phase⟩, ⟨4, .phase⟩, ⟨5, .phase⟩, ⟨6, .phase⟩, ⟨7, .phase⟩, ⟨8, .phase⟩, ⟨9, .phase⟩, ⟨10, .phase⟩], none⟩) rfl (fun K hK => ?_) AllReadyH.nil
            go_simp
            skip
            try go_wp2_with fail
            refine hK.out _ _ (trivial) (fun hHeld => ?_)
            clear hK K
            try simp only [Act.put, List.setIfInBounds_toArray, List.set_cons_zero, List.set_cons_succ]
            refine wpAnyH_done (by kernel_rfl) ?_ _
            go_wp2
            go_roundw
            case rel => exact ⟨k + 1, by omega, by go_num, HT6.out, HI6.out, HB6.out⟩
            case measure => simp [intOf]; omega
          · go_simp
            skip
            try go_wp2_with fail
            refine hK.out _ _ trivial (fun hHeld => ?_)
            clear hK K
            try simp only [Act.put, List.setIfInBounds_toArray, List.set_cons_zero, List.set_cons_succ]
            refine wpAnyH_ready (rs := [6, 9]) (by kernel_rfl) (by simp) ?_
            refine AllReadyH.cons (o := ⟨some 45, .load 24 (.tmp 44), 24, "l12_store.go:181", #[⟨5, .data⟩], none⟩) rfl (fun K hK => ?_) (AllReadyH.cons (o := ⟨some 48, .buildSlice 24 1 #[(0, .tmp 47)], 24, "l12_store.go:181", #[⟨8, .data⟩], none⟩) rfl (fun K hK => ?_) AllReadyH.nil)
            · go_simp
              skip
              try go_wp2_with fail
              refine hK.out _ _ trivial (fun hHeld => ?_)
              clear hK K
              try simp only [Act.put, List.setIfInBounds_toArray, List.set_cons_zero, List.set_cons_succ]
              refine wpAnyH_ready (rs := [9]) (by kernel_rfl) (by simp) ?_
              refine AllReadyH.cons (o := ⟨some 48, .buildSlice 24 1 #[(0, .tmp 47)], 24, "l12_store.go:181", #[⟨8, .data⟩], none⟩) rfl (fun K hK => ?_) AllReadyH.nil
              go_simp
              skip
              try go_wp2_with fail
              refine hK.out _ _ (trivial) (fun hHeld => ?_)
              clear hK K
              try simp only [Act.put, List.setIfInBounds_toArray, List.set_cons_zero, List.set_cons_succ]
              refine wpAnyH_ready (rs := [10]) (by kernel_rfl) (by simp) ?_
              refine AllReadyH.cons (o := ⟨some 49, .call { callee := .builtin .append, args := #[.tmp 45, .tmp 48], argTypes := #[24, 24] }, 24, "l12_store.go:181", #[⟨6, .data⟩, ⟨9, .data⟩], none⟩) rfl (fun K hK => ?_) AllReadyH.nil
              refine wp_appS _ _ rfl rfl rfl rfl hap ?_
              try go_wp2_with fail
              refine hK.out _ _ (trivial) (fun hHeld => ?_)
              clear hK K
              try simp only [Act.put, List.setIfInBounds_toArray, List.set_cons_zero, List.set_cons_succ]
              refine wpAnyH_take (i := 11) (oi := ⟨some 50, .indexAddr 26 (.tmp 39) (.tmp 40), 0, "l12_store.go:181", #[⟨0, .data⟩, ⟨1, .data⟩, ⟨0, .phase⟩, ⟨1, .phase⟩, ⟨2, .phase⟩, ⟨3, .phase⟩, ⟨4, .phase⟩, ⟨5, .phase⟩, ⟨6, .phase⟩, ⟨7, .phase⟩, ⟨8, .phase⟩, ⟨9, .phase⟩, ⟨10, .phase⟩], none⟩) (v := ?v10) rfl (by kernel_rfl) (by kernel_rfl) (by kernel_rfl) (fun _ _ _ h => h) (Or.inl ⟨by rfl, ?hy10⟩) (by assumption) ?r10
              case hy10 => (intro w hSw; (try dsimp only at hSw); go_simp; try with_reducible rfl)
              try simp only [Act.put, List.setIfInBounds_toArray, List.set_cons_zero, List.set_cons_succ]
              refine wpAnyH_take (i := 12) (oi := ⟨some 51, .fieldAddr 45 (.tmp 50) 2, 0, "l12_store.go:181", #[⟨11, .data⟩, ⟨0, .phase⟩, ⟨1, .phase⟩, ⟨2, .phase⟩, ⟨3, .phase⟩, ⟨4, .phase⟩, ⟨5, .phase⟩, ⟨6, .phase⟩, ⟨7, .phase⟩, ⟨8, .phase⟩, ⟨9, .phase⟩, ⟨10, .phase⟩], none⟩) (v := ?v11) rfl (by kernel_rfl) (by kernel_rfl) (by kernel_rfl) (fun _ _ _ h => h) (Or.inl ⟨by rfl, ?hy11⟩) (by assumption) ?r11
              case hy11 => (intro w hSw; (try dsimp only at hSw); go_simp; try with_reducible rfl)
              try simp only [Act.put, List.setIfInBounds_toArray, List.set_cons_zero, List.set_cons_succ]
              refine wpAnyH_ready (rs := [13]) (by kernel_rfl) (by simp) ?_
              refine AllReadyH.cons (o := ⟨none, .store 24 (.tmp 51) (.tmp 49), 0, "l12_store.go:181", #[⟨12, .data⟩, ⟨10, .data⟩, ⟨10, .chain⟩, ⟨0, .phase⟩, ⟨1, .phase⟩, ⟨2, .phase⟩, ⟨3, .phase⟩, ⟨4, .phase⟩, ⟨5, .phase⟩, ⟨6, .phase⟩, ⟨7, .phase⟩, ⟨8, .phase⟩, ⟨9, .phase⟩, ⟨10, .phase⟩], none⟩) rfl (fun K hK => ?_) AllReadyH.nil
              go_simp
              skip
              try go_wp2_with fail
              refine hK.out _ _ (trivial) (fun hHeld => ?_)
              clear hK K
              try simp only [Act.put, List.setIfInBounds_toArray, List.set_cons_zero, List.set_cons_succ]
              refine wpAnyH_done (by kernel_rfl) ?_ _
              go_wp2
              go_roundw
              case rel => exact ⟨k + 1, by omega, by go_num, HT6.out, HI6.out, HB6.out⟩
              case measure => simp [intOf]; omega
            · go_simp
              skip
              try go_wp2_with fail
              refine hK.out _ _ trivial (fun hHeld => ?_)
              clear hK K
              try simp only [Act.put, List.setIfInBounds_toArray, List.set_cons_zero, List.set_cons_succ]
              refine wpAnyH_ready (rs := [6]) (by kernel_rfl) (by simp) ?_
              refine AllReadyH.cons (o := ⟨some 45, .load 24 (.tmp 44), 24, "l12_store.go:181", #[⟨5, .data⟩], none⟩) rfl (fun K hK => ?_) AllReadyH.nil
              go_simp
              skip
              try go_wp2_with fail
              refine hK.out _ _ (trivial) (fun hHeld => ?_)
              clear hK K
              try simp only [Act.put, List.setIfInBounds_toArray, List.set_cons_zero, List.set_cons_succ]
              refine wpAnyH_ready (rs := [10]) (by kernel_rfl) (by simp) ?_
              refine AllReadyH.cons (o := ⟨some 49, .call { callee := .builtin .append, args := #[.tmp 45, .tmp 48], argTypes := #[24, 24] }, 24, "l12_store.go:181", #[⟨6, .data⟩, ⟨9, .data⟩], none⟩) rfl (fun K hK => ?_) AllReadyH.nil
              refine wp_appS _ _ rfl rfl rfl rfl hap ?_
              try go_wp2_with fail
              refine hK.out _ _ (trivial) (fun hHeld => ?_)
              clear hK K
              try simp only [Act.put, List.setIfInBounds_toArray, List.set_cons_zero, List.set_cons_succ]
              refine wpAnyH_take (i := 11) (oi := ⟨some 50, .indexAddr 26 (.tmp 39) (.tmp 40), 0, "l12_store.go:181", #[⟨0, .data⟩, ⟨1, .data⟩, ⟨0, .phase⟩, ⟨1, .phase⟩, ⟨2, .phase⟩, ⟨3, .phase⟩, ⟨4, .phase⟩, ⟨5, .phase⟩, ⟨6, .phase⟩, ⟨7, .phase⟩, ⟨8, .phase⟩, ⟨9, .phase⟩, ⟨10, .phase⟩], none⟩) (v := ?v12) rfl (by kernel_rfl) (by kernel_rfl) (by kernel_rfl) (fun _ _ _ h => h) (Or.inl ⟨by rfl, ?hy12⟩) (by assumption) ?r12
              case hy12 => (intro w hSw; (try dsimp only at hSw); go_simp; try with_reducible rfl)
              try simp only [Act.put, List.setIfInBounds_toArray, List.set_cons_zero, List.set_cons_succ]
              refine wpAnyH_take (i := 12) (oi := ⟨some 51, .fieldAddr 45 (.tmp 50) 2, 0, "l12_store.go:181", #[⟨11, .data⟩, ⟨0, .phase⟩, ⟨1, .phase⟩, ⟨2, .phase⟩, ⟨3, .phase⟩, ⟨4, .phase⟩, ⟨5, .phase⟩, ⟨6, .phase⟩, ⟨7, .phase⟩, ⟨8, .phase⟩, ⟨9, .phase⟩, ⟨10, .phase⟩], none⟩) (v := ?v13) rfl (by kernel_rfl) (by kernel_rfl) (by kernel_rfl) (fun _ _ _ h => h) (Or.inl ⟨by rfl, ?hy13⟩) (by assumption) ?r13
              case hy13 => (intro w hSw; (try dsimp only at hSw); go_simp; try with_reducible rfl)
              try simp only [Act.put, List.setIfInBounds_toArray, List.set_cons_zero, List.set_cons_succ]
              refine wpAnyH_ready (rs := [13]) (by kernel_rfl) (by simp) ?_
              refine AllReadyH.cons (o := ⟨none, .store 24 (.tmp 51) (.tmp 49), 0, "l12_store.go:181", #[⟨12, .data⟩, ⟨10, .data⟩, ⟨10, .chain⟩, ⟨0, .phase⟩, ⟨1, .phase⟩, ⟨2, .phase⟩, ⟨3, .phase⟩, ⟨4, .phase⟩, ⟨5, .phase⟩, ⟨6, .phase⟩, ⟨7, .phase⟩, ⟨8, .phase⟩, ⟨9, .phase⟩, ⟨10, .phase⟩], none⟩) rfl (fun K hK => ?_) AllReadyH.nil
              go_simp
              skip
              try go_wp2_with fail
              refine hK.out _ _ (trivial) (fun hHeld => ?_)
              clear hK K
              try simp only [Act.put, List.setIfInBounds_toArray, List.set_cons_zero, List.set_cons_succ]
              refine wpAnyH_done (by kernel_rfl) ?_ _
              go_wp2
              go_roundw
              case rel => exact ⟨k + 1, by omega, by go_num, HT6.out, HI6.out, HB6.out⟩
              case measure => simp [intOf]; omega
        · have hkl' : ¬ (k : Int) < (m2 : Int) := by omega
          obtain rfl : k = m2 := by omega
          have HT3 : Hid (TuS (U + 1) U n (pF ps (i + 1)) (lF ps (i + 1)) wr) := by
            show TuS _ _ _ _ _ _
            rw [← lK_all ps HXX.out (k := k) (by unfold refL; rw [List.length_map, HM2.out]; exact Nat.le_refl _)]
            exact HT2.out
          clear hbel
          go_wp2
          go_roundw
          case rel => exact ⟨i + 1, by omega, by go_num, HT3.out, HB2.out⟩
          case measure => simp [intOf]; omega
    · have hil' : ¬ (i : Int) < (n : Int) := by omega
      obtain rfl : i = n := by omega
      clear hbel hts
      go_wp2
      go_ret
      exact ⟨rfl, HTS.out, by rw [← HUU.out]; exact HBE.out⟩

end Go.Proofs.YtddnhnpfcelicaaGreatDoor.so

namespace Go.Proofs.YtddnhnpfcelicaaGreatDoor.so
open Go.ChangeShapes Go.WideShapes Go.ChangeAt Go.RowKit Go.Deep Go.Shelf Go.Maps
set_option linter.unusedVariables false
set_option linter.unusedSimpArgs false

/-! ### UsedBy: turned round, plainly; the program -/

theorem st_refs {ps : List ty.It} (h : stB ps = true) : (∀ (i j : Nat) (x y : ty.It), j < i → ps[j]? = some y → ps[i]? = some x → y.fPath.data.toList < x.fPath.data.toList) ∧ ∀ x ∈ ps, (refL x).Nodup ∧ ∀ r ∈ refL x, r ∈ pths ps := by
  unfold stB at h
  simp only [Bool.and_eq_true, decide_eq_true_eq, List.all_eq_true] at h
  obtain ⟨h1, h2, h3⟩ := h
  refine ⟨fun i j x y hj hy hx => asc_lt h2 i j x y hj hy hx, fun x hx => ?_⟩
  have h4 := h3 x hx
  unfold itB itP at h4
  simp only [Bool.and_eq_true] at h4
  have h5 : refL x = rf.rfs (enT x.fTree) x.fTree.length (pths ps) := of_decide_eq_true h4.2.2.2.2
  rw [h5]
  unfold rf.rfs
  have ha : (sr.adr (pths ps)).Nodup := sr.asc_nodup (sr.fold_asc _ [] List.Pairwise.nil)
  refine ⟨ha.sublist (List.filter_sublist ..), fun r hr => ?_⟩
  have h6 := (List.mem_filter.1 hr).1
  unfold sr.adr at h6
  rw [sr.fold_mem] at h6
  simp only [List.not_mem_nil, false_or] at h6
  exact (List.mem_filter.1 h6).1

theorem usL_len (ps : List ty.It) : (usL ps).length = ps.length := by simp [usL]
theorem usL_at {ps : List ty.It} {j : Nat} {u : ty.It} (h : (usL ps)[j]? = some u) : j < ps.length ∧ u = ⟨pB ps j, ⟨#[]⟩, lF ps ps.length j, ⟨#[]⟩, []⟩ := by
  have hj := (List.getElem?_eq_some_iff.1 h).1
  rw [usL_len] at hj
  refine ⟨hj, ?_⟩
  unfold usL at h
  rw [List.getElem?_map, List.getElem?_range hj] at h
  exact (Option.some.inj h).symm
theorem usL_pths (ps : List ty.It) : pths (usL ps) = pths ps := by
  unfold pths usL
  rw [List.map_map]
  apply List.ext_getElem?
  intro j
  rw [List.getElem?_map, List.getElem?_map]
  by_cases hj : j < ps.length
  · rw [List.getElem?_range hj, List.getElem?_eq_getElem hj]
    simp [pB, List.getElem?_eq_getElem hj]
  · rw [List.getElem?_eq_none (by simpa using hj), List.getElem?_eq_none (by simpa using hj)]
    rfl
theorem lF_mem {ps : List ty.It} {j : Nat} {z : ByteArray} : z ∈ lF ps ps.length j ↔ ∃ x ∈ ps, x.fPath = z ∧ (pB ps j).data.toList ∈ refL x := by
  unfold lF
  rw [List.take_length, List.mem_map]
  constructor
  · rintro ⟨x, hx, e⟩
    have := List.mem_filter.1 hx
    exact ⟨x, this.1, e, by simpa using this.2⟩
  · rintro ⟨x, hx, e, h⟩
    exact ⟨x, List.mem_filter.2 ⟨hx, by simpa using h⟩, e⟩
theorem gI_some {ps : List ty.It} {p : List UInt8} {r : List (List UInt8)} (h : gI ps p = some r) : ∃ x ∈ ps, x.fPath.data.toList = p ∧ r = refL x := by
  unfold gI at h
  obtain ⟨x, hx, rfl⟩ := Option.map_eq_some_iff.1 h
  exact ⟨x, List.mem_of_find?_eq_some hx, by simpa using List.find?_some hx, rfl⟩

/-- The two graphs. -/
theorem us_turn {ps : List ty.It} (h : stB ps = true) (hw : ∀ x ∈ ps, x.fRefs.length ≤ 300) (t q : List UInt8) : Rch (gI (usL ps)) t q ↔ Rch (gI ps) q t := by
  obtain ⟨hasc, hrf⟩ := st_refs h
  have hdom : ∀ p, gI ps p ≠ none ↔ p ∈ pths ps := fun p => ⟨gI_mem, gI_yes⟩
  have hdomU : ∀ p, gI (usL ps) p ≠ none ↔ p ∈ pths ps := fun p => ⟨fun h => by rw [← usL_pths]; exact gI_mem h, fun h => gI_yes (by rw [usL_pths]; exact h)⟩
  have hone : ∀ x ∈ ps, ∀ y ∈ ps, x.fPath.data.toList = y.fPath.data.toList → x = y := fun x hx y hy e => by
    obtain ⟨i, hi⟩ := List.getElem?_of_mem hx
    obtain ⟨j, hj⟩ := List.getElem?_of_mem hy
    rcases Nat.lt_trichotomy i j with h1 | h1 | h1
    · have := hasc j i y x h1 hi hj
      rw [e] at this
      exact absurd this (List.lt_irrefl _)
    · subst h1
      rw [hi] at hj
      exact Option.some.inj hj
    · have := hasc i j x y h1 hj hi
      rw [e] at this
      exact absurd this (List.lt_irrefl _)
  constructor
  · intro hr
    refine rch_turn (g := gI (usL ps)) (h := gI ps) (fun p hp => (hdom p).2 ((hdomU p).1 hp)) (fun p q r hg hq hd => ?_) hr
    obtain ⟨u, hu, hup, rfl⟩ := gI_some hg
    obtain ⟨j, hj⟩ := List.getElem?_of_mem hu
    obtain ⟨hjn, rfl⟩ := usL_at hj
    unfold refL at hq
    obtain ⟨z, hz, rfl⟩ := List.mem_map.1 hq
    obtain ⟨x, hx, hxz, hpx⟩ := lF_mem.1 hz
    obtain ⟨r', hr'⟩ : ∃ r', gI ps z.data.toList = some r' := by
      cases e : gI ps z.data.toList with
      | none => exact absurd e ((hdom _).2 ((hdomU _).1 hd))
      | some r' => exact ⟨r', rfl⟩
    obtain ⟨y, hy, hyz, rfl⟩ := gI_some hr'
    have : y = x := hone y hy x hx (by rw [hyz, hxz])
    subst this
    refine ⟨_, hr', ?_⟩
    have e : (pB ps j).data.toList = p := hup
    rw [← e]
    exact hpx
  · intro hr
    refine rch_turn (g := gI ps) (h := gI (usL ps)) (fun p hp => (hdomU p).2 ((hdom p).1 hp)) (fun p q r hg hq hd => ?_) hr
    obtain ⟨x, hx, hxp, rfl⟩ := gI_some hg
    obtain ⟨r', hr'⟩ : ∃ r', gI (usL ps) q = some r' := by
      cases e : gI (usL ps) q with
      | none => exact absurd e ((hdomU _).2 ((hdom _).1 hd))
      | some r' => exact ⟨r', rfl⟩
    obtain ⟨u, hu, huq, rfl⟩ := gI_some hr'
    obtain ⟨j, hj⟩ := List.getElem?_of_mem hu
    obtain ⟨hjn, rfl⟩ := usL_at hj
    refine ⟨_, hr', ?_⟩
    unfold refL
    refine List.mem_map.2 ⟨x.fPath, lF_mem.2 ⟨x, hx, rfl, ?_⟩, hxp⟩
    have e : (pB ps j).data.toList = q := huq
    rw [e]
    exact hq

theorem us_refs {ps : List ty.It} (hn : ps.length ≤ 300) : ∀ u ∈ usL ps, u.fRefs.length ≤ 300 := fun u hu => by
  obtain ⟨j, hj⟩ := List.getElem?_of_mem hu
  obtain ⟨_, rfl⟩ := usL_at hj
  have := lF_len ps ps.length j
  show (lF ps ps.length j).length ≤ 300
  omega

theorem use_eq {ps : List ty.It} (h : stB ps = true) (t : List UInt8) : (fin (gI (usL ps)) [t]).foldl sr.fadd [] = useA ps t := by
  have h3 := st_facts h
  have hw := h3.2.2
  have hm : ∀ q, q ∈ fin (gI (usL ps)) [t] ↔ Rch (gI (usL ps)) t q := fun q => by
    rw [clo_iff (usL ps) (us_refs h3.1) [t] q]
    simp
  have hasc : sr.asc (pths ps) := by
    unfold sr.asc
    rw [List.pairwise_iff_getElem]
    intro i j hi hj hij
    have hi' : i < ps.length := by rw [pths_len] at hi; exact hi
    have hj' : j < ps.length := by rw [pths_len] at hj; exact hj
    have h4 := (st_refs h).1 j i ps[j] ps[i] hij (List.getElem?_eq_getElem hi') (List.getElem?_eq_getElem hj')
    have e1 : (pths ps)[i] = ps[i].fPath.data.toList := by simp [pths]
    have e2 : (pths ps)[j] = ps[j].fPath.data.toList := by simp [pths]
    rw [e1, e2]
    exact h4
  unfold useA
  by_cases ht : t ∈ pths ps
  · rw [if_pos ⟨h, ht⟩]
    refine sr.asc_ext (sr.fold_asc _ [] List.Pairwise.nil) ?_ fun q => ?_
    · unfold sr.asc at hasc ⊢
      exact hasc.sublist (List.filter_sublist ..)
    · rw [sr.fold_mem]
      simp only [List.not_mem_nil, false_or, List.mem_filter, decide_eq_true_eq]
      rw [hm, us_turn h hw, clo_iff ps hw [q] t]
      simp only [List.mem_singleton, exists_eq_left]
      exact ⟨fun hr => ⟨gI_mem hr.dom, hr⟩, fun hr => hr.2⟩
  · rw [if_neg (fun e => ht e.2)]
    have : fin (gI (usL ps)) [t] = [] := by
      refine List.eq_nil_iff_forall_not_mem.2 fun q hq => ht ?_
      have := gI_mem ((hm q).1 hq).dom
      rwa [usL_pths] at this
    rw [this]
    rfl

/-- The turned store, as it can be read. -/
theorem TuS.read {U : Nat} {ps : List ty.It} {w : World} (h : TuS (U + 1) U ps.length (pF ps ps.length) (lF ps ps.length) w) : RdI w (some ⟨U, 0, none⟩) (usL ps) := by
  obtain ⟨V, hV⟩ := h
  refine ⟨U, 0, rfl, fun j u hu => ?_⟩
  obtain ⟨hj, rfl⟩ := usL_at hu
  have hc : ∀ m, m < 5 → w.cell? ⟨U, 0 + j * 5 + m, none⟩ = some (uF (pF ps ps.length) V (j * 5 + m)) := fun m hm => by
    rw [Nat.zero_add]
    exact hV.row.cell (by omega)
  have e0 : uF (pF ps ps.length) V (j * 5 + 0) = .string (pB ps j) := by
    rw [Nat.add_zero, uF_zero]
    unfold pF
    rw [if_pos hj]
  have e1 : uF (pF ps ps.length) V (j * 5 + 1) = .string ⟨#[]⟩ := by unfold uF; rw [if_neg (by omega), if_neg (by omega), if_neg (by omega)]
  have e2 : uF (pF ps ps.length) V (j * 5 + 2) = V j := uF_two _ _ _
  have e3 : uF (pF ps ps.length) V (j * 5 + 3) = .string ⟨#[]⟩ := by unfold uF; rw [if_neg (by omega), if_neg (by omega), if_neg (by omega)]
  have e4 : uF (pF ps ps.length) V (j * 5 + 4) = .slice none 0 0 := by unfold uF; rw [if_neg (by omega), if_neg (by omega), if_pos (by omega)]
  have c0 := hc 0 (by omega)
  have c1 := hc 1 (by omega)
  have c2 := hc 2 (by omega)
  have c3 := hc 3 (by omega)
  have c4 := hc 4 (by omega)
  rw [e0] at c0
  rw [e1] at c1
  rw [e2] at c2
  rw [e3] at c3
  rw [e4] at c4
  obtain ⟨hl, ho⟩ := hV.own j hj
  rcases ho with ⟨ev, h0⟩ | ⟨g, cap, cur, ev, hb, hg, hnc, hcm, hcs, htk⟩
  · rw [ev] at c2
    have hz : lF ps ps.length j = [] := by
      apply List.eq_nil_of_length_eq_zero
      omega
    refine ⟨none, 0, none, 0, c0, c1, ?_, c3, c4, .inl ⟨rfl, rfl, hz⟩⟩
    show w.cell? _ = some (.slice none (lF ps ps.length j).length 0)
    rw [hz]
    exact c2
  · rw [ev] at c2
    refine ⟨some ⟨g, 0, none⟩, cap, none, 0, c0, c1, c2, c3, c4, .inr ⟨g, 0, rfl, fun i z hz => ?_⟩⟩
    have hi := (List.getElem?_eq_some_iff.1 hz).1
    have h1 : (cur.toList.take ((lF ps ps.length j).length * 1))[i]? = some (.string z) := by rw [htk, List.getElem?_map, hz]; rfl
    rw [Nat.mul_one, List.getElem?_take_of_lt hi, Array.getElem?_toList] at h1
    simp [World.cell?, hg, h1]

set_option maxRecDepth 100000 in
set_option maxHeartbeats 4000000 in
theorem iuse_any (lo : Nat) (a : Option Addr) (c : Nat) (ps : List ty.It) (t : ByteArray) (w : World) (hb : ty.SrcIt (some lo) w a ps) (hw : ty.wtIt ps ≤ 1048576) (ht : t.size ≤ 1048576) (hM : tt.ML w) (hT : wd.TabB w) :
    Calls Tryz.prog 20 #[.slice a ps.length c, .string t] w fun e w' => (∃ v, e = .returned v ∧ sr.OwnS w.heap.size w' v (useA ps t.data.toList)) ∧ Below w.heap.size w w' := by
  have HSO : Hid (Calls Tryz.prog 32 #[.slice a ps.length c] w fun e w' => e = .returned (.bool (stB ps)) ∧ Below w.heap.size w w') := istore_any lo a c ps w hb hw hM hT
  have HTU : Hid (stB ps = true → ∀ W, Below w.heap.size w W → Calls Tryz.prog 35 #[.slice a ps.length c] W fun e w' => e = .returned (.slice (some ⟨W.heap.size, 0, none⟩) ps.length ps.length) ∧ TuS (W.heap.size + 1) W.heap.size ps.length (pF ps ps.length) (lF ps ps.length) w' ∧ Below W.heap.size W w') := fun h W h1 => by
    have h3 := st_facts h
    have h4 := st_refs h
    exact turned_any lo a c ps W (hb.below h1) h3.1 h4.1 (fun x hx => ⟨h3.2.2 x hx, (h4.2 x hx).1, (h4.2 x hx).2⟩)
  have HRE : Hid (stB ps = true → ∀ (U : Nat) (W : World), TuS (U + 1) U ps.length (pF ps ps.length) (lF ps ps.length) W → Calls Tryz.prog 33 #[.slice (some ⟨U, 0, none⟩) ps.length ps.length, .slice (some ⟨W.heap.size, 0, none⟩) 1 1] (W.alloc (.cells #[.string t] 9)) fun e w' => (∃ v, e = .returned v ∧ sr.OwnS (W.alloc (.cells #[.string t] 9)).heap.size w' v (useA ps t.data.toList)) ∧ Below (W.alloc (.cells #[.string t] 9)).heap.size (W.alloc (.cells #[.string t] 9)) w') := fun h U W hTu => by
    have h3 := st_facts h
    have hrd : RdI (W.alloc (.cells #[.string t] 9)) (some ⟨U, 0, none⟩) (usL ps) := (hTu.below ((Below.refl _ _).alloc (Nat.le_refl _) _)).read
    have hsz : ∀ x ∈ ps, x.fPath.size ≤ 1048576 := fun x hx => (st_sz h hw x hx).2.1
    have hpb : ∀ j, j < ps.length → (pB ps j).size ≤ 1048576 := fun j hj => by
      rw [pB_some (List.getElem?_eq_getElem hj)]
      exact hsz _ (List.getElem_mem hj)
    have hx : ∀ u ∈ usL ps, u.fRefs.length ≤ 300 ∧ u.fPath.size ≤ 1048576 ∧ ∀ y ∈ u.fRefs, y.size ≤ 1048576 := fun u hu => by
      refine ⟨us_refs h3.1 u hu, ?_⟩
      obtain ⟨j, hj⟩ := List.getElem?_of_mem hu
      obtain ⟨hjn, rfl⟩ := usL_at hj
      refine ⟨hpb j hjn, fun y hy => ?_⟩
      obtain ⟨x, hx, rfl, _⟩ := lF_mem.1 hy
      exact hsz x hx
    have := reach2_any 0 (some ⟨U, 0, none⟩) ps.length (usL ps) (some ⟨W.heap.size, 0, none⟩) 1 [t.data.toList] _ hrd (by rw [usL_len]; exact h3.1) hx (by rw [usL_pths]; exact h3.2.1) (one_row W t) (by simp) (fun x hx => by
      simp only [List.mem_singleton] at hx
      subst hx
      have e : t.data.toList.length = t.size := Array.length_toList
      omega)
    rw [usL_len, use_eq h] at this
    exact this
  have HNO : Hid (¬ stB ps = true → useA ps t.data.toList = []) := fun h => by unfold useA; rw [if_neg (fun e => h e.1)]
  obtain ⟨rs, hrs⟩ : ∃ rs, useA ps t.data.toList = rs := ⟨_, rfl⟩
  rw [hrs] at HRE HNO ⊢
  obtain ⟨bs, hbs⟩ : ∃ b, stB ps = b := ⟨_, rfl⟩
  rw [hbs] at HSO HTU HRE HNO
  generalize ps.length = n at *
  clear hb hw hrs hbs hM hT
  cases bs with
  | false =>
    have HE : Hid (rs = []) := HNO.out (by simp)
    go_enter Tryz.func20, Tryz.ntmps20
    go_wp2_with (go_at_call 32; refine HSO.out.mono ?_; rintro e w1 ⟨rfl, hl1⟩)
    go_ret
    exact ⟨⟨_, rfl, by rw [HE.out]; exact (rf.nil_row w1 : sr.OwnS w1.heap.size _ _ []).mono hl1.size⟩, hl1.alloc hl1.size _⟩
  | true =>
    have HT2 := Lib.hid (HTU.out rfl)
    have HR2 := Lib.hid (HRE.out rfl)
    clear HTU HRE HNO
    go_enter Tryz.func20, Tryz.ntmps20
    go_wp2_with (go_at_call 32; refine HSO.out.mono ?_; rintro e w1 ⟨rfl, hl1⟩; refine Hid.out ?_)
    refine Lib.hid ?_
    have HB1 : Hid (Below w.heap.size w w1) := hl1
    clear hl1 HSO
    go_wp2_with (go_at_call 35; refine (HT2.out _ HB1.out).mono ?_; rintro e w2 ⟨rfl, ht2, hl2⟩; refine Hid.out ?_)
    refine Lib.hid ?_
    have HB2 : Hid (Below w.heap.size w w2) := HB1.out.trans (hl2.mono HB1.out.size)
    have HR3 := Lib.hid (HR2.out _ _ ht2)
    clear ht2 hl2 HT2 HR2
    go_wp2_with (go_at_call 33; refine HR3.out.mono ?_; rintro e w3 ⟨⟨v3, rfl, hv3⟩, hl3⟩)
    go_ret
    exact ⟨⟨_, rfl, hv3.mono (HB2.out.alloc HB2.out.size _).size⟩, (HB2.out.alloc HB2.out.size _).trans (hl3.mono (HB2.out.alloc HB2.out.size _).size)⟩

end Go.Proofs.YtddnhnpfcelicaaGreatDoor.so


namespace Go.Proofs.YtddnhnpfcelicaaGreatDoor.so
open Go.ChangeShapes Go.WideShapes Go.ChangeAt Go.RowKit Go.Deep
set_option linter.unusedVariables false
set_option linter.unusedSimpArgs false

/-! ### FnExactUsedBy's walk -/

set_option maxHeartbeats 8000000 in
set_option maxRecDepth 100000 in
theorem use_law (a0 : Option Addr) (c0 : Nat) (p0 : List ty.It) (s1 : ByteArray) (w : World) (hm : tt.ML w) (hT : wd.TabB w) (hb0 : ty.SrcIt none w a0 p0) (hs0 : ty.SmIt p0) (hz1 : s1.size ≤ maxLen) :
    Calls Tryz.prog 5 #[.slice a0 p0.length c0, .string s1] w fun e w' => e = .returned (.bool true) ∧ Below w.heap.size w w' := by
  unfold maxLen at hz1
  have HSZ0 : Hid (∀ (W : World) (L : Int), Below w.heap.size w W → 0 ≤ L → L ≤ 1048576 → Calls Tryz.prog 6 #[.slice a0 p0.length c0, .int .i64 L] W fun e w' => (∃ r : Int, e = .returned (.int .i64 r) ∧ (r = -1 ∨ 0 ≤ r ∧ r = L - (ty.wtIt p0 : Int))) ∧ Below W.heap.size W w') := fun W L h h0 h1 => ty.szIt_any a0 c0 p0 L W (hb0.below h) hs0 ⟨h0, h1⟩
  have HTO0 : Hid (∀ W, Below w.heap.size w W → ty.wtIt p0 ≤ 1048576 → Calls Tryz.prog 8 #[.slice a0 p0.length c0] W fun e w' => e = .returned (.slice (some ⟨W.heap.size, 0, none⟩) p0.length p0.length) ∧ ty.SrcIt (some W.heap.size) w' (some ⟨W.heap.size, 0, none⟩) p0 ∧ Below W.heap.size W w') := fun W h hw => ty.toIt_any a0 c0 p0 W (hb0.below h) hw
  have H_hm : Hid (tt.ML w) := hm
  have H_hT : Hid (wd.TabB w) := hT
  clear hb0 hs0 hm hT
  obtain ⟨n0, hn0⟩ : ∃ n, p0.length = n := ⟨_, rfl⟩
  obtain ⟨rs, hrs⟩ : ∃ rs, useA p0 s1.data.toList = rs := ⟨_, rfl⟩
  have HRL : Hid (ty.wtIt p0 ≤ 1048576 → rs.length ≤ 1000000) := fun w0 => by rw [← hrs]; exact Nat.le_trans (useA_len p0 s1.data.toList) (by omega)
  have HSP : Hid (∀ (lo0 : Nat) (A0 : Option Addr) (C0 : Nat) W, ty.SrcIt (some lo0) W A0 p0 → ty.wtIt p0 ≤ 1048576 → s1.size ≤ 1048576 → Calls Tryz.prog 19 #[.slice A0 n0 C0, .string s1] W fun e w' => (∃ v, e = .returned (v) ∧ sr.StrR w' v rs) ∧ Below W.heap.size W w') := fun lo0 A0 C0 W H0 w0 z1 => by
    rw [← hn0, ← hrs]
    exact (suse_any lo0 A0 C0 p0 s1 W H0 w0).mono (fun e w' h => ⟨⟨h.1.choose, h.1.choose_spec.1, h.1.choose_spec.2.row⟩, h.2⟩)
  have HIP : Hid (∀ (lo0 : Nat) (A0 : Option Addr) (C0 : Nat) W, ty.SrcIt (some lo0) W A0 p0 → ty.wtIt p0 ≤ 1048576 → s1.size ≤ 1048576 → tt.ML W → wd.TabB W → Calls Tryz.prog 20 #[.slice A0 n0 C0, .string s1] W fun e w' => (∃ v, e = .returned (v) ∧ sr.OwnS W.heap.size w' v rs) ∧ Below W.heap.size W w') := fun lo0 A0 C0 W H0 w0 z1 hm hT => by
    rw [← hn0, ← hrs]
    exact iuse_any lo0 A0 C0 p0 s1 W H0 w0 z1 hm hT
  have HEQ0 : Hid (∀ (A A' : Option Addr) (c c' : Nat) W, ty.SrcIt none W A p0 → ty.SrcIt none W A' p0 → ty.wtIt p0 ≤ 1048576 → Calls Tryz.prog 11 #[.slice A n0 c, .slice A' n0 c'] W fun e w' => e = .returned (.bool true) ∧ Below W.heap.size W w') := fun A A' c c' W h h' hw => by rw [← hn0]; exact ty.eqIt_any A A' c c' p0 W h h' hw
  have HMK0 : Hid (∀ (lo hi : Nat) (A : Option Addr) (c k : Nat) W, ty.MIt lo hi W A p0 → 0 < k → k + ty.cnIt p0 ≤ 100000000 → Calls Tryz.prog 12 #[.slice A n0 c, .int .i64 (k : Int)] W fun e w' => e = .returned (.int .i64 ((k + ty.cnIt p0 : Nat) : Int)) ∧ ty.Rel lo hi W w') := fun lo hi A c k W hM h0 hk => by rw [← hn0]; exact ty.markIt_any lo hi A c p0 k W hM h0 hk
  have HCN0 : Hid (ty.wtIt p0 ≤ 1048576 → ty.cnIt p0 ≤ 8388608) := fun h => by have := ty.cnIt_le p0; omega
  rw [hn0] at HSZ0 HTO0 ⊢
  clear hn0 hrs
  obtain ⟨k0, hk0⟩ : ∃ k, ty.cnIt p0 = k := ⟨_, rfl⟩
  rw [hk0] at HMK0 HCN0
  clear hk0
  by_cases hzb1 : 1048576 < s1.size
  · have hzc1 : (1048576 : Int) < (s1.size : Int) := by omega
    go_enter Tryz.func5, Tryz.ntmps5
    go_wp2
    go_ret
    exact ⟨rfl, Below.refl _ _⟩
  have hzc1 : ¬ (1048576 : Int) < (s1.size : Int) := by omega
  have HZ1 : Hid (s1.size ≤ 1048576) := by show _ ≤ _; omega
  go_enter Tryz.func5, Tryz.ntmps5
  go_wp2_with (go_at_call 6; refine (HSZ0.out _ _ (Below.refl _ _) (by omega) (by omega)).mono ?_; rintro e u0 ⟨⟨r0, rfl, hr0⟩, hlu0⟩)
  · go_ret
    exact ⟨rfl, hlu0⟩
  have HW0 : Hid (ty.wtIt p0 ≤ 1048576) := by
    have h := hr0.resolve_left (by omega)
    show _ ≤ _
    omega
  have hrr0 : 0 ≤ r0 ∧ r0 ≤ 1048576 := by omega
  clear hr0
  have HRL1 : Hid (rs.length ≤ 1000000) := HRL.out HW0.out
  have HC0 : Hid (k0 ≤ 8388608) := HCN0.out HW0.out
  go_wp2_with (go_at_call 8; refine (HTO0.out _ (hlu0) HW0.out).mono ?_; rintro e wa0 ⟨rfl, ho, hl⟩; refine Hid.out ?_)
  refine Lib.hid ?_
  have B_wa0 : Below w.heap.size w wa0 := (hlu0).trans (hl.mono (hlu0).size)
  have HS0 : Hid (ty.SrcIt (some u0.heap.size) wa0 (some ⟨u0.heap.size, 0, none⟩) p0) := ho
  clear ho hl
  go_wp2_with (go_at_call 19; refine (HSP.out _ _ _ _ HS0.out HW0.out HZ1.out).mono ?_; rintro e w3 ⟨⟨v3, rfl, hv3⟩, hl3⟩; refine Hid.out ?_)
  refine Lib.hid ?_
  obtain ⟨a3, c3, hve3, hss3⟩ := lw.ss_row hv3
  subst hve3
  have HP : Hid (∀ W, Below w3.heap.size w3 W → st.Ss W a3 rs.length (lw.fma rs)) := fun W h => hss3.below h
  have B_w3 : Below w.heap.size w w3 := (B_wa0).trans (hl3.mono (B_wa0).size)
  clear hv3 hl3 hss3 HS0
  have C_w3 : Below w3.heap.size w3 w3 := Below.refl _ _
  go_wp2_with (go_at_call 8; refine (HTO0.out _ (B_w3) HW0.out).mono ?_; rintro e wx0 ⟨rfl, ho, hl⟩; refine Hid.out ?_)
  refine Lib.hid ?_
  have B_wx0 : Below w.heap.size w wx0 := (B_w3).trans (hl.mono (B_w3).size)
  have C_wx0 : Below w3.heap.size w3 wx0 := (C_w3).trans (hl.mono (C_w3).size)
  have hlo0 : w3.heap.size ≤ w3.heap.size ∧ w3.heap.size ≤ wx0.heap.size := ⟨Nat.le_refl _, hl.size⟩
  have HX0 : Hid (ty.SrcIt (some w3.heap.size) wx0 (some ⟨w3.heap.size, 0, none⟩) p0) := ho
  have HM0 : Hid (ty.MIt w3.heap.size wx0.heap.size wx0 (some ⟨w3.heap.size, 0, none⟩) p0) := ty.MIt.src ho
  clear ho hl
  go_wp2_with (go_at_call 20; refine (HIP.out _ _ _ _ HX0.out HW0.out HZ1.out (H_hm.out.below B_wx0) (H_hT.out.below B_wx0)).mono ?_; rintro e w5 ⟨⟨v5, rfl, hv5⟩, hl5⟩; refine Hid.out ?_)
  refine Lib.hid ?_
  obtain ⟨g5, c5, hve5, hg5, hgb5⟩ := lw.GB.own hv5
  subst hve5
  have B_w5 : Below w.heap.size w w5 := (B_wx0).trans (hl5.mono (B_wx0).size)
  have C_w5 : Below w3.heap.size w3 w5 := (C_wx0).trans (hl5.mono (C_wx0).size)
  have HX0_w5 : Hid (ty.SrcIt (some w3.heap.size) w5 (some ⟨w3.heap.size, 0, none⟩) p0) := HX0.out.below hl5
  have HM0_w5 : Hid (ty.MIt w3.heap.size wx0.heap.size w5 (some ⟨w3.heap.size, 0, none⟩) p0) := HM0.out.shp (ty.Shp.below hl5)
  have HG : Hid (lw.GB w5 g5 rs) := hgb5
  have hgx0 : wx0.heap.size ≤ g5 := Nat.le_trans (Nat.le_refl _) hg5
  have hg3 : w3.heap.size ≤ g5 := by have := hlo0; omega
  have hgw : w.heap.size ≤ g5 := Nat.le_trans B_w3.size hg3
  clear hv5 hl5 hgb5
  go_wp2_with (go_at_call 10; refine (st.eq_any _ _ _ _ _ _ _ HG.out.ss (HP.out _ C_w5) (by have := HRL1.out; omega)).mono ?_; rintro e w6 ⟨rfl, qq, hqq⟩; have hl : Below w5.heap.size w5 w6 := (by rw [hqq]; exact Go.below_drewN (Below.refl _ _) qq); clear hqq; refine Hid.out ?_)
  refine Lib.hid ?_
  have B_w6 : Below w.heap.size w w6 := (B_w5).trans (hl.mono (B_w5).size)
  have C_w6 : Below w3.heap.size w3 w6 := (C_w5).trans (hl.mono (C_w5).size)
  have HX0_w6 : Hid (ty.SrcIt (some w3.heap.size) w6 (some ⟨w3.heap.size, 0, none⟩) p0) := HX0_w5.out.below hl
  have HM0_w6 : Hid (ty.MIt w3.heap.size wx0.heap.size w6 (some ⟨w3.heap.size, 0, none⟩) p0) := HM0_w5.out.shp (ty.Shp.below hl)
  have HG_w6 : Hid (lw.GB w6 g5 rs) := HG.out.below hl
  clear hl
  go_wp2_with (go_at_call 8; refine (HTO0.out _ (B_w6) HW0.out).mono ?_; rintro e wt0 ⟨rfl, ho, hl⟩; refine Hid.out ?_)
  refine Lib.hid ?_
  have B_wt0 : Below w.heap.size w wt0 := (B_w6).trans (hl.mono (B_w6).size)
  have C_wt0 : Below w3.heap.size w3 wt0 := (C_w6).trans (hl.mono (C_w6).size)
  have HX0_wt0 : Hid (ty.SrcIt (some w3.heap.size) wt0 (some ⟨w3.heap.size, 0, none⟩) p0) := HX0_w6.out.below hl
  have HM0_wt0 : Hid (ty.MIt w3.heap.size wx0.heap.size wt0 (some ⟨w3.heap.size, 0, none⟩) p0) := HM0_w6.out.shp (ty.Shp.below hl)
  have HG_wt0 : Hid (lw.GB wt0 g5 rs) := HG_w6.out.below hl
  have HY0 : Hid (ty.SrcIt none wt0 (some ⟨w6.heap.size, 0, none⟩) p0) := ho.any
  clear ho hl
  go_wp2_with (go_at_call 11; refine (HEQ0.out _ _ _ _ _ HX0_wt0.out.any HY0.out HW0.out).mono ?_; rintro e we0 ⟨rfl, hl⟩; refine Hid.out ?_)
  refine Lib.hid ?_
  have B_we0 : Below w.heap.size w we0 := (B_wt0).trans (hl.mono (B_wt0).size)
  have C_we0 : Below w3.heap.size w3 we0 := (C_wt0).trans (hl.mono (C_wt0).size)
  have HX0_we0 : Hid (ty.SrcIt (some w3.heap.size) we0 (some ⟨w3.heap.size, 0, none⟩) p0) := HX0_wt0.out.below hl
  have HM0_we0 : Hid (ty.MIt w3.heap.size wx0.heap.size we0 (some ⟨w3.heap.size, 0, none⟩) p0) := HM0_wt0.out.shp (ty.Shp.below hl)
  have HG_we0 : Hid (lw.GB we0 g5 rs) := HG_wt0.out.below hl
  clear hl HY0
  have HMC0 : Hid (∀ W, ty.MIt w3.heap.size wx0.heap.size W (some ⟨w3.heap.size, 0, none⟩) p0 → Calls Tryz.prog 12 #[.slice (some ⟨w3.heap.size, 0, none⟩) n0 n0, .int .i64 1] W fun e w' => e = .returned (.int .i64 ((1 + k0 : Nat) : Int)) ∧ ty.Rel w3.heap.size wx0.heap.size W w') := fun W h => by
    have := HMK0.out _ _ _ n0 1 W h (by omega) (by have := HC0.out; omega)
    exact this
  obtain ⟨K0, hK0⟩ : ∃ K : Nat, 1 + k0 = K := ⟨_, rfl⟩
  rw [hK0] at HMC0
  have hKb0 : 0 < K0 ∧ K0 ≤ 8388609 := by have := HC0.out; omega
  clear hK0
  go_wp2_with (go_at_call 12; refine (HMC0.out _ HM0_we0.out).mono ?_; rintro e wm0 ⟨rfl, hR⟩; refine Hid.out ?_)
  refine Lib.hid ?_
  have B_wm0 : Below w.heap.size w wm0 := (B_we0).trans (hR.toBelow (by have := hlo0; have := B_w3.size; omega) (B_we0).size)
  have C_wm0 : Below w3.heap.size w3 wm0 := (C_we0).trans (hR.toBelow hlo0.1 (C_we0).size)
  have HG_wm0 : Hid (lw.GB wm0 g5 rs) := HG_we0.out.of (hR.2.2.1 g5 HG_we0.out.lt (.inr hgx0))
  clear hR
  go_wp2_with (go_at_call 10; refine (st.eq_any _ _ _ _ _ _ _ HG_wm0.out.ss (HP.out _ C_wm0) (by have := HRL1.out; omega)).mono ?_; rintro e w9 ⟨rfl, qq, hqq⟩; have hl : Below wm0.heap.size wm0 w9 := (by rw [hqq]; exact Go.below_drewN (Below.refl _ _) qq); clear hqq; refine Hid.out ?_)
  refine Lib.hid ?_
  have B_w9 : Below w.heap.size w w9 := (B_wm0).trans (hl.mono (B_wm0).size)
  have C_w9 : Below w3.heap.size w3 w9 := (C_wm0).trans (hl.mono (C_wm0).size)
  have HG_w9 : Hid (lw.GB w9 g5 rs) := HG_wm0.out.below hl
  clear hl
  go_wp2_with (go_at_call 13; refine (sr.markS_any g5 0 rs.length c5 1 _ HG_w9.out.mk w3.heap.size hg3 (C_w9).size (by omega) (by have := HRL1.out; omega)).mono ?_; rintro e w10 ⟨rfl, hmk, hl⟩; refine Hid.out ?_)
  refine Lib.hid ?_
  have C_w10 : Below w3.heap.size w3 w10 := (C_w9).trans hl
  have B_w10 : Below w.heap.size w w10 := (B_w9).trans (hl.mono B_w3.size)
  have HK : Hid (sr.MkR w10 g5 0 rs.length 1 rs.length) := hmk
  obtain ⟨RL, hRL⟩ : ∃ t, rs.length = t := ⟨_, rfl⟩
  clear hmk hl HG_w9
  clear hRL RL
  go_wp2_with (go_at_call 14; refine (sr.heldS_any g5 0 rs.length c5 1 _ HK.out (by omega) (by have := HRL1.out; omega)).mono ?_; rintro e w11 ⟨rfl, hl⟩; refine Hid.out ?_)
  refine Lib.hid ?_
  have B_w11 : Below w.heap.size w w11 := (B_w10).trans (hl.mono (B_w10).size)
  have C_w11 : Below w3.heap.size w3 w11 := (C_w10).trans (hl.mono (C_w10).size)
  have HK_w11 : Hid (sr.MkR w11 g5 0 rs.length 1 rs.length) := HK.out.below hl
  clear hl
  go_wp2_with (go_at_call 8; refine (HTO0.out _ (B_w11) HW0.out).mono ?_; rintro e wc0 ⟨rfl, ho, hl⟩; refine Hid.out ?_)
  refine Lib.hid ?_
  have B_wc0 : Below w.heap.size w wc0 := (B_w11).trans (hl.mono (B_w11).size)
  have C_wc0 : Below w3.heap.size w3 wc0 := (C_w11).trans (hl.mono (C_w11).size)
  have HK_wc0 : Hid (sr.MkR wc0 g5 0 rs.length 1 rs.length) := HK_w11.out.below hl
  have HV0 : Hid (ty.SrcIt (some w11.heap.size) wc0 (some ⟨w11.heap.size, 0, none⟩) p0) := ho
  clear ho hl
  go_wp2_with (go_at_call 20; refine (HIP.out _ _ _ _ HV0.out HW0.out HZ1.out (H_hm.out.below B_wc0) (H_hT.out.below B_wc0)).mono ?_; rintro e w13 ⟨⟨v13, rfl, hv13⟩, hl⟩; refine Hid.out ?_)
  refine Lib.hid ?_
  obtain ⟨a13, c13, hve13, hss13⟩ := lw.ss_row hv13.row
  subst hve13
  have B_w13 : Below w.heap.size w w13 := (B_wc0).trans (hl.mono (B_wc0).size)
  have C_w13 : Below w3.heap.size w3 w13 := (C_wc0).trans (hl.mono (C_wc0).size)
  have HK_w13 : Hid (sr.MkR w13 g5 0 rs.length 1 rs.length) := HK_wc0.out.below hl
  have HQ13 : Hid (st.Ss w13 a13 rs.length (lw.fma rs)) := hss13
  clear hv13 hl hss13 HV0
  go_wp2_with (go_at_call 10; refine (st.eq_any _ _ _ _ _ _ _ HQ13.out (HP.out _ C_w13) (by have := HRL1.out; omega)).mono ?_; rintro e w14 ⟨rfl, qq, hqq⟩; have hl : Below w13.heap.size w13 w14 := (by rw [hqq]; exact Go.below_drewN (Below.refl _ _) qq); clear hqq; refine Hid.out ?_)
  refine Lib.hid ?_
  have B_w14 : Below w.heap.size w w14 := (B_w13).trans (hl.mono (B_w13).size)
  have C_w14 : Below w3.heap.size w3 w14 := (C_w13).trans (hl.mono (C_w13).size)
  have HK_w14 : Hid (sr.MkR w14 g5 0 rs.length 1 rs.length) := HK_w13.out.below hl
  clear hl
  go_wp2_with (go_at_call 14; refine (sr.heldS_any g5 0 rs.length c5 1 _ HK_w14.out (by omega) (by have := HRL1.out; omega)).mono ?_; rintro e w15 ⟨rfl, hl⟩; refine Hid.out ?_)
  refine Lib.hid ?_
  have B_w15 : Below w.heap.size w w15 := (B_w14).trans (hl.mono (B_w14).size)
  have C_w15 : Below w3.heap.size w3 w15 := (C_w14).trans (hl.mono (C_w14).size)
  have HK_w15 : Hid (sr.MkR w15 g5 0 rs.length 1 rs.length) := HK_w14.out.below hl
  clear hl
  go_wp2
  go_ret
  exact ⟨rfl, B_w15⟩

end Go.Proofs.YtddnhnpfcelicaaGreatDoor.so

