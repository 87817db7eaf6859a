import Derived.Test.YthklplfpnciodaaGreatDoorTA
import Derived.Test.YthklplfpnciodaaGreatDoorXE
namespace Go.Proofs.YthklplfpnciodaaGreatDoor.ex
open Go.ChangeShapes Go.WideShapes Go.ChangeAt Go.RowKit Go.Deep
set_option linter.unusedVariables false
set_option linter.unusedSimpArgs false

/-! ### Trees -/

inductive Tr where
  | mk (kind : Int) (text : ByteArray) (n : Int) (parts : List Tr)

def Tr.kind : Tr → Int | .mk k _ _ _ => k
def Tr.text : Tr → ByteArray | .mk _ t _ _ => t

/-- The tree of the node that begins at a place. -/
def treeP (E : Nat → Ex) : Nat → Nat → Tr
  | 0, p => .mk (E p).kind (E p).text (E p).n []
  | r + 1, p => .mk (E p).kind (E p).text (E p).n (((cutP E (p + 1) (E p).size.toNat).getD []).map (treeP E r))

/-- A value is a tree, whose rows lie in blocks of a kind. -/
def Nd (w : World) (O : Nat → Prop) : Nat → Value → Tr → Prop
  | 0, _, _ => False
  | r + 1, v, .mk k t n ps => (∃ (T : TypeId) (x : Value), v = .iface T x) ∧ ∃ vs : List Value, vs.length = ps.length ∧ (∀ (i : Nat) (x : Value) (y : Tr), vs[i]? = some x → ps[i]? = some y → Nd w O r x y) ∧ NodeV w O t n k vs v

theorem Nd.kept {w w' : World} {O O' : Nat → Prop} (hk : ∀ bb, O bb → w'.heap[bb]? = w.heap[bb]?) (hO : ∀ bb, O bb → O' bb) : ∀ (r : Nat) {v : Value} {t : Tr}, Nd w O r v t → Nd w' O' r v t
  | 0, _, _, h => h.elim
  | r + 1, v, .mk k t n ps, h => by
    obtain ⟨hi, vs, h1, h2, h3⟩ := h
    exact ⟨hi, vs, h1, fun i x y hx hy => Nd.kept hk hO r (h2 i x y hx hy), h3.kept hk hO⟩

theorem Nd.iface {w : World} {O : Nat → Prop} {r : Nat} {v : Value} {t : Tr} (h : Nd w O r v t) : ∃ (T : TypeId) (x : Value), v = .iface T x := by
  cases r with
  | zero => exact h.elim
  | succ r => cases t; exact h.1

/-- How many parts a kind has, where it is right. -/
def partsOk (k : Int) (m : Nat) : Prop := (k = 1 ∨ k = 2 ∨ k = 3 ∨ k = 7 → m = 0) ∧ (k = 6 ∨ k = 13 ∨ k = 17 ∨ k = 19 ∨ k = 20 → m = 1) ∧ (k = 9 ∨ k = 10 ∨ k = 11 ∨ k = 18 → m = 2) ∧ (k = 12 → m = 3) ∧ (k = 15 → m ≤ 1) ∧ (k = 16 → m = 1 ∨ m = 2) ∧ (k = 8 ∨ k = 14 → 1 ≤ m)

set_option maxRecDepth 100000 in
set_option maxHeartbeats 1000000 in
theorem nodeOf_any (k n s : Int) (t : ByteArray) (vs : List Value) (hk : okKind k = true) (hp : partsOk k vs.length) (hv : ∀ v ∈ vs, ∃ (T : TypeId) (x : Value), v = .iface T x) (O : Nat → Prop) (a : Option Addr) (cap : Nat) (w : World) (hO : ∀ bb, O bb → bb < w.heap.size) (hP : PsO w O a vs) (hc : vs.length ≤ cap ∧ cap ≤ maxLen) (hs : vs.length ≤ 3000) :
    Calls Tryz.prog 42 #[.agg #[.int .i64 k, .string t, .int .i64 n, .int .i64 s], .slice a vs.length cap] w fun e w' => ∃ v, e = .returned v ∧ NodeV w' O t n k vs v ∧ Below w.heap.size w w' := by
  simp only [okKind, decide_eq_true_eq] at hk
  obtain ⟨p0, p1, p2, p3, p15, p16, p8⟩ := hp
  have hk' : k = 1 ∨ k = 2 ∨ k = 3 ∨ k = 4 ∨ k = 5 ∨ k = 6 ∨ k = 7 ∨ k = 8 ∨ k = 9 ∨ k = 10 ∨ k = 11 ∨ k = 12 ∨ k = 13 ∨ k = 14 ∨ k = 15 ∨ k = 16 ∨ k = 17 ∨ k = 18 ∨ k = 19 ∨ k = 20 := by omega
  have one : vs.length = 1 → ∃ T x, vs = [Value.iface T x] := by
    intro h
    match vs, h with
    | [v], _ => obtain ⟨T, x, rfl⟩ := hv v (by simp); exact ⟨T, x, rfl⟩
  have two : vs.length = 2 → ∃ T x T' y, vs = [Value.iface T x, Value.iface T' y] := by
    intro h
    match vs, h with
    | [v, u], _ => obtain ⟨T, x, rfl⟩ := hv v (by simp); obtain ⟨T', y, rfl⟩ := hv u (by simp); exact ⟨T, x, T', y, rfl⟩
  have last : 1 ≤ vs.length → ∃ us T x, vs = us ++ [Value.iface T x] := by
    intro h
    have hne : vs ≠ [] := by intro e; rw [e] at h; simp at h
    obtain ⟨T, x, e⟩ := hv (vs.getLast hne) (List.getLast_mem hne)
    exact ⟨vs.dropLast, T, x, by rw [← e]; exact (List.dropLast_concat_getLast hne).symm⟩
  rcases hk' with rfl | rfl | rfl | rfl | rfl | rfl | rfl | rfl | rfl | rfl | rfl | rfl | rfl | rfl | rfl | rfl | rfl | rfl | rfl | rfl
  · obtain rfl : vs = [] := List.length_eq_zero_iff.1 (p0 (by omega)); exact node1_any t n s O a cap w hO hP hc hs
  · obtain rfl : vs = [] := List.length_eq_zero_iff.1 (p0 (by omega)); exact node2_any t n s O a cap w hO hP hc hs
  · obtain rfl : vs = [] := List.length_eq_zero_iff.1 (p0 (by omega)); exact node3_any t n s O a cap w hO hP hc hs
  · exact node4_any t n s vs O a cap w hO hP hc hs
  · exact node5_any t n s vs O a cap w hO hP hc hs
  · obtain ⟨T, x, rfl⟩ := one (p1 (by omega)); exact node6_any t n s T x O a cap w hO hP hc hs
  · obtain rfl : vs = [] := List.length_eq_zero_iff.1 (p0 (by omega)); exact node7_any t n s O a cap w hO hP hc hs
  · obtain ⟨us, T, x, rfl⟩ := last (p8 (by omega)); have := node8_any t n s us T x O a cap w hO hP hc hs; simpa using this
  · obtain ⟨T, x, T', y, rfl⟩ := two (p2 (by omega)); exact node9_any t n s T x T' y O a cap w hO hP hc hs
  · obtain ⟨T, x, T', y, rfl⟩ := two (p2 (by omega)); exact node10_any t n s T x T' y O a cap w hO hP hc hs
  · obtain ⟨T, x, T', y, rfl⟩ := two (p2 (by omega)); exact node11_any t n s T x T' y O a cap w hO hP hc hs
  · have h3 := p3 rfl
    match vs, h3 with
    | [u, v, z], _ =>
      obtain ⟨T, x, rfl⟩ := hv u (by simp)
      obtain ⟨T', y, rfl⟩ := hv v (by simp)
      obtain ⟨T'', z', rfl⟩ := hv z (by simp)
      exact node12_any t n s T x T' y T'' z' O a cap w hO hP hc hs
  · obtain ⟨T, x, rfl⟩ := one (p1 (by omega)); exact node13_any t n s T x O a cap w hO hP hc hs
  · obtain ⟨us, T, x, rfl⟩ := last (p8 (by omega)); have := node14_any t n s us T x O a cap w hO hP hc hs; simpa using this
  · have h15 := p15 rfl
    rcases Nat.eq_zero_or_pos vs.length with h0 | h0
    · obtain rfl : vs = [] := List.length_eq_zero_iff.1 h0; exact node15a_any t n s O a cap w hO hP hc hs
    · obtain ⟨T, x, rfl⟩ := one (by omega); exact node15b_any t n s T x O a cap w hO hP hc hs
  · rcases p16 rfl with h1 | h1
    · obtain ⟨T, x, rfl⟩ := one h1; exact node16a_any t n s T x O a cap w hO hP hc hs
    · obtain ⟨T, x, T', y, rfl⟩ := two h1; exact node16b_any t n s T x T' y O a cap w hO hP hc hs
  · obtain ⟨T, x, rfl⟩ := one (p1 (by omega)); exact node17_any t n s T x O a cap w hO hP hc hs
  · obtain ⟨T, x, T', y, rfl⟩ := two (p2 (by omega)); exact node18_any t n s T x T' y O a cap w hO hP hc hs
  · obtain ⟨T, x, rfl⟩ := one (p1 (by omega)); exact node19_any t n s T x O a cap w hO hP hc hs
  · obtain ⟨T, x, rfl⟩ := one (p1 (by omega)); exact node20_any t n s T x O a cap w hO hP hc hs

theorem NodeV.iface {w : World} {O : Nat → Prop} {t : ByteArray} {n k : Int} {vs : List Value} {v : Value} (h : NodeV w O t n k vs v) : ∃ (T : TypeId) (x : Value), v = .iface T x := by
  cases h <;> exact ⟨_, _, rfl⟩

end Go.Proofs.YthklplfpnciodaaGreatDoor.ex
