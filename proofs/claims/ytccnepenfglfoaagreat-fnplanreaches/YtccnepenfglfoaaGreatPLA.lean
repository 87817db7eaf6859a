import Derived.Test.YtccnepenfglfoaaGreatSM
import Derived.Maps.AppendAt
namespace Go.Proofs.YtccnepenfglfoaaGreat.hp
open Go.ChangeShapes Go.WideShapes Go.ChangeAt Go.RowKit Go.Deep Go.Maps
open fa (Us uNo nmL nds aw aws nAt nAt_some uNo_yes uNo_get uNo_le)
open fw (soA soB Ua ua_of soN)
set_option linter.unusedVariables false
set_option linter.unusedSimpArgs false

/-! ### PlanUnits, plainly; rows of acts -/

def bA (m : List UInt8) : ByteArray := ⟨m.toArray⟩
theorem bA_list (m : List UInt8) : (bA m).data.toList = m := by simp [bA]
theorem bA_of (p : ByteArray) : bA p.data.toList = p := by simp [bA]
def act (k : Int) (m : List UInt8) : ty.Ac := ⟨k, bA m⟩
/-- The names in the order of stopping. -/
def stp (us : List ty.Un) : List (List UInt8) := (((List.range us.length).reverse).filter fun i => !decide (nAt us i ∈ soA us)).map (nAt us) ++ (soA us).reverse
def exAt (us : List ty.Un) (m : List UInt8) : ByteArray := (us[uNo us m]?.map fun u => u.fExec).getD ⟨#[]⟩
def kpAt (us : List ty.Un) (m : List UInt8) : Bool := (us[uNo us m]?.map fun u => u.fKeep).getD false
def rst (old new : List ty.Un) (m : List UInt8) : Bool := !kpAt new m && (decide (uNo old m < old.length) && !decide (exAt old m = exAt new m))
def sa1 (new : List ty.Un) (rn : List (List UInt8)) (m : List UInt8) : List ty.Ac := if decide (m ∈ rn) && !decide (uNo new m < new.length) then [act 1 m] else []
def sa2 (old new : List ty.Un) (rn : List (List UInt8)) (m : List UInt8) : List ty.Ac := if decide (m ∈ rn) then (if rst old new m then [act 3 m] else []) else [act 2 m]
/-- What both answer where all is as it should be. -/
def plL (old new : List ty.Un) (rn : List (List UInt8)) : List ty.Ac := (stp old).flatMap (sa1 new rn) ++ (soA new).flatMap (sa2 old new rn)
def plP (old new : List ty.Un) (rn : List ByteArray) : Prop := (un.usB old = true ∧ un.usB new = true) ∧ rn.length ≤ 2000
instance (old new : List ty.Un) (rn : List ByteArray) : Decidable (plP old new rn) := by unfold plP; exact inferInstance
def plA (old new : List ty.Un) (rn : List ByteArray) : List ty.Ac := if plP old new rn then plL old new (rn.map fun b => b.data.toList) else []

theorem soA_in {us : List ty.Un} (hu : un.usB us = true) : ∃ O : List Nat, soA us = O.map (nAt us) ∧ (∀ x ∈ O, x < us.length) := by
  have key : ∀ k, ∃ O : List Nat, soN us k = O.map (nAt us) ∧ (∀ x ∈ O, x < us.length) := fun k => by
    induction k with
    | zero => exact ⟨[], rfl, fun x hx => by cases hx⟩
    | succ k ih =>
      obtain ⟨O, e, h⟩ := ih
      show ∃ O, fw.so1 us (soN us k) = _ ∧ _
      unfold fw.so1
      split
      · rename_i u hf
        obtain ⟨j, hj⟩ := List.getElem?_of_mem (List.mem_of_find?_eq_some hf)
        refine ⟨O ++ [j], by rw [e, List.map_append, List.map_singleton, nAt_some hj], fun x hx => ?_⟩
        rcases List.mem_append.1 hx with h1 | h1
        · exact h x h1
        · rw [List.mem_singleton.1 h1]; exact (List.getElem?_eq_some_iff.1 hj).1
      · exact ⟨O, e, h⟩
  obtain ⟨O, e, h⟩ := key us.length
  exact ⟨O, by unfold soA; rw [if_pos hu, e], h⟩
theorem soA_no {us : List ty.Un} (hu : un.usB us = true) {m : List UInt8} (hm : m ∈ soA us) : uNo us m < us.length ∧ ∃ u, us[uNo us m]? = some u ∧ nmL u = m := by
  obtain ⟨O, e, h⟩ := soA_in hu
  rw [e] at hm
  obtain ⟨x, hx, rfl⟩ := List.mem_map.1 hm
  have hl := h x hx
  have e2 : us[x]? = some us[x] := List.getElem?_eq_getElem hl
  have e3 : uNo us (nAt us x) = x := by rw [nAt_some e2]; exact uNo_yes (ua_of hu).toUs e2 rfl
  rw [e3]
  exact ⟨hl, _, e2, (nAt_some e2).symm⟩

/-- The program's numbers in the order of stopping. -/
def spN (n : Nat) (O : List Nat) : List Nat := (O ++ (List.range n).filter fun i => !decide (i ∈ O)).reverse
theorem spN_names {us : List ty.Un} (hU : Ua us) (hu : un.usB us = true) {O : List Nat} {f : Nat → Nat} (h : Iv us O f []) : (spN us.length O).map (nAt us) = stp us := by
  obtain ⟨e, _⟩ := h.done hU hu
  unfold spN stp
  rw [e, List.reverse_append, List.map_append, List.map_reverse, List.map_reverse, List.filter_reverse, List.map_reverse]
  congr 3
  refine List.filter_congr fun x hx => ?_
  have hx := List.mem_range.1 hx
  have e2 : us[x]? = some us[x] := List.getElem?_eq_getElem hx
  congr 1
  rw [decide_eq_decide, nm_in hU.toUs h.lt, nAt_some e2, uNo_yes hU.toUs e2 rfl]

theorem act_one (k : Int) (m : ByteArray) : ∀ u ∈ [Value.int .i64 k, .string m], u.oneCell' = true := fun u hu => by
  simp only [List.mem_cons, List.not_mem_nil, or_false] at hu
  rcases hu with rfl | rfl <;> rfl
def aC (l : List ty.Ac) : List Value := l.flatMap fun e => [.int .i64 e.fKind, .string e.fName]
theorem aC_len (l : List ty.Ac) : (aC l).length = l.length * 2 := by
  unfold aC
  induction l with
  | nil => rfl
  | cons a l ih => rw [List.flatMap_cons, List.length_append, ih]; simp; omega
theorem aC_at : ∀ {l : List ty.Ac} {j : Nat} {e : ty.Ac}, l[j]? = some e → (aC l)[j * 2]? = some (.int .i64 e.fKind) ∧ (aC l)[j * 2 + 1]? = some (.string e.fName)
  | [], j, e, h => by simp at h
  | a :: l, 0, e, h => by
    simp at h
    subst h
    exact ⟨rfl, rfl⟩
  | a :: l, j + 1, e, h => by
    have ih := aC_at (l := l) (j := j) (e := e) (by simpa using h)
    have e1 : aC (a :: l) = [.int .i64 a.fKind, .string a.fName] ++ aC l := rfl
    rw [e1, List.getElem?_append_right (by simp; omega), List.getElem?_append_right (by simp; omega)]
    have e2 : (j + 1) * 2 - [Value.int .i64 a.fKind, .string a.fName].length = j * 2 := by simp; omega
    have e3 : (j + 1) * 2 + 1 - [Value.int .i64 a.fKind, .string a.fName].length = j * 2 + 1 := by simp; omega
    rw [e2, e3]
    exact ih
theorem aC_snoc (l : List ty.Ac) (e : ty.Ac) : aC (l ++ [e]) = aC l ++ [.int .i64 e.fKind, .string e.fName] := by
  unfold aC
  rw [List.flatMap_append]
  simp

/-- A row of acts of the call's own. -/
def OwA (B : Nat) (w : World) (v : Value) (l : List ty.Ac) : Prop := w.ownsRow B 38 2 v l.length (aC l) ∧ v ≠ .slice none 0 0
theorem OwA.below {B : Nat} {w w' : World} {v : Value} {l : List ty.Ac} (h : OwA B w v l) (hb : Below w.heap.size w w') : OwA B w' v l := ⟨World.ownsRow.kept h.1 (row := none) ⟨hb.os, hb.tape, hb.output, hb.size, fun j hj _ => hb.block j hj⟩ (Classical.em _), h.2⟩
theorem OwA.zero (w : World) : OwA w.heap.size (w.alloc (.cells #[] 38)) (.slice (some ⟨w.heap.size, 0, none⟩) 0 0) [] := ⟨⟨rfl, .inr ⟨w.heap.size, 0, #[], rfl, Nat.le_refl _, by unfold World.alloc; exact Array.getElem?_push_size, Nat.zero_le _, by unfold maxLen; omega, rfl, by simp [aC]⟩⟩, by intro e; cases e⟩
theorem OwA.mono {B B' : Nat} {w : World} {v : Value} {l : List ty.Ac} (h : OwA B w v l) (hb : B' ≤ B) : OwA B' w v l := by
  obtain ⟨⟨h1, h2⟩, h3⟩ := h
  refine ⟨⟨h1, ?_⟩, h3⟩
  rcases h2 with h | ⟨g, cap, cur, e, h4, h5⟩
  · exact .inl h
  · exact .inr ⟨g, cap, cur, e, Nat.le_trans hb h4, h5⟩
theorem OwA.row {B : Nat} {w : World} {v : Value} {l : List ty.Ac} (h : OwA B w v l) : ∃ g cap f, v = .slice (some ⟨g, 0, none⟩) l.length cap ∧ B ≤ g ∧ g < w.heap.size ∧ w.rowIs g 38 (cap * 2) f ∧ l.length ≤ cap ∧ ∀ (j : Nat) (e : ty.Ac), l[j]? = some e → f (j * 2) = .int .i64 e.fKind ∧ f (j * 2 + 1) = .string e.fName := by
  obtain ⟨⟨_, h'⟩, hv⟩ := h
  rcases h' with ⟨rfl, _⟩ | ⟨g, cap, cur, rfl, hb, hg, hnc, hcm, hcs, htk⟩
  · exact absurd rfl hv
  · refine ⟨g, cap, fun k => cur[k]?.getD default, rfl, hb, (Array.getElem?_eq_some_iff.1 hg).1, ⟨cur, hg, hcs, fun k hk => by rw [Array.getElem?_eq_getElem (by omega)]; simp [Array.getElem?_eq_getElem (show k < cur.size by omega)]⟩, hnc, fun j e he => ?_⟩
    have hj := (List.getElem?_eq_some_iff.1 he).1
    have hc : ∀ p u, p < l.length * 2 → (aC l)[p]? = some u → cur[p]?.getD default = u := fun p u hp hu => by
      have h1 : (cur.toList.take (l.length * 2))[p]? = some u := by rw [htk]; exact hu
      rw [List.getElem?_take_of_lt hp, Array.getElem?_toList] at h1
      rw [h1]
      rfl
    have h2 := aC_at he
    exact ⟨hc _ _ (by omega) h2.1, hc _ _ (by omega) h2.2⟩
/-- The specification's answer, and the program's. -/
def CpA (w : World) (v : Value) (l : List ty.Ac) : Prop := ∃ g c, v = .slice (some ⟨g, 0, none⟩) l.length c ∧ ty.SrcAc none w (some ⟨g, 0, none⟩) l
theorem OwA.cp {B : Nat} {w : World} {v : Value} {l : List ty.Ac} (h : OwA B w v l) : CpA w v l := by
  obtain ⟨g, cap, f, e, h1, h2, h3, h4, h5⟩ := h.row
  refine ⟨g, cap, e, .inr ⟨g, 0, rfl, (fun lo hl => by cases hl), fun i x hx => ?_⟩⟩
  obtain ⟨k1, k2⟩ := h5 i x hx
  have hi := (List.getElem?_eq_some_iff.1 hx).1
  obtain ⟨cs, hg, hs, hc⟩ := h3
  have at_ : ∀ p, p < cap * 2 → w.cell? ⟨g, p, none⟩ = some (f p) := fun p hp => by simp [World.cell?, hg, hc p hp]
  refine ⟨?_, ?_⟩
  · rw [show 0 + i * 2 = i * 2 by omega, at_ _ (by omega), k1]
  · rw [show 0 + i * 2 + 1 = i * 2 + 1 by omega, at_ _ (by omega), k2]

theorem infoA : (Tryz.prog.info? 38).map (fun i => (i.zero, i.size, i.bytes)) = some (some (.agg #[.int .i64 0, .string ⟨#[]⟩]), 2, 24) := by kernel_rfl

theorem two_news (W : World) (e : TypeId) (v0 v1 : Value) : ∀ j u, [v0, v1][j]? = some u → (W.alloc (.cells #[v0, v1] e)).cell? ((⟨W.heap.size, 0, none⟩ : Addr).add j) = some u := by
  intro j u h
  have hc : (W.alloc (.cells #[v0, v1] e)).cell? ⟨W.heap.size, j, none⟩ = (#[v0, v1] : Array Value)[j]? := World.cell?_alloc_new W _ _ j
  rw [addr_add, Nat.zero_add, hc, ← h]
  simp

theorem app_ac (w : World) {ops : Array Oper} {rest : List Oper} {o : Oper} {a : Act} {Q : Exit → Act → World → Prop} (hgd : o.guard = none) (s x : Operand)
    (ho : o.op = .call { callee := .builtin .append, args := #[s, x], argTypes := #[28, 28] })
    (base : Nat) (v : Value) (l : List ty.Ac) (hs : a.eval s = v) (hown : OwA base w v l)
    (ad : Addr) (c : Nat) (e : ty.Ac) (hx : a.eval x = .slice (some ad) 1 c) (hnews : ∀ j u, [Value.int .i64 e.fKind, .string e.fName][j]? = some u → w.cell? (ad.add j) = some u)
    (h63 : l.length ≤ 400000000) (hbase : base ≤ w.heap.size)
    (h : ∀ v' w', OwA base w' v' (l ++ [e]) → w.grownBy w' v.ownBlock → (v'.ownBlock = v.ownBlock ∨ v'.ownBlock = some w.heap.size) → wpList Tryz.prog ops Q rest (a.put o.dst v') w') : wpList Tryz.prog ops Q (o :: rest) a w := by
  obtain ⟨i, hi, hzz⟩ := Option.map_eq_some_iff.1 infoA
  simp only [Prod.mk.injEq] at hzz
  obtain ⟨hz, hsi, hb⟩ := hzz
  refine wpList_append_own_at w hgd s x 28 ho base 38 i _ 2 24 Tryz.underlying28 hi hz hsi hb rfl (by decide) v l.length (aC l) hs hown.1 ad 1 c _ hx rfl hnews (act_one _ _) (by unfold maxLen; omega) (by omega) hbase (fun v' w' p q r r2 => h v' w' ⟨?_, fun e => hown.2 (r.1 e).1⟩ q r2)
  rw [aC_snoc, List.length_append]
  exact p
end Go.Proofs.YtccnepenfglfoaaGreat.hp
