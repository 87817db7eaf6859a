import Derived.Test.YtabhgmpbokkjlaaDoorGE
import Derived.Test.YtabhgmpbokkjlaaDoorCA
import Derived.ArgAppend
import Derived.Deep.RegionHeld3
namespace Go.Proofs.YtabhgmpbokkjlaaDoor.tt
open Go.ChangeShapes Go.WideShapes Go.ChangeAt Go.RowKit Go.Deep
set_option linter.unusedVariables false
set_option linter.unusedSimpArgs false

/-! ### PutEntry: rows put together (impl.withEntry) -/

theorem news_of {w : World} {b o n : Nat} {E : Nat → En} (hR : EnR w b o n E) : ∀ j u, (enC E n)[j]? = some u → w.cell? ((⟨b, o, none⟩ : Addr).add j) = some u := by
  intro j u hj
  have hjl : j < n * 4 := by have := (List.getElem?_eq_some_iff.1 hj).1; rwa [enC_len] at this
  have hu : u = cellE E j := by simpa [enC, hjl] using hj.symm
  obtain ⟨a0, a1, a2, a3⟩ := hR (j / 4) (by omega)
  rw [addr_add, hu]
  have hm : j % 4 < 4 := Nat.mod_lt _ (by omega)
  unfold cellE
  by_cases h0 : j % 4 = 0
  · rw [if_pos h0, show o + j = o + j / 4 * 4 by omega]; exact a0
  · by_cases h1 : j % 4 = 1
    · rw [if_neg h0, if_pos h1, show o + j = o + j / 4 * 4 + 1 by omega]; exact a1
    · by_cases h2 : j % 4 = 2
      · rw [if_neg h0, if_neg h1, if_pos h2, show o + j = o + j / 4 * 4 + 2 by omega]; exact a2
      · rw [if_neg h0, if_neg h1, if_neg h2, show o + j = o + j / 4 * 4 + 3 by omega]; exact a3
theorem one_enC (E : Nat → En) (n : Nat) : ∀ u ∈ enC E n, u.oneCell' = true := by
  intro u hu
  obtain ⟨j, _, rfl⟩ := List.mem_map.1 hu
  unfold cellE
  split
  · rfl
  · split
    · rfl
    · split
      · rfl
      · rfl
theorem enR_from {w : World} {b o n : Nat} {E : Nat → En} (hR : EnR w b o n E) (s m : Nat) (h : s + m ≤ n) : EnR w b (o + s * 4) m (fun k => E (s + k)) := fun i hi => by
  have := hR (s + i) (by omega)
  rwa [show o + (s + i) * 4 = o + s * 4 + i * 4 by omega] at this
theorem enR_mono {w : World} {b o n m : Nat} {E : Nat → En} (hR : EnR w b o n E) (h : m ≤ n) : EnR w b o m E := fun i hi => hR i (by omega)

/-- What stands behind one more. -/
def jn (E : Nat → En) (a s : Nat) (e : En) : Nat → En := fun k => if k < a then E k else if k = a then e else E (s + (k - (a + 1)))
theorem enC_jn (E : Nat → En) (a s : Nat) (e : En) : ∀ m, enC E a ++ [.string e.path, .int .i64 e.kind, .string e.data, .bool e.exec] ++ enC (fun k => E (s + k)) m = enC (jn E a s e) (a + 1 + m)
  | 0 => by
    have h1 : jn E a s e a = e := by unfold jn; rw [if_neg (by omega), if_pos rfl]
    have h2 : enC (jn E a s e) a = enC E a := enC_congr fun i hi => by unfold jn; rw [if_pos hi]
    rw [show a + 1 + 0 = a + 1 from rfl, enC_succ, h1, h2]
    simp [enC]
  | m + 1 => by
    have h1 : jn E a s e (a + 1 + m) = E (s + m) := by unfold jn; rw [if_neg (by omega), if_neg (by omega), show a + 1 + m - (a + 1) = m by omega]
    rw [show a + 1 + (m + 1) = a + 1 + m + 1 from rfl, enC_succ, enC_succ, h1, ← enC_jn E a s e m]
    simp only [List.append_assoc]
theorem jn_pt {E : Nat → En} {n a s : Nat} {e : En} (hs : s = if isB E n e.path.data.toList a = true then a + 1 else a) : jn E a s e = ptF E n e a := by
  funext k
  unfold jn ptF
  by_cases h1 : k < a
  · rw [if_pos h1, if_pos h1]
  · rw [if_neg h1, if_neg h1]
    by_cases h2 : k = a
    · rw [if_pos h2, if_pos h2]
    · rw [if_neg h2, if_neg h2]
      by_cases h3 : isB E n e.path.data.toList a = true
      · rw [if_pos h3] at hs ⊢
        rw [hs]; congr 1; omega
      · rw [if_neg h3] at hs ⊢
        rw [hs]; congr 1; omega

theorem own_not_nil {w : World} {base e size n : Nat} {v : Value} {xs : List Value} (h : w.ownsRow base e size v n xs) (hx : xs ≠ []) : v ≠ .slice none 0 0 := by
  rintro rfl
  rcases h.2 with ⟨_, h2⟩ | ⟨g, cap, cur, h2, _⟩
  · exact hx (by first | exact h2 | (have := h.1; subst h2; simpa using this))
  · cases h2

/-- An append to entries that have no room behind them, at a step of a region that draws its order. -/
theorem step_grow {W : World} {ops : Array Oper} {o : Oper} {a : Act} {K : Act → World → Prop} {Q : Exit → Act → World → Prop} {Ex : Prop} (hgd : o.guard = none) (s x : Operand)
    (ho : o.op = .call { callee := .builtin .append, args := #[s, x], argTypes := #[27, 27] }) (b off n cap : Nat) (olds : List Value) (hs : a.eval s = .slice (some ⟨b, off, none⟩) n cap) (hlo : olds.length = n * 4) (holds : ∀ j u, olds[j]? = some u → W.cell? ((⟨b, off, none⟩ : Addr).add j) = some u)
    (ad : Addr) (m c : Nat) (news : List Value) (hx : a.eval x = .slice (some ad) m c) (hm : news.length = m * 4) (hnews : ∀ j u, news[j]? = some u → W.cell? (ad.add j) = some u) (hfull : cap < n + m) (hlen : n + m ≤ 1000000)
    (h : ∀ v' w', w'.ownsRow W.heap.size 31 4 v' (n + m) (olds ++ news) → W.grownBy w' none → K (a.put o.dst v') w') :
    if Region.wanted o (yielded ops a.tmps) = true then Oper.wp Tryd.prog o a W K Q else Ex := by
  have hw : Region.wanted o (yielded ops a.tmps) = true := by simp [Region.wanted, hgd]
  rw [if_pos hw]
  obtain ⟨i, hi, hzz⟩ := Option.map_eq_some_iff.1 infoE
  simp only [Prod.mk.injEq] at hzz
  obtain ⟨hz, hsi, hb⟩ := hzz
  obtain ⟨v', w', hrun, r1, r2⟩ := run_append_arg_grows (P := Tryd.prog) W 27 o.type 31 i _ 4 48 Tryd.underlying27 hi hz hsi hb rfl (by decide) ⟨b, off, none⟩ n cap olds hlo holds ad m c news hm hnews hfull (by unfold maxLen; omega) (by omega)
  unfold Oper.wp
  simp [execOp, ho, resolve, invoke, builtin, hs, hx, hrun, Result.andThen]
  exact h v' w' r1 r2
theorem step_ent {base : Nat} {W : World} {ops : Array Oper} {o : Oper} {a : Act} {K : Act → World → Prop} {Q : Exit → Act → World → Prop} {Ex : Prop} (hgd : o.guard = none) (s x : Operand)
    (ho : o.op = .call { callee := .builtin .append, args := #[s, x], argTypes := #[27, 27] }) (v : Value) (n : Nat) (xs : List Value) (hs : a.eval s = v) (hown : W.ownsRow base 31 4 v n xs) (hb : base ≤ W.heap.size)
    (ad : Addr) (m c : Nat) (news : List Value) (hx : a.eval x = .slice (some ad) m c) (hm : news.length = m * 4) (hnews : ∀ j u, news[j]? = some u → W.cell? (ad.add j) = some u) (h1 : ∀ u ∈ news, u.oneCell' = true) (hlen : n + m ≤ 1000000)
    (h : ∀ v' w', w'.ownsRow base 31 4 v' (n + m) (xs ++ news) → W.grownBy w' v.ownBlock → K (a.put o.dst v') w') :
    if Region.wanted o (yielded ops a.tmps) = true then Oper.wp Tryd.prog o a W K Q else Ex := by
  have hw : Region.wanted o (yielded ops a.tmps) = true := by simp [Region.wanted, hgd]
  rw [if_pos hw]
  obtain ⟨i, hi, hzz⟩ := Option.map_eq_some_iff.1 infoE
  simp only [Prod.mk.injEq] at hzz
  obtain ⟨hz, hsi, hby⟩ := hzz
  refine wp_append_own W s x 27 ho base 31 i _ 4 48 Tryd.underlying27 hi hz hsi hby rfl (by decide) v n xs hs hown ad m c news hx hm hnews h1 (by unfold maxLen; omega) (by omega) hb ?_
  intro v' w' q1 q2 _
  exact h v' w' q1 q2

theorem bel_none {B : Nat} {w W W' : World} (h : Below B w W) (hg : W.grownBy W' none) (hB : B ≤ W.heap.size) : Below B w W' := h.grown hg hB (fun k hk => by cases hk)

end Go.Proofs.YtabhgmpbokkjlaaDoor.tt
