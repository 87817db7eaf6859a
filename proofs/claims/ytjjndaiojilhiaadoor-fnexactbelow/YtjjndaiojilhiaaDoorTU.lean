import Derived.Test.YtjjndaiojilhiaaDoorTS
namespace Go.Proofs.YtjjndaiojilhiaaDoor.tt
open Go.ChangeShapes Go.WideShapes Go.ChangeAt Go.RowKit Go.Deep Go.Maps
set_option linter.unusedVariables false
set_option linter.unusedSimpArgs false

/-! ### Trees of files: one branch more -/

theorem pre_lt (a : List UInt8) (b : UInt8) (l : List UInt8) : a < a ++ b :: l := by
  induction a with
  | nil => exact List.nil_lt_cons _ _
  | cons c a ih => rw [List.cons_append]; exact List.cons_lt_cons_iff.2 (.inr ⟨rfl, ih⟩)

/-- Nothing stands below the last entry. -/
theorem chd_last {E : Nat → En} {B : Nat → Nat} {k : Nat} (hA : Asc E (k + 1)) (x : List UInt8) : chd E B (k + 1) (pth E k ++ 47 :: x) = 0 := chd_no fun j hj e => by
  have h1 : pth E k < pth E j := by rw [e]; exact pre_lt _ _ _
  rcases Nat.lt_or_ge j k with h | h
  · exact List.lt_irrefl _ (List.lt_trans h1 (hA j k h (by omega)))
  · obtain rfl : j = k := by omega
    exact List.lt_irrefl _ h1

theorem pre_form (p x : List UInt8) : p ++ [47] ++ x = p ++ 47 :: x := by simp

/-- A map's block is no block of cells. -/
theorem map_cell {w : World} {b c o : Nat} {N : Nat} {f : List UInt8 → Nat} {v : Value} (h : PM w b N f) (hc : w.cell? ⟨c, o, none⟩ = some v) : c ≠ b := fun e => by
  subst e
  obtain ⟨D, ⟨es, ck, h1, _⟩, _⟩ := h
  simp [World.cell?, h1] at hc

theorem PM.congr {w : World} {b N : Nat} {f g : List UInt8 → Nat} (h : PM w b N f) (e : ∀ x, f x = g x) : PM w b N g := by
  obtain ⟨D, h1, h2, h3⟩ := h
  exact ⟨D, h1, fun x => by rw [h2 x, e x], fun x hx => by rw [← e x]; exact h3 x hx⟩

/-- Where a name was put, the map is that of one entry more. -/
theorem fM_here {E : Nat → En} {B B' : Nat → Nat} {k : Nat} {pre name : List UInt8} (hA : Asc E (k + 1)) (hB : ∀ j, j < k → B' j = B j) (hp : pth E k = pre ++ name) (hn : lst name = none) (x : List UInt8) : (if x = name then B' k + 1 else fM E B k pre x) = fM E B' (k + 1) pre x := by
  unfold fM
  by_cases hx : lst x = none
  · rw [if_pos hx, if_pos hx, chd_next hA hB, hp]
    by_cases e : x = name
    · rw [if_pos e, if_pos (by rw [e])]
    · rw [if_neg e, if_neg (fun h => e (List.append_cancel_left h).symm)]
  · rw [if_neg hx, if_neg hx, if_neg (fun e => hx (by rw [e]; exact hn))]

/-- Elsewhere it is as it was. -/
theorem fM_else {E : Nat → En} {B B' : Nat → Nat} {k : Nat} {pre : List UInt8} (hA : Asc E (k + 1)) (hB : ∀ j, j < k → B' j = B j) (hne : ∀ x, lst x = none → pth E k ≠ pre ++ x) (x : List UInt8) : fM E B k pre x = fM E B' (k + 1) pre x := by
  unfold fM
  by_cases hx : lst x = none
  · rw [if_pos hx, if_pos hx, chd_next hA hB, if_neg (hne x hx)]
  · rw [if_neg hx, if_neg hx]

theorem lst_mid (a b : List UInt8) : lst (a ++ 47 :: b) ≠ none := by
  rw [lst_app]
  cases lst b <;> simp

theorem Br.next {w w' : World} {E : Nat → En} {k rb rm N : Nat} {B M : Nat → Nat} (h : Br w E k rb rm N B M) (hT : Tr E (k + 1)) (nb nm : Nat) (c0 : w.cell? ⟨nb, 0, none⟩ = some (.int .i64 (k : Int)))
    (cd : (E k).kind = 1 → w.cell? ⟨nb, 1, none⟩ = some (.map (some nm)) ∧ PM w nm 0 (fun _ => 0) ∧ nm ≠ rm ∧ ∀ j, j < k → (E j).kind = 1 → nm ≠ M j)
    (cl : ¬ (E k).kind = 1 → w.cell? ⟨nb, 1, none⟩ = some (.map none)) (mb : Nat) (pre name : List UInt8) (hp : pth E k = pre ++ name) (hn : lst name = none)
    (hmb : (pre = [] ∧ mb = rm) ∨ ∃ j, j < k ∧ (E j).kind = 1 ∧ mb = M j ∧ pre = pth E j ++ [47])
    (hg : w.grownBy w' (some mb)) (hP : PM w' mb (N + 1) (fun x => if x = name then nb + 1 else fM E B k pre x)) :
    Br w' E (k + 1) rb rm (N + 1) (fun j => if j = k then nb else B j) (fun j => if j = k then nm else M j) := by
  have hA := hT.asc
  have hB : ∀ j, j < k → (fun j => if j = k then nb else B j) j = B j := fun j hj => if_neg (by omega)
  have hBk : (fun j => if j = k then nb else B j) k = nb := if_pos rfl
  -- the map that was written
  have hPM : ∃ f, PM w mb N f := by
    rcases hmb with ⟨_, rfl⟩ | ⟨j, hj, hk, rfl, _⟩
    · exact ⟨_, h.rootM⟩
    · exact ⟨_, (h.dir j hj hk).2⟩
  obtain ⟨fm, hPm⟩ := hPM
  have cell : ∀ {b o : Nat} {v : Value}, w.cell? ⟨b, o, none⟩ = some v → w'.cell? ⟨b, o, none⟩ = some v := fun hc =>
    hg.cell hc (fun e => by have := Option.some.inj e; exact map_cell hPm hc this)
  have keep : ∀ {b n : Nat} {f : List UInt8 → Nat}, PM w b n f → b ≠ mb → PM w' b n f := fun hq hne => hq.kept (hg.block _ hq.lt (fun e => hne (Option.some.inj e)))
  have here : PM w' mb (N + 1) (fM E (fun j => if j = k then nb else B j) (k + 1) pre) := hP.congr fun x => by
    have := fM_here (B' := fun j => if j = k then nb else B j) hA hB hp hn x
    rw [if_pos (rfl : k = k)] at this
    exact this
  have other : ∀ {b : Nat} {q : List UInt8}, PM w b N (fM E B k q) → b ≠ mb → (∀ x, lst x = none → pth E k ≠ q ++ x) → PM w' b (N + 1) (fM E (fun j => if j = k then nb else B j) (k + 1) q) := fun hq hne hx =>
    ((keep hq hne).congr fun x => fM_else hA hB hx x).mono (by omega)
  refine ⟨cell h.root0, cell h.root1, ?_, fun j hj => ?_, fun j hj hk => ?_, fun j hj hk => ?_, fun j hj hk => ?_, fun i j hi hj hki hkj => ?_⟩
  · rcases hmb with ⟨rfl, rfl⟩ | ⟨j, hj, hk, rfl, rfl⟩
    · exact here
    · refine other h.rootM (fun e => h.apart j hj hk e.symm) (fun x hx e => ?_)
      rw [hp, List.nil_append, pre_form] at e
      exact lst_mid _ _ (by rw [e]; exact hx)
  · rcases Nat.lt_or_ge j k with h' | h'
    · simp only [if_neg (show ¬ j = k by omega)]
      exact cell (h.num j h')
    · obtain rfl : j = k := by omega
      simp only [if_pos rfl]
      exact cell c0
  · rcases Nat.lt_or_ge j k with h' | h'
    · simp only [if_neg (show ¬ j = k by omega)]
      refine ⟨cell (h.dir j h' hk).1, ?_⟩
      rcases hmb with ⟨rfl, rfl⟩ | ⟨m, hm, hkm, rfl, rfl⟩
      · refine other (h.dir j h' hk).2 (h.apart j h' hk) (fun x hx e => ?_)
        rw [hp, List.nil_append, pre_form] at e
        exact lst_mid _ _ (by rw [← e]; exact hn)
      · by_cases hjm : j = m
        · subst hjm
          exact here
        · refine other (h.dir j h' hk).2 (fun e => hjm (h.inj j m h' hm hk hkm e)) (fun x hx e => ?_)
          rw [hp, pre_form, pre_form] at e
          have e2 : up (pth E m ++ 47 :: name) = up (pth E j ++ 47 :: x) := by rw [e]
          rw [up_plain hn, up_plain hx] at e2
          exact hjm (asc_one hA (show j < k + 1 by omega) (show m < k + 1 by omega) e2.symm)
    · obtain rfl : j = k := by omega
      simp only [if_pos rfl]
      obtain ⟨q1, q2, q3, q4⟩ := cd hk
      refine ⟨cell q1, ?_⟩
      have hne : nm ≠ mb := by
        rcases hmb with ⟨_, rfl⟩ | ⟨m, hm, hkm, rfl, _⟩
        · exact q3
        · exact q4 m hm hkm
      refine ((keep q2 hne).congr fun x => ?_).mono (by omega)
      unfold fM
      split
      · rw [pre_form, chd_last hA]
      · rfl
  · rcases Nat.lt_or_ge j k with h' | h'
    · simp only [if_neg (show ¬ j = k by omega)]
      exact cell (h.leaf j h' hk)
    · obtain rfl : j = k := by omega
      simp only [if_pos rfl]
      exact cell (cl hk)
  · rcases Nat.lt_or_ge j k with h' | h'
    · simp only [if_neg (show ¬ j = k by omega)]
      exact h.apart j h' hk
    · obtain rfl : j = k := by omega
      simp only [if_pos rfl]
      exact (cd hk).2.2.1
  · intro e
    rcases Nat.lt_or_ge i k with h' | h'
    · rcases Nat.lt_or_ge j k with h'' | h''
      · simp only [if_neg (show ¬ i = k by omega), if_neg (show ¬ j = k by omega)] at e
        exact h.inj i j h' h'' hki hkj e
      · obtain rfl : j = k := by omega
        simp only [if_neg (show ¬ i = j by omega), if_pos rfl] at e
        exact absurd e.symm ((cd hkj).2.2.2 i h' hki)
    · obtain rfl : i = k := by omega
      rcases Nat.lt_or_ge j i with h'' | h''
      · simp only [if_pos rfl, if_neg (show ¬ j = i by omega)] at e
        exact absurd e ((cd hki).2.2.2 j h'' hkj)
      · omega

end Go.Proofs.YtjjndaiojilhiaaDoor.tt
