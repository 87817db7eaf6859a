import Derived.Test.YtbnmefponeomiaaDoorJC
import Derived.Test.YtbnmefponeomiaaDoorE
import Derived.Deep.RegionWith
namespace Go.Proofs.YtbnmefponeomiaaDoor.lx
open Go.ChangeShapes Go.WideShapes Go.ChangeAt Go.RowKit Go.Deep
set_option linter.unusedVariables false
set_option linter.unusedSimpArgs false

theorem shTo_of {s : ByteArray} : ∀ {k}, k ≤ s.size → (∀ b ∈ s.data.toList.take k, es.shB b ≠ []) → es.shTo s k = some (34 :: sh (s.data.toList.take k)) := by
  intro k
  induction k with
  | zero => intro _ _; simp [es.shTo, sh]
  | succ k ih =>
    intro hk hs
    have hlt : k < s.data.toList.length := by simp; omega
    have hg : s.data.toList[k]?.getD 0 = s.data.toList[k] := by rw [List.getElem?_eq_getElem hlt]; rfl
    have hs' : ∀ b ∈ s.data.toList.take k, es.shB b ≠ [] := fun b hb => hs b (by rw [List.take_succ_eq_append_getElem hlt]; simp only [List.mem_append]; exact .inl hb)
    have hk2 : ¬ es.shB s.data.toList[k] = [] := hs _ (by rw [List.take_succ_eq_append_getElem hlt]; simp)
    unfold es.shTo
    rw [ih (by omega) hs', hg]
    simp only [hk2, if_false]
    rw [sh_take hlt]
    simp

theorem kind3 {l : List UInt8} {x : Lx} (h : one l = some x) (hk : x.kind = 3) : x.text.length ≤ 4000 ∧ ∀ b ∈ x.text, es.shB b ≠ [] := by
  unfold one at h
  split at h
  · cases h
  · split at h
    · unfold word at h; split at h
      · cases h
      · cases h; simp at hk
    · split at h
      · unfold int at h; split at h
        · cases h
        · cases h; simp at hk
      · split at h
        · unfold text at h
          split at h
          · rename_i acc n ht
            cases h
            unfold txt at ht
            split at ht
            · rename_i o ac hst
              split at ht
              · cases ht; exact st_ok hst
              · cases ht
            · cases ht
          · cases h
        · unfold sign at h
          split at h
          · cases h; simp at hk
          · cases h

theorem show_piece {l : List UInt8} {x : Lx} (h : one l = some x) (hk : x.kind = 3) : (es.showA ⟨x.text.toArray⟩).data.toList = piece l x := by
  obtain ⟨h1, h2⟩ := kind3 h hk
  have hz : (⟨x.text.toArray⟩ : ByteArray).size = x.text.length := by simp [ByteArray.size]
  have ht : (⟨x.text.toArray⟩ : ByteArray).data.toList.take (⟨x.text.toArray⟩ : ByteArray).size = x.text := by simp [ByteArray.size]
  have hs := shTo_of (s := ⟨x.text.toArray⟩) (Nat.le_refl _) (by rw [ht]; exact h2)
  rw [ht] at hs
  unfold es.showA
  rw [if_neg (by omega), hs]
  simp [piece, hk]

theorem kind2 {l : List UInt8} {x : Lx} (h : one l = some x) (hk : x.kind = 2) : x.size = run isDig l ∧ piece l x = l.take x.size := by
  refine ⟨?_, by simp [piece, hk]⟩
  unfold one at h
  split at h
  · cases h
  · split at h
    · unfold word at h; split at h
      · cases h
      · cases h; simp at hk
    · split at h
      · unfold int at h; split at h
        · cases h
        · cases h; rfl
      · split at h
        · unfold text at h
          split at h
          · cases h; simp at hk
          · cases h
        · unfold sign at h
          split at h
          · cases h; simp at hk
          · cases h

theorem kind14 {l : List UInt8} {x : Lx} (h : one l = some x) (h3 : ¬ x.kind = 3) (h2 : ¬ x.kind = 2) : piece l x = x.text := by
  have hp : piece l x = l.take x.size := by simp [piece, h3]
  rw [hp]
  unfold one at h
  split at h
  · cases h
  · split at h
    · unfold word at h; split at h
      · cases h
      · cases h; rfl
    · split at h
      · unfold int at h; split at h
        · cases h
        · cases h; simp at h2
      · split at h
        · unfold text at h
          split at h
          · cases h; simp at h3
          · cases h
        · unfold sign at h
          split at h
          · rename_i k hk
            cases h
            have hpre := sgn_at hk
            unfold sgAt at hpre
            rw [List.isPrefixOf_iff_prefix] at hpre
            exact (List.prefix_iff_eq_take.1 hpre).symm
          · cases h

set_option maxHeartbeats 1000000 in
theorem same_any (k n a a' : Int) (t : ByteArray) (w : World) :
    Calls Tryd.prog 22 #[.agg #[.int .i64 k, .string t, .int .i64 n, .int .i64 a], .agg #[.int .i64 k, .string t, .int .i64 n, .int .i64 a']] w fun e w' => e = .returned (.bool true) ∧ Below w.heap.size w w' := by
  go_enter Tryd.func22, Tryd.ntmps22
  go_wp2
  go_ret
  exact ⟨rfl, ((Below.refl _ _).alloc (Nat.le_refl _) _).alloc (by simp) _⟩

theorem map_get {m l : List (Lx × Nat)} (h : m.map (fun z => (z.1.kind, z.1.text, z.1.num)) = l.map (fun z => (z.1.kind, z.1.text, z.1.num))) (i : Nat) (hi : i < l.length) (hm : i < m.length) : m[i].1.kind = l[i].1.kind ∧ m[i].1.text = l[i].1.text ∧ m[i].1.num = l[i].1.num := by
  have := congrArg (·[i]?) h
  simp only [List.getElem?_map, List.getElem?_eq_getElem hi, List.getElem?_eq_getElem hm] at this
  simp at this
  exact this

end Go.Proofs.YtbnmefponeomiaaDoor.lx
