import Derived.Test.YthklplfpnciodaaGreatDoorFB
import Derived.Test.YthklplfpnciodaaGreatDoorXK
namespace Go.Proofs.YthklplfpnciodaaGreatDoor.ex
open Go.ChangeShapes Go.WideShapes Go.ChangeAt Go.RowKit Go.Deep
set_option linter.unusedVariables false
set_option linter.unusedSimpArgs false

/-- The names of binds and params among the first parts. -/
def bnTo (E : Nat → Ex) (ps : List Nat) (i : Nat) : List (List UInt8) := ((ps.take i).filter fun q => !exprK (E q).kind).map fun q => (E q).text.data.toList

theorem take_step {ps : List Nat} {i : Nat} (h : i < ps.length) : ps.take (i + 1) = ps.take i ++ [pAt ps i] := by
  rw [List.take_succ_eq_append_getElem h]
  congr 2
  simp [pAt, h]

theorem bn_step {E : Nat → Ex} {ps : List Nat} {i : Nat} (h : i < ps.length) : bnTo E ps (i + 1) = bnTo E ps i ++ if exprK (E (pAt ps i)).kind = true then [] else [(E (pAt ps i)).text.data.toList] := by
  rw [bnTo, take_step h, List.filter_append, List.map_append, bnTo]
  congr 1
  cases hk : exprK (E (pAt ps i)).kind <;> simp [hk]

theorem bn_len (E : Nat → Ex) (ps : List Nat) (i : Nat) : (bnTo E ps i).length ≤ ps.length := by
  rw [bnTo, List.length_map]
  exact Nat.le_trans (List.length_filter_le _ _) (by simp; omega)

theorem tr_text (E : Nat → Ex) (r q : Nat) : (treeP E r q).text = (E q).text := by cases r <;> rfl

theorem names_tree (E : Nat → Ex) (r : Nat) (ps : List Nat) : namesT (ps.map (treeP E r)) = bnTo E ps ps.length := by
  rw [namesT, bnTo, List.take_length, List.filter_map, List.map_map]
  have e1 : ((fun q : Tr => !exprK q.kind) ∘ treeP E r) = fun q => !exprK (E q).kind := by funext q; simp [tr_kind]
  have e2 : ((fun q : Tr => q.text.data.toList) ∘ treeP E r) = fun q => (E q).text.data.toList := by funext q; simp [tr_text]
  rw [e1, e2]

theorem StrR.zero (w : World) : StrR (w.alloc (.cells #[] 9)) (.slice (some ⟨w.heap.size, 0, none⟩) 0 0) [] := ⟨w.heap.size, 0, 0, rfl, Nat.le_refl _, by decide, fun i x h => by simp at h⟩

theorem StrR.kept {w w' : World} {v : Value} {xs : List (List UInt8)} {B : Nat} (h : StrR w v xs) (hb : Below B w w') (hB : w.heap.size ≤ B) : StrR w' v xs := h.below (hb.mono hB)

set_option maxRecDepth 100000 in
set_option maxHeartbeats 1000000 in
theorem sbound_any {E : Nat → Ex} {b n r : Nat} (hn : n ≤ 3000) (p len cap : Nat) (ps : List Nat) (av : Option Addr) (cp : Nat) (w : World) (N : Node E r p len ps) (hX : XsB w b n E) (hl : 0 < len) (hp : p + len ≤ n) (hP : PsB w av (ps.map (relV p))) :
    Calls Tryz.prog 30 #[.slice (some ⟨b, p * 4, none⟩) len cap, .slice av ps.length cp] w fun e w' => ∃ v, e = .returned v ∧ StrR w' v (bnTo E ps ps.length) ∧ Below w.heap.size w w' := by
  obtain ⟨bp, op, hav, hPc⟩ := hP
  have hav' : ps.length = 0 ∨ av = some ⟨bp, op, none⟩ := by simpa using hav
  have HCE : Hid (∀ i, i < ps.length → w.cell? ⟨bp, op + i, none⟩ = some (relV p (pAt ps i))) := fun i h => hPc i _ (by simp [h, pAt])
  have HN : Hid (Node E r p len ps) := N
  have hps : ps.length ≤ 3000 := by have := N.few; omega
  clear hav hPc N
  go_enter Tryz.func30, Tryz.ntmps30
  go_wp2
  go_loopw [5, 6] (fun v x wr => ∃ (i : Nat), i ≤ ps.length ∧ x = .int .i64 (i : Int) ∧ StrR wr v (bnTo E ps i) ∧ wr.ownsRow w.heap.size 9 1 v (bnTo E ps i).length ((bnTo E ps i).map strL) ∧ Below w.heap.size w wr) (fun _ x _ => ps.length - (intOf x).toNat)
  case atStart => exact ⟨0, Nat.zero_le _, rfl, StrR.zero w, own_none w _, (Below.refl _ _).alloc (Nat.le_refl _) _⟩
  case round =>
    obtain ⟨i, hi, rfl, hst, hown, hbel⟩ := hrel
    have hszb := hbel.size
    have hbl := bn_len E ps i
    by_cases h : i < ps.length
    · have h' : (i : Int) < (ps.length : Int) := by omega
      obtain rfl := hav'.resolve_left (by omega)
      have hXr := hX.below hbel
      obtain ⟨d, zq, e1, e2, e3, e4, e5⟩ := HN.out.at_ i h
      have ci : wr.cell? ⟨bp, op + i, none⟩ = some (.int .i64 (d : Int)) := by
        have cc := HCE.out i h
        rw [e1, relV, show p + d - p = d by omega] at cc
        exact (hbel.cell (p := ⟨bp, _, none⟩) (World.block_lt_of_cell? _ _ cc)).trans cc
      have hd : (d : Int) < (len : Int) := by omega
      obtain ⟨k0, k1, k2, k3⟩ := hXr (p + d) (by omega)
      rw [Nat.add_mul] at k0 k1 k2 k3
      have HXS : Hid (bnTo E ps (i + 1) = bnTo E ps i ++ if exprK (E (p + d)).kind = true then [] else [(E (p + d)).text.data.toList]) := by show _ = _; rw [bn_step h, e1]
      have b1 : ∀ o, Below w.heap.size w (wr.alloc o) := fun o => hbel.alloc hszb _
      cases hkq : exprK (E (p + d)).kind with
      | true =>
        rw [hkq, if_pos rfl, List.append_nil] at HXS
        have HST : Hid (StrR wr u5 (bnTo E ps (i + 1))) := by show StrR _ _ _; rw [HXS.out]; exact hst
        have HOW : Hid (wr.ownsRow w.heap.size 9 1 u5 (bnTo E ps (i + 1)).length ((bnTo E ps (i + 1)).map strL)) := by show World.ownsRow _ _ _ _ _ _ _; rw [HXS.out]; exact hown
        clear hown hst e1 e2 e3 e4 e5 hXr
        go_wp2_with (go_at_call 25; refine (exprK_any _ _).mono ?_; rw [hkq]; rintro e w' ⟨rfl, rfl⟩)
        go_roundw
        case rel => exact ⟨i + 1, by omega, by go_num, HST.out.kept ((Below.refl _ _).alloc (Nat.le_refl _) _) (Nat.le_refl _), HOW.out.alloc _, b1 _⟩
        case measure => simp [intOf]; omega
      | false =>
        rw [hkq, if_neg (by simp)] at HXS
        have HOW : Hid (∀ o o', ((wr.alloc o).alloc o').ownsRow w.heap.size 9 1 u5 (bnTo E ps i).length ((bnTo E ps i).map strL)) := fun o o' => (hown.alloc _).alloc _
        obtain ⟨t, ht⟩ : ∃ t, (E (p + d)).text = t := ⟨_, rfl⟩
        rw [ht] at k1
        have HT : Hid ((E (p + d)).text = t) := ht
        clear hown hst e1 e2 e3 e4 e5 hXr ht
        go_wp2_with (first
          | (go_at_call 25; refine (exprK_any _ _).mono ?_; rw [hkq]; rintro e w' ⟨rfl, rfl⟩)
          | (at_builtin; refine app_own _ rfl _ _ 24 rfl w.heap.size 9 (.string ⟨#[]⟩) 16 Tryz.underlying24 info9 rfl _ _ _ rfl (HOW.out _ _) ⟨_, 0, none⟩ 1 1 [.string t] rfl rfl ?c1 ?c2 ?c3 ?c4 ?c5 ?_)
          | go_in)
        case c1 => exact two_one _ _ (.string t) 9
        case c2 => first | rfl | (intro u hu; simp at hu; subst hu; rfl)
        case c3 => unfold maxLen; omega
        case c4 => omega
        case c5 => first | omega | (simp; omega)
        intro v' w' hown' hg
        have hb' := below_grown ((b1 _).alloc (by simp; omega) _) (HOW.out _ _) hg (by simp; omega)
        have hown3 : w'.ownsRow w.heap.size 9 1 v' (bnTo E ps (i + 1)).length ((bnTo E ps (i + 1)).map strL) := by
          rw [HXS.out, List.length_append, List.map_append, HT.out]
          simpa [strL_of] using hown'
        have hst3 : StrR w' v' (bnTo E ps (i + 1)) := StrR.own hown3 (by rw [HXS.out]; simp)
        clear hown' hg
        go_wp2
        go_roundw
        case rel => exact ⟨i + 1, by omega, by go_num, hst3, hown3, hb'⟩
        case measure => simp [intOf]; omega
    · have h' : ¬ (i : Int) < (ps.length : Int) := by omega
      obtain rfl : i = ps.length := by omega
      clear hown
      go_wp2
      go_ret
      exact ⟨_, rfl, hst, hbel⟩

end Go.Proofs.YthklplfpnciodaaGreatDoor.ex
