import Derived.Test.YtlnagmdoepldmaaDoorSB
namespace Go.Proofs.YtlnagmdoepldmaaDoor.ex
open Go.ChangeShapes Go.WideShapes Go.ChangeAt Go.RowKit Go.Deep
set_option linter.unusedVariables false
set_option linter.unusedSimpArgs false

/-- What appendPart does at a node. -/
def Pt (O : Nat → Prop) (base r : Nat) (x : Value) (t : Tr) : Prop := ∀ (w : World) (v : Value) (l : List UInt8), w.ownsRow base 5 1 v l.length (byteCells l) → Rd base w → Nd w O r x t → l.length + (brak t.kind (txt r t)).length ≤ 70368744177664 →
    Calls Tryd.prog 46 #[v, x] w fun e w' => ∃ v', e = .returned v' ∧ App base w w' v' (l ++ brak t.kind (txt r t))

theorem pt_of {O : Nat → Prop} {base r : Nat} {x : Value} {t : Tr} (hO : ∀ bb, O bb → bb < base) (hk : exprK t.kind = true) (H : Sh O base r x t) : Pt O base r x t := by
  intro w v l hown hb hnd hlen
  have hnd0 := hnd
  cases r with
  | zero => exact hnd.elim
  | succ r =>
    obtain ⟨k, tt, n, ps⟩ := t
    obtain ⟨_, vs, _, _, hnv⟩ := hnd
    have hkk : exprK k = true := hk
    cases hnv <;> first
      | (exfalso; revert hkk; decide)
      | exact part_plain (by simp [Tr.kind]) (by decide) H w v l hown hb hnd0 hlen
      | exact part_brak hO (by simp [Tr.kind]) (by decide) H w v l hown hb hnd0 hlen

/-- A piece of a mix, and what it becomes. -/
def Piece (w : World) (O : Nat → Prop) (base r : Nat) (x : Value) (add : List UInt8) : Prop :=
  (∃ s : ByteArray, x = .iface 9 (.string s) ∧ add = s.data.toList) ∨ ∃ (T : TypeId) (p : Value) (t : Tr), x = .iface T p ∧ T ∈ exprT ∧ Nd w O r x t ∧ Pt O base r x t ∧ add = brak t.kind (txt r t)

theorem Piece.app {w w' : World} {O : Nat → Prop} {base r : Nat} {x v' : Value} {add l' : List UInt8} (hO : ∀ bb, O bb → bb < base) (hb : base ≤ w.heap.size) (h : Piece w O base r x add) (ha : App base w w' v' l') : Piece w' O base r x add := by
  rcases h with h | ⟨T, p, t, h1, h2, h3, h4, h5⟩
  · exact .inl h
  · exact .inr ⟨T, p, t, h1, h2, h3.app hO hb ha, h4, h5⟩

theorem take_flat {ad : List (List UInt8)} {j : Nat} (h : j < ad.length) : (ad.take (j + 1)).flatten = (ad.take j).flatten ++ ad[j] := by
  rw [List.take_succ_eq_append_getElem h, List.flatten_append]
  simp only [List.flatten_cons, List.flatten_nil, List.append_nil]
theorem take_le {ad : List (List UInt8)} {j : Nat} (h : j < ad.length) : (ad.take j).flatten.length + ad[j].length ≤ ad.flatten.length := by
  have h1 := take_flat h
  have h2 : ad.flatten = (ad.take (j + 1)).flatten ++ (ad.drop (j + 1)).flatten := by rw [← List.flatten_append, List.take_append_drop]
  have := congrArg List.length h2
  rw [h1] at this
  simp only [List.length_append] at this
  omega

set_option maxRecDepth 100000 in
set_option maxHeartbeats 1000000 in
theorem mix_any {O : Nat → Prop} {base r : Nat} (hO : ∀ bb, O bb → bb < base) (ps : List Value) (ad : List (List UInt8)) (w : World) (v : Value) (l : List UInt8) (g : Nat) (fr : Nat × Nat) (hrow : w.heap[g]? = some (.cells ps.toArray 20 fr)) (hown : w.ownsRow base 5 1 v l.length (byteCells l)) (hb : Rd base w) (hl : ad.length = ps.length)
    (hp : ∀ (i : Nat) (x : Value) (a : List UInt8), ps[i]? = some x → ad[i]? = some a → Piece w O base r x a) (hsz : l.length + ad.flatten.length ≤ 70368744177664) (hm : ps.length ≤ 1000) :
    Calls Tryd.prog 33 #[v, .slice (some ⟨g, 0, none⟩) ps.length ps.length] w fun e w' => ∃ v', e = .returned v' ∧ App base w w' v' (l ++ ad.flatten) := by
  go_enter Tryd.func33, Tryd.ntmps33
  go_wp2_with fail
  go_loopw [0, 6, 7, 8, 11] (fun tv _ _ _ i wr => ∃ j : Nat, j ≤ ps.length ∧ i = .int .i64 (j : Int) ∧ App base w wr tv (l ++ (ad.take j).flatten)) (fun _ _ _ _ i _ => ps.length - (intOf i).toNat)
  case atStart => exact ⟨0, Nat.zero_le _, rfl, by simpa using App.refl hown⟩
  case round =>
    obtain ⟨j, hj, rfl, happ⟩ := hrel
    have hbr := hb.app happ
    by_cases hjl : j < ps.length
    · have hjl' : (j : Int) < (ps.length : Int) := by omega
      have hja : j < ad.length := by omega
      have hP := (hp j ps[j] ad[j] (List.getElem?_eq_getElem hjl) (List.getElem?_eq_getElem hja)).app hO hb.le happ
      have HTF : Hid ((ad.take (j + 1)).flatten = (ad.take j).flatten ++ ad[j]) := take_flat hja
      have hle := take_le hja
      have hblk := happ.cells hrow (by decide)
      have c0 : wr.cell? ⟨g, j, none⟩ = some ps[j] := by simp [World.cell?, hblk, hjl]
      clear hblk
      rcases hP with ⟨s, hs, ha⟩ | ⟨T, p, t, hs, hT, hnd, hpt, ha⟩
      · rw [hs] at c0
        have a1 := anyS s
        have HA : Hid (ad[j] = s.data.toList) := ha
        have hsl : s.data.toList.length = ad[j].length := by rw [ha]
        clear hs ha
        go_wp2_with (first
          | (at_builtin; refine app_s wr rfl _ _ rfl _ _ rfl happ.own hbr.le s rfl (by simp only [List.length_append]; omega) ?_; intro v1 w1 ha1)
          | go_in)
        go_roundw
        case rel => exact ⟨j + 1, by omega, by go_num, by rw [HTF.out, HA.out, ← List.append_assoc]; exact happ.trans ha1⟩
        case measure => simp [intOf]; omega
      · rw [hs] at c0
        have a1 := fun w => (anyN T hT p w).1
        have a2 := fun w => (anyN T hT p w).2
        have hal : (brak t.kind (txt r t)).length = ad[j].length := by rw [ha]
        have HC := hpt wr _ _ happ.own hbr hnd (by simp only [List.length_append]; omega)
        rw [hs, ← ha] at HC
        have HC' : Hid (Calls Tryd.prog 46 #[_, .iface T p] wr fun e w' => ∃ v', e = .returned v' ∧ App base wr w' v' (l ++ (ad.take j).flatten ++ ad[j])) := HC
        clear HC hs ha hpt hnd
        go_wp2_with (go_at_call 46; refine HC'.out.mono ?_; rintro e w1 ⟨v1, rfl, ha1⟩)
        go_roundw
        case rel => exact ⟨j + 1, by omega, by go_num, by rw [HTF.out, ← List.append_assoc]; exact happ.trans ha1⟩
        case measure => simp [intOf]; omega
    · have hjl' : ¬ (j : Int) < (ps.length : Int) := by omega
      obtain rfl : j = ps.length := by omega
      have HE : Hid (ad.take ps.length = ad) := List.take_of_length_le (by omega)
      go_wp2_with fail
      go_ret
      exact ⟨_, rfl, by rw [← HE.out]; exact happ⟩

end Go.Proofs.YtlnagmdoepldmaaDoor.ex
