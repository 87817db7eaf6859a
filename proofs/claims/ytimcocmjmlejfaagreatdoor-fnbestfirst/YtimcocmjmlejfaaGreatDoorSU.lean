import Derived.Test.YtimcocmjmlejfaaGreatDoorSH
import Derived.Test.YtimcocmjmlejfaaGreatDoorSVT
import Derived.Test.YtimcocmjmlejfaaGreatDoorST
namespace Go.Proofs.YtimcocmjmlejfaaGreatDoor.sv
open Go.ChangeShapes Go.WideShapes Go.ChangeAt Go.RowKit Go.Deep Go.Proofs.YtimcocmjmlejfaaGreatDoor.vr
set_option linter.unusedVariables false
set_option linter.unusedSimpArgs false

def XS (z : List ByteArray) (n : Nat) : List (List UInt8) := (List.range n).map fun i => (st.atS z i).data.toList

theorem xs_len (z : List ByteArray) (n : Nat) : (XS z n).length = n := by simp [XS]
theorem xs_at {z : List ByteArray} {n i : Nat} (h : i < n) : (XS z n)[i]? = some (st.atS z i).data.toList := by simp [XS, h]
theorem xs_tx {z : List ByteArray} {n i : Nat} (h : i < n) : tx (XS z n) i = (st.atS z i).data.toList := by unfold tx; rw [xs_at h]; rfl

theorem row_str {z : List ByteArray} {n b : Nat} {w : World} (h : w.rowIs b 9 n (fun i => .string (st.atS z i))) (hn : n ≤ 1048576) : sr.StrR w (.slice (some ⟨b, 0, none⟩) (XS z n).length (XS z n).length) (XS z n) := by
  refine ⟨b, 0, (XS z n).length, rfl, Nat.le_refl _, by rw [xs_len]; unfold maxLen; omega, fun i x hx => ?_⟩
  have hi : i < n := by have := (List.getElem?_eq_some_iff.1 hx).1; rwa [xs_len] at this
  rw [xs_at hi] at hx
  obtain rfl := Option.some.inj hx
  have := h.cell hi
  rw [Nat.zero_add, sr.strL_of]
  exact this

def OUT (z : List ByteArray) (n : Nat) : List (List UInt8) := outS (XS z n)
theorem out_len (z : List ByteArray) (n : Nat) : (OUT z n).length ≤ 2000 := by
  unfold OUT outS
  split
  · rw [List.length_map]; have := nf_len (XS z n); omega
  · simp

def Ans (B : Nat) (l : List (List UInt8)) (e : Ending) (w' : World) : Prop := ∃ g c, e = .returned (.slice (some ⟨g, 0, none⟩) l.length c) ∧ B ≤ g ∧ g < w'.heap.size ∧ sr.MkR w' g 0 l.length 1 0 ∧ st.Ss w' (some ⟨g, 0, none⟩) l.length (FMA l)

theorem ans_of {B : Nat} {l : List (List UInt8)} {v : Value} {w' : World} (h : sr.OwnS B w' v l) : Ans B l (.returned v) w' := by
  obtain ⟨g, c, rfl, h1, h2, h3, h4⟩ := own_marks h
  exact ⟨g, c, rfl, h1, h2, h3, h4⟩

theorem impl_at (z : List ByteArray) (n : Nat) (hn : n ≤ 1048576) (hs : ∀ i, i < n → (st.atS z i).size ≤ 1048576) (W : World) (b : Nat) (h : W.rowIs b 9 n (fun i => .string (st.atS z i))) :
    Calls Tryz.prog 7 #[.slice (some ⟨b, 0, none⟩) n n] W fun e w' => Ans W.heap.size (OUT z n) e w' ∧ Below W.heap.size W w' := by
  have := isort_any (XS z n) _ W (row_str h hn) (fun i hi => by rw [xs_len] at hi; rw [xs_tx hi]; have := hs i hi; simpa using this)
  rw [xs_len] at this
  refine this.mono ?_
  rintro e w' ⟨v', rfl, ho, hb⟩
  exact ⟨ans_of ho, hb⟩

theorem rowIs_below {w w' : World} {b n : Nat} {f : Nat → Value} (h : w.rowIs b 9 n f) (hb : Below w.heap.size w w') : w'.rowIs b 9 n f := by
  obtain ⟨c, hc, hs, hf⟩ := h
  exact ⟨c, (hb.block b (Array.getElem?_eq_some_iff.1 hc).1).trans hc, hs, hf⟩

end Go.Proofs.YtimcocmjmlejfaaGreatDoor.sv
