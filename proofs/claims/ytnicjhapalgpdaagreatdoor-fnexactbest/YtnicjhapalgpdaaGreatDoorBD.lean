import Derived.Test.YtnicjhapalgpdaaGreatDoorBB
import Derived.Test.YtnicjhapalgpdaaGreatDoorBC
namespace Go.Proofs.YtnicjhapalgpdaaGreatDoor.bs
open Go.ChangeShapes Go.WideShapes Go.ChangeAt Go.RowKit Go.Deep Go.Lib Go.Shelf Go.Proofs.YtnicjhapalgpdaaGreatDoor.vr Go.Proofs.YtnicjhapalgpdaaGreatDoor.sv Go.Proofs.YtnicjhapalgpdaaGreatDoor.rc
set_option linter.unusedVariables false
set_option linter.unusedSimpArgs false

theorem ml_of {W : World} (h : W.ShapedOpen Tryz.prog) : ML W := laysSP.s1_3 W h

/-- The answer, for texts that came in. -/
def OB (z : List ByteArray) (n : Nat) (c : ByteArray) : Int := bI (bst (XS z n) c.data.toList)

theorem spec_at (z : List ByteArray) (n : Nat) (c : ByteArray) (hc : c.size ≤ 1048576) (hn : n ≤ 1048576) (hs : ∀ i, i < n → (st.atS z i).size ≤ 1048576) (W : World) (b : Nat) (h : W.rowIs b 9 n (fun i => .string (st.atS z i))) :
    Calls Tryz.prog 5 #[.slice (some ⟨b, 0, none⟩) n n, .string c] W fun e w' => e = .returned (.int .i64 (OB z n c)) ∧ Below W.heap.size W w' := by
  have := sbest_any (XS z n) c hc _ W (row_str h hn) (fun i hi => by rw [xs_len] at hi; rw [xs_tx hi]; have := hs i hi; simpa using this) (by rw [xs_len]; exact hn)
  rw [xs_len] at this
  exact this

theorem impl_at (z : List ByteArray) (n : Nat) (c : ByteArray) (hc : c.size ≤ 1048576) (hn : n ≤ 1048576) (hs : ∀ i, i < n → (st.atS z i).size ≤ 1048576) (W : World) (hm : ML W) (b : Nat) (h : W.rowIs b 9 n (fun i => .string (st.atS z i))) :
    Calls Tryz.prog 7 #[.slice (some ⟨b, 0, none⟩) n n, .string c] W fun e w' => e = .returned (.int .i64 (OB z n c)) ∧ Below W.heap.size W w' := by
  have := ibest_any (XS z n) c hc _ W hm (row_str h hn) (fun i hi => by rw [xs_len] at hi; rw [xs_tx hi]; have := hs i hi; simpa using this)
  rw [xs_len] at this
  exact this

end Go.Proofs.YtnicjhapalgpdaaGreatDoor.bs
