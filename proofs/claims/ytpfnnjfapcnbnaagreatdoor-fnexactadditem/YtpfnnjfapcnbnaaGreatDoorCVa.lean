import Derived.Test.YtpfnnjfapcnbnaaGreatDoorRows
import Derived.Test.YtpfnnjfapcnbnaaGreatDoorLa
import Derived.Lib.ConvBytes
import Derived.ArgAppend
namespace Go.Proofs.YtpfnnjfapcnbnaaGreatDoor
open Go.ChangeShapes Go.WideShapes Go.ChangeAt Go.RowKit Go.Deep
set_option linter.unusedVariables false
structure ConvRow (w W1 : World) (cap : Nat) (S : ByteArray) : Prop where
 below : Below w.heap.size w W1
 size : W1.heap.size = w.heap.size + 1
 cells : ∀ j (h : j < S.size), W1.cell? ⟨w.heap.size, j, none⟩ = some (.int .u8 (S[j].toNat : Int))
 spare : ∀ j, j < cap → (W1.cell? ⟨w.heap.size, j, none⟩).isSome = true ∧ W1.frozen? ⟨w.heap.size, j, none⟩ = false
 le : S.size ≤ cap
 max : cap ≤ maxLen
theorem conv_row {P : Program} (w : World) (src dst e : TypeId) (S : ByteArray) (hS : S.size ≤ 1099511627776) (hs : P.underlying src = some .string) (hd : P.underlying dst = some (.slice e)) (he : P.underlying e = some (.int .u8)) :
  ∃ z cap W1, (convert src dst (.string S)).run P w = .ok (.slice (some ⟨w.heap.size, 0, none⟩) z cap) W1 ∧ z = S.size ∧ ConvRow w W1 cap S := by
 refine ⟨_, _, _, Lib.run_convert_string_bytes w src dst e S hs hd he, rfl, ?_, Lib.bytesWorld_size _ _ _, ?_, ?_, ?_, ?_⟩
 ·exact ⟨rfl, rfl, rfl, by rw [Lib.bytesWorld_size]; omega, fun k hk => Lib.bytesWorld_at_old w e S k hk⟩
 ·intro j hj
  rw [Lib.bytesWorld_cell w e S j hj]
  have : S.data.toList.getD j 0 = S[j] := by
   rw [List.getD_eq_getElem?_getD, List.getElem?_eq_getElem (by simpa using hj)]; rfl
  rw [this]
 ·intro j hj
  have hge := grownCap_ge w S.size 0 e
  have hz : (Lib.bytesCells w e S).size = grownCap w S.size 0 e := by
   simp [Lib.bytesCells]
   omega
  have hb := Lib.bytesWorld_at_new w e S
  refine ⟨?_, ?_⟩
  ·simp only [World.cell?, hb]
   rw [Array.getElem?_eq_getElem (by omega)]
   rfl
  ·simp only [World.frozen?, hb]
   simp
   omega
 ·exact grownCap_ge w S.size 0 e
 ·exact grownCap_le_maxLen w S.size 0 e (by unfold maxLen; omega)
theorem app_any {P : Program} (w : World) {ops : Array Oper} {rest : List Oper} {o : Oper} {a : Act} {Q : Exit → Act → World → Prop} (hgd : o.guard = none) (s x : Operand) (t : TypeId)
  (ho : o.op = .call { callee := .builtin .append, args := #[s, x], argTypes := #[t, t] }) (v xv : Value) (hs : a.eval s = v) (hx : a.eval x = xv) (v' : Value) (w' : World)
  (hr : ∀ ty, (Builtin.append_ #[t, t] ty #[v, xv]).run P w = .ok v' w') (h : wpList P ops Q rest (a.put o.dst v') w') : wpList P ops Q (o :: rest) a w :=
 wpList_plain hgd fun _ hK => by
  unfold Oper.wp execOp
  simp only [ho, resolve, invoke, builtin, Sem.run_bind, Sem.run_pure, Result.andThen_ok, List.map_toArray, List.map_cons, List.map_nil, hs, hx, hr]
  exact hK _ _ h
end Go.Proofs.YtpfnnjfapcnbnaaGreatDoor
