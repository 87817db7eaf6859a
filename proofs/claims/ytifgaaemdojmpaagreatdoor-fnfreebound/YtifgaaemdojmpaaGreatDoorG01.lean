import Derived.WalkKit
import Derived.ProofKit
import Derived.OpenShut
import Derived.Below
import Derived.WalkSpells
import Derived.WalkSmall
import Derived.WalkLawsBesides
import Derived.Deep.OwnRows
import Derived.Lib.SlBytesRow
import Derived.Lib.BufferRead
import Derived.Laws.Bits64b
import Derived.Test.YtifgaaemdojmpaaGreatDoorRows
import Derived.Lib.AppendStr
namespace Go.Proofs.YtifgaaemdojmpaaGreatDoor
open Go.ChangeShapes Go.WideShapes Go.ChangeAt Go.RowKit Go.Deep
set_option linter.unusedVariables false

theorem ret_bool {a b : Bool} (h : a = b) : Ending.returned (.bool a) = .returned (.bool b) := by rw [h]
theorem ret_int {k : IntKind} {a b : Int} (h : a = b) : Ending.returned (.int k a) = .returned (.int k b) := by rw [h]
theorem ret_str {a b : ByteArray} (h : a = b) : Ending.returned (.string a) = .returned (.string b) := by rw [h]

theorem addr_add (b off i : Nat) : (⟨b, off, none⟩ : Addr).add i = ⟨b, off + i, none⟩ := by
  unfold Addr.add
  by_cases h : i = 0 <;> simp [h]

/-- An append to a slice of the call's own, of one-cell elements, what is known of the element type being one closed fact. -/
theorem app_own {P : Program} (w : World) {ops : Array Oper} {rest : List Oper} {o : Oper} {a : Act} {Q : Exit → Act → World → Prop} (hgd : o.guard = none) (s x : Operand) (t : TypeId)
    (ho : o.op = .call { callee := .builtin .append, args := #[s, x], argTypes := #[t, t] })
    (base : Nat) (e : TypeId) (z : Value) (bytes : Nat) (ht : P.underlying t = some (.slice e)) (hinfo : (P.info? e).map (fun i => (i.zero, i.size, i.bytes)) = some (some z, 1, bytes)) (hzs : z.cells.size = 1)
    (v : Value) (n : Nat) (xs : List Value) (hs : a.eval s = v) (hown : w.ownsRow base e 1 v n xs)
    (ad : Addr) (m c : Nat) (news : List Value) (hx : a.eval x = .slice (some ad) m c) (hl : news.length = m) (hnews : ∀ j u, news[j]? = some u → w.cell? (ad.add j) = some u) (h1 : ∀ u ∈ news, u.oneCell' = true)
    (h63 : n + m ≤ maxLen) (hbytes : (n + m) * bytes ≤ 140737488355328) (hbase : base ≤ w.heap.size)
    (h : ∀ v' w', w'.ownsRow base e 1 v' (n + m) (xs ++ news) → w.grownBy w' v.ownBlock → wpList P ops Q rest (a.put o.dst v') w') : wpList P ops Q (o :: rest) a w := by
  obtain ⟨i, hi, hzz⟩ := Option.map_eq_some_iff.1 hinfo
  simp only [Prod.mk.injEq] at hzz
  obtain ⟨hz, hsz, hb⟩ := hzz
  exact wpList_append_own w hgd s x t ho base e i z 1 bytes ht hi hz hsz hb hzs (by decide) v n xs hs hown ad m c news hx (by simpa using hl) hnews h1 h63 hbytes hbase (fun v' w' a b _ => h v' w' a b)

/-- The same, of elements of several cells. -/
theorem app_ownS {P : Program} (w : World) {ops : Array Oper} {rest : List Oper} {o : Oper} {a : Act} {Q : Exit → Act → World → Prop} (hgd : o.guard = none) (s x : Operand) (t : TypeId)
    (ho : o.op = .call { callee := .builtin .append, args := #[s, x], argTypes := #[t, t] })
    (base : Nat) (e : TypeId) (z : Value) (size bytes : Nat) (ht : P.underlying t = some (.slice e)) (hinfo : (P.info? e).map (fun i => (i.zero, i.size, i.bytes)) = some (some z, size, bytes)) (hzs : z.cells.size = size) (hsz : 0 < size)
    (v : Value) (n : Nat) (xs : List Value) (hs : a.eval s = v) (hown : w.ownsRow base e size v n xs)
    (ad : Addr) (m c : Nat) (news : List Value) (hx : a.eval x = .slice (some ad) m c) (hl : news.length = m * size) (hnews : ∀ j u, news[j]? = some u → w.cell? (ad.add j) = some u) (h1 : ∀ u ∈ news, u.oneCell' = true)
    (h63 : n + m ≤ maxLen) (hbytes : (n + m) * bytes ≤ 140737488355328) (hbase : base ≤ w.heap.size)
    (h : ∀ v' w', w'.ownsRow base e size v' (n + m) (xs ++ news) → w.grownBy w' v.ownBlock → wpList P ops Q rest (a.put o.dst v') w') : wpList P ops Q (o :: rest) a w := by
  obtain ⟨i, hi, hzz⟩ := Option.map_eq_some_iff.1 hinfo
  simp only [Prod.mk.injEq] at hzz
  obtain ⟨hz, hsi, hb⟩ := hzz
  exact wpList_append_own w hgd s x t ho base e i z size bytes ht hi hz hsi hb hzs hsz v n xs hs hown ad m c news hx hl hnews h1 h63 hbytes hbase (fun v' w' a b _ => h v' w' a b)

theorem below_grownS {w wr : World} {w' : World} {base : Nat} {e : TypeId} {size : Nat} {v : Value} {n : Nat} {xs : List Value} (hb : Below base w wr) (hown : wr.ownsRow base e size v n xs) (hg : wr.grownBy w' v.ownBlock) (hB : base ≤ wr.heap.size) : Below base w w' :=
  hb.grown hg hB (fun k hk => (hown.lt k hk).1)

theorem one_new (w : World) (u : Value) (e : TypeId) : ∀ j v, [u][j]? = some v → (w.alloc (.cells #[u] e)).cell? ((⟨w.heap.size, 0, none⟩ : Addr).add j) = some v := by
  intro j v h
  match j, h with
  | 0, h =>
    obtain rfl : u = v := by simpa using h
    simp [Addr.add]

theorem below_grown {w wr : World} {w' : World} {base : Nat} {e : TypeId} {v : Value} {n : Nat} {xs : List Value} (hb : Below base w wr) (hown : wr.ownsRow base e 1 v n xs) (hg : wr.grownBy w' v.ownBlock) (hB : base ≤ wr.heap.size) : Below base w w' :=
  hb.grown hg hB (fun k hk => (hown.lt k hk).1)

theorem own_below {w w' : World} {base : Nat} {e : TypeId} {size : Nat} {v : Value} {n : Nat} {xs : List Value} (h : w.ownsRow base e size v n xs) (hb : Below w.heap.size w w') : w'.ownsRow base e size v n xs :=
  h.kept (row := none) ⟨hb.os, hb.tape, hb.output, hb.size, fun k hk _ => hb.block k hk⟩ (by cases v.ownBlock <;> simp)

theorem bcell {W w1 : World} (hb : Below W.heap.size W w1) : (∀ b o, b < W.heap.size → w1.cell? ⟨b, o, none⟩ = W.cell? ⟨b, o, none⟩) ∧ (∀ b o, b < W.heap.size → w1.frozen? ⟨b, o, none⟩ = W.frozen? ⟨b, o, none⟩) :=
  ⟨fun b o h => hb.cell (p := ⟨b, o, none⟩) h, fun b o h => hb.frozen (p := ⟨b, o, none⟩) h⟩

theorem own_shape {w : World} {base : Nat} {e : TypeId} {size : Nat} {v : Value} {n : Nat} {xs : List Value} (h : w.ownsRow base e size v n xs) : ∃ a cap, v = .slice a n cap := by
  rcases h.2 with ⟨rfl, rfl⟩ | ⟨g, cap, cur, rfl, _⟩
  · exact ⟨_, _, rfl⟩
  · exact ⟨_, _, rfl⟩

theorem byte_ne {a b : UInt8} (h : ¬ a = b) : ((a.toNat : Int) == (b.toNat : Int)) = false := by
  rw [beq_eq_false_iff_ne]
  intro e
  exact h (UInt8.toNat_inj.1 (by omega))

/-- The bytes of a text, as cells. -/
def byteCells (l : List UInt8) : List Value := l.map fun b => Value.int .u8 (b.toNat : Int)

theorem byteCells_append (l m : List UInt8) : byteCells (l ++ m) = byteCells l ++ byteCells m := by simp [byteCells]
theorem byteCells_one (b : UInt8) : byteCells [b] = [Value.int .u8 (b.toNat : Int)] := rfl
theorem byteCells_oneCell (l : List UInt8) : ∀ u ∈ byteCells l, u.oneCell' = true := by
  intro u hu
  obtain ⟨b, _, rfl⟩ := List.mem_map.1 hu
  rfl

/-- 'string(b)' of a row of the call's own. -/
theorem own_string {P : Program} {w : World} {base e src dst : Nat} {v : Value} {n : Nat} {l : List UInt8} (hs : P.underlying src = some (.slice e)) (he : P.underlying e = some (.int .u8)) (hd : P.underlying dst = some .string)
    (h : w.ownsRow base e 1 v n (byteCells l)) : (convert src dst v).run P w = .ok (.string ⟨l.toArray⟩) w := by
  obtain ⟨hl, h⟩ := h
  have hl' : l.length = n := by simpa [byteCells] using hl
  rcases h with ⟨rfl, rfl⟩ | ⟨g, cap, cur, rfl, hb, hg, hc, hm, hz, ht⟩
  · have : l = [] := List.length_eq_zero_iff.1 hl'
    subst this
    exact Lib.run_convert_nil_bytes w src dst e 0 hs he hd
  · subst hl'
    have hB : Lib.Bytes w g 0 ⟨l.toArray⟩ := fun i hi => by
      have hi' : i < l.length := by simpa [ByteArray.size] using hi
      have e1 : (byteCells l)[i]? = some (Value.int .u8 (l[i].toNat : Int)) := by simp [byteCells, hi']
      rw [← ht, List.getElem?_take_of_lt (by omega)] at e1
      have e2 : cur[i]? = some (Value.int .u8 (l[i].toNat : Int)) := by simpa using e1
      rw [Nat.zero_add]
      simp only [World.cell?, hg]
      show cur[i]? = _
      rw [e2]
      rfl
    have := Lib.run_convert_whole (P := P) w src e dst hs he hd g 0 ⟨l.toArray⟩ hB cap
    simpa [ByteArray.size] using this

end Go.Proofs.YtifgaaemdojmpaaGreatDoor

namespace Go.Proofs.YtifgaaemdojmpaaGreatDoor.es
open Go.ChangeShapes Go.WideShapes Go.ChangeAt Go.RowKit Go.Deep
set_option linter.unusedVariables false

def ESC : Array Value := #[.int .u8 110, .int .u8 10, .int .u8 116, .int .u8 9, .int .u8 34, .int .u8 34, .int .u8 92, .int .u8 92]

/-- The table of escapes, in its own block. -/
def EscB (w : World) : Prop := ∃ t fr, w.heap[2]? = some (.cells ESC t fr)

theorem EscB.below {w w' : World} (h : EscB w) (hb : Below w.heap.size w w') : EscB w' := by
  obtain ⟨t, fr, h⟩ := h
  exact ⟨t, fr, by rw [hb.block 2 (Array.getElem?_eq_some_iff.1 h).1]; exact h⟩

def shown : Nat → UInt8 | 0 => 110 | 1 => 116 | 2 => 34 | _ => 92
def meant : Nat → UInt8 | 0 => 10 | 1 => 9 | 2 => 34 | _ => 92

theorem idx0 (w : World) : (Instr.index 195 (.agg ESC) (.int .i64 0)).run Tryz.prog w = .ok (.agg #[.int .u8 ((shown 0).toNat : Int), .int .u8 ((meant 0).toNat : Int)]) w := by kernel_rfl
theorem idx1 (w : World) : (Instr.index 195 (.agg ESC) (.int .i64 1)).run Tryz.prog w = .ok (.agg #[.int .u8 ((shown 1).toNat : Int), .int .u8 ((meant 1).toNat : Int)]) w := by kernel_rfl
theorem idx2 (w : World) : (Instr.index 195 (.agg ESC) (.int .i64 2)).run Tryz.prog w = .ok (.agg #[.int .u8 ((shown 2).toNat : Int), .int .u8 ((meant 2).toNat : Int)]) w := by kernel_rfl
theorem idx3 (w : World) : (Instr.index 195 (.agg ESC) (.int .i64 3)).run Tryz.prog w = .ok (.agg #[.int .u8 ((shown 3).toNat : Int), .int .u8 ((meant 3).toNat : Int)]) w := by kernel_rfl
theorem idx_at (k : Nat) (hk : k < 4) (w : World) : (Instr.index 195 (.agg ESC) (.int .i64 ((k : Nat) : Int))).run Tryz.prog w = .ok (.agg #[.int .u8 ((shown k).toNat : Int), .int .u8 ((meant k).toNat : Int)]) w := by
  have h : k = 0 ∨ k = 1 ∨ k = 2 ∨ k = 3 := by omega
  rcases h with rfl | rfl | rfl | rfl
  · exact idx0 w
  · exact idx1 w
  · exact idx2 w
  · exact idx3 w

/-- What a byte is shown as; nothing where no text can mean it. -/
def shB (b : UInt8) : List UInt8 := if b = 10 then [92, 110] else if b = 9 then [92, 116] else if b = 34 then [92, 34] else if b = 92 then [92, 92] else if b.toNat < 32 then [] else [b]

theorem shB_esc {b : UInt8} {k : Nat} (hk : k < 4) (h0 : ∀ j, j < k → ¬ b = meant j) (h : b = meant k) : shB b = [92, shown k] := by
  have h' : k = 0 ∨ k = 1 ∨ k = 2 ∨ k = 3 := by omega
  rcases h' with rfl | rfl | rfl | rfl <;> subst h <;> rfl

theorem shB_no {b : UInt8} (h0 : ∀ j, j < 4 → ¬ b = meant j) : shB b = if b.toNat < 32 then [] else [b] := by
  have h1 : ¬ b = 10 := h0 0 (by omega)
  have h2 : ¬ b = 9 := h0 1 (by omega)
  have h3 : ¬ b = 34 := h0 2 (by omega)
  have h4 : ¬ b = 92 := h0 3 (by omega)
  simp [shB, h1, h2, h3, h4]

theorem row_new (w : World) (l : List UInt8) (e : TypeId) (hl : l.length ≤ maxLen) : (w.alloc (.cells (byteCells l).toArray e)).ownsRow w.heap.size e 1 (.slice (some ⟨w.heap.size, 0, none⟩) l.length l.length) l.length (byteCells l) := by
  refine ⟨by simp [byteCells], .inr ⟨w.heap.size, l.length, _, rfl, Nat.le_refl _, heap_alloc_new w _, Nat.le_refl _, hl, by simp [byteCells], by simp only [Nat.mul_one]; exact List.take_of_length_le (by simp [byteCells])⟩⟩

theorem lit_string (w : World) (l : List UInt8) (hl : l.length ≤ maxLen) :
    (convert 22 9 (.slice (some ⟨w.heap.size, 0, none⟩) l.length l.length)).run Tryz.prog (w.alloc (.cells (byteCells l).toArray 5)) = .ok (.string ⟨l.toArray⟩) (w.alloc (.cells (byteCells l).toArray 5)) :=
  own_string Tryz.underlying22 Tryz.underlying5 Tryz.underlying9 (row_new w l 5 hl)

theorem lit1 (w : World) (x : UInt8) : (convert 22 9 (.slice (some ⟨w.heap.size, 0, none⟩) 1 1)).run Tryz.prog (w.alloc (.cells #[.int .u8 (x.toNat : Int)] 5)) = .ok (.string ⟨[x].toArray⟩) (w.alloc (.cells #[.int .u8 (x.toNat : Int)] 5)) :=
  lit_string w [x] (show 1 ≤ maxLen by decide)

theorem lit2 (w : World) (O : Obj) (x y : UInt8) : (convert 22 9 (.slice (some ⟨w.heap.size + 1, 0, none⟩) 2 2)).run Tryz.prog ((w.alloc O).alloc (.cells #[.int .u8 (x.toNat : Int), .int .u8 (y.toNat : Int)] 5)) = .ok (.string ⟨[x, y].toArray⟩) ((w.alloc O).alloc (.cells #[.int .u8 (x.toNat : Int), .int .u8 (y.toNat : Int)] 5)) := by
  have h := lit_string (w.alloc O) [x, y] (show 2 ≤ maxLen by decide)
  have e : (w.alloc O).heap.size = w.heap.size + 1 := by simp
  rw [e] at h
  exact h

set_option maxRecDepth 100000 in
theorem sb_any (b : UInt8) (w : World) (hE : EscB w) :
    Calls Tryz.prog 110 #[.int .u8 (b.toNat : Int)] w fun e w' => e = .returned (.string ⟨(shB b).toArray⟩) ∧ Below w.heap.size w w' := by
  obtain ⟨tt, fr, hg1⟩ := hE
  go_enter Tryz.func110, Tryz.ntmps110
  go_wp2_with (refine wpList_load_row rfl 195 _ rfl 2 rfl tt ESC fr _ hg1 Tryz.underlying195 rfl (by kernel_rfl) ?_)
  clear hg1
  go_loopw [4, 6] (fun _ i wr => ∃ k : Nat, k ≤ 4 ∧ i = .int .i64 k ∧ (∀ j, j < k → ¬ b = meant j) ∧ Below w.heap.size w wr) (fun _ i _ => 4 - (intOf i).toNat)
  case atStart => exact ⟨0, by omega, rfl, fun j hj => by omega, Below.refl _ _⟩
  case round =>
    obtain ⟨k, hk, rfl, hno, hbel⟩ := hrel
    have HN : Hid (∀ j, j < k → ¬ b = meant j) := hno
    clear hno
    have hsz := hbel.size
    by_cases hlt : k < 4
    · have hix := idx_at k hlt
      by_cases he : b = meant k
      · have he' : ((b.toNat : Int) == ((meant k).toNat : Int)) = true := by rw [he]; simp
        have HS : Hid (shB b = [92, shown k]) := shB_esc hlt HN.out he
        clear he
        have hcv : ∀ O, (convert 22 9 (.slice (some ⟨wr.heap.size + 1, 0, none⟩) 2 2)).run Tryz.prog ((wr.alloc O).alloc (.cells #[.int .u8 92, .int .u8 ((shown k).toNat : Int)] 5)) = .ok (.string ⟨[92, shown k].toArray⟩) ((wr.alloc O).alloc (.cells #[.int .u8 92, .int .u8 ((shown k).toNat : Int)] 5)) := fun O => lit2 wr O 92 (shown k)
        go_wp2
        go_ret
        exact ⟨ret_str (by rw [HS.out]), (hbel.alloc hsz _).alloc (by simp; omega) _⟩
      · have he' : ((b.toNat : Int) == ((meant k).toNat : Int)) = false := by
          rw [beq_eq_false_iff_ne]
          intro h
          exact he (UInt8.toNat_inj.1 (by omega))
        go_wp2
        go_roundw
        case rel => exact ⟨k + 1, by omega, by go_num, fun j hj => by
          rcases Nat.lt_or_ge j k with h | h
          · exact HN.out j h
          · obtain rfl : j = k := by omega
            exact he, hbel.alloc hsz _⟩
        case measure => simp [intOf]; omega
    · obtain rfl : k = 4 := by omega
      have HS : Hid (shB b = if b.toNat < 32 then [] else [b]) := shB_no HN.out
      by_cases h32 : b.toNat < 32
      · go_wp2
        go_ret
        exact ⟨ret_str (by rw [HS.out, if_pos h32]), hbel⟩
      · have hcv : (convert 22 9 (.slice (some ⟨wr.heap.size, 0, none⟩) 1 1)).run Tryz.prog (wr.alloc (.cells #[.int .u8 (b.toNat : Int)] 5)) = .ok (.string ⟨[b].toArray⟩) (wr.alloc (.cells #[.int .u8 (b.toNat : Int)] 5)) :=
          lit1 wr b
        go_wp2
        go_ret
        exact ⟨ret_str (by rw [HS.out, if_neg h32]), hbel.alloc hsz _⟩

end Go.Proofs.YtifgaaemdojmpaaGreatDoor.es

namespace Go.Proofs.YtifgaaemdojmpaaGreatDoor.es
open Go.ChangeShapes Go.WideShapes Go.ChangeAt Go.RowKit Go.Deep
set_option linter.unusedVariables false

/-- What the first k bytes are shown as, behind the first sign. -/
def shTo (s : ByteArray) : Nat → Option (List UInt8)
  | 0 => some [34]
  | k + 1 => match shTo s k with
    | some l => if shB (s.data.toList[k]?.getD 0) = [] then none else some (l ++ shB (s.data.toList[k]?.getD 0))
    | none => none
def showA (s : ByteArray) : ByteArray := if 4000 < s.size then ⟨#[]⟩ else match shTo s s.size with | some l => ⟨(l ++ [34]).toArray⟩ | none => ⟨#[]⟩

theorem get_at {s : ByteArray} {k : Nat} (h : k < s.size) : s.data.toList[k]?.getD 0 = s[k] := by
  rw [List.getElem?_eq_getElem (by simpa using h)]; rfl

theorem shB_len (b : UInt8) : (shB b).length ≤ 2 := by
  unfold shB
  repeat' split
  all_goals simp

theorem shTo_len {s : ByteArray} : ∀ {k l}, shTo s k = some l → l.length ≤ 1 + 2 * k := by
  intro k
  induction k with
  | zero => intro l h; cases h; simp
  | succ k ih =>
    intro l h
    unfold shTo at h
    split at h
    · rename_i m hm
      split at h
      · cases h
      · cases h
        have := ih hm
        have := shB_len (s.data.toList[k]?.getD 0)
        simp only [List.length_append]
        omega
    · cases h

theorem shTo_step {s : ByteArray} {k : Nat} {l : List UInt8} (hk : k < s.size) (h : shTo s k = some l) : shTo s (k + 1) = if shB s[k] = [] then none else some (l ++ shB s[k]) := by
  have e := get_at hk
  unfold shTo
  rw [h]
  simp only [e]

theorem shTo_none {s : ByteArray} {k : Nat} (h : shTo s k = none) : ∀ n, shTo s (k + n) = none := by
  intro n
  induction n with
  | zero => exact h
  | succ n ih => rw [← Nat.add_assoc]; unfold shTo; rw [ih]

theorem show_no {s : ByteArray} {k : Nat} {l : List UInt8} (hk : k < s.size) (h : shTo s k = some l) (hb : shB s[k] = []) : showA s = ⟨#[]⟩ := by
  have h1 : shTo s (k + 1) = none := by rw [shTo_step hk h, if_pos hb]
  have h2 := shTo_none h1 (s.size - (k + 1))
  rw [show k + 1 + (s.size - (k + 1)) = s.size by omega] at h2
  unfold showA
  rw [h2]
  split <;> rfl

theorem show_yes {s : ByteArray} {l : List UInt8} (hs : ¬ 4000 < s.size) (h : shTo s s.size = some l) : showA s = ⟨(l ++ [34]).toArray⟩ := by
  unfold showA
  rw [if_neg hs, h]

theorem two_new (w : World) (x y : Value) (e : TypeId) : ∀ j v, [x, y][j]? = some v → (w.alloc (.cells #[x, y] e)).cell? ((⟨w.heap.size, 0, none⟩ : Addr).add j) = some v := by
  intro j v h
  match j, h with
  | 0, h =>
    obtain rfl : x = v := by simpa using h
    simp [Addr.add]
  | 1, h =>
    obtain rfl : y = v := by simpa using h
    simp [Addr.add]

theorem info5 : (Tryz.prog.info? 5).map (fun i => (i.zero, i.size, i.bytes)) = some (some (.int .u8 0), 1, 1) := by kernel_rfl

theorem q_row (w : World) : (w.alloc (.cells #[.int .u8 34] 5)).ownsRow w.heap.size 5 1 (.slice (some ⟨w.heap.size, 0, none⟩) 1 1) 1 (byteCells [34]) := row_new w [34] 5 (show 1 ≤ maxLen by decide)

set_option maxRecDepth 100000 in
theorem impl_any (s : ByteArray) (hs : s.size ≤ 1048576) (w : World) (hE : EscB w) :
    Calls Tryz.prog 94 #[.string s] w fun e w' => e = .returned (.string (showA s)) ∧ Below w.heap.size w w' := by
  by_cases hbig : 4000 < s.size
  · go_enter Tryz.func94, Tryz.ntmps94
    go_wp2
    go_ret
    exact ⟨ret_str (by rw [showA, if_pos hbig]), Below.refl _ _⟩
  obtain ⟨i0, hi, hz0, hz1, hz2⟩ := info_parts info5
  go_enter Tryz.func94, Tryz.ntmps94
  go_wp2
  go_loopw [3, 4, 5, 12] (fun v _ _ i wr => ∃ (k : Nat) (l : List UInt8), k ≤ s.size ∧ i = .int .i64 k ∧ shTo s k = some l ∧ wr.ownsRow w.heap.size 5 1 v l.length (byteCells l) ∧ Below w.heap.size w wr) (fun _ _ _ i _ => s.size - (intOf i).toNat)
  case atStart => exact ⟨0, [34], Nat.zero_le _, rfl, rfl, q_row w, (Below.refl _ _).alloc (Nat.le_refl _) _⟩
  case round =>
    obtain ⟨k, l, hk, rfl, hsh, hown, hbel⟩ := hrel
    have HS : Hid (shTo s k = some l) := hsh
    have hll := shTo_len hsh
    clear hsh
    have hsz := hbel.size
    by_cases hlt : k < s.size
    · have hki : (k : Int) < (s.size : Int) := by omega
      have hEr := hE.below hbel
      have hbl := shB_len s[k]
      cases hb : shB s[k] with
      | nil =>
        have HB : Hid (shB s[k] = []) := hb
        go_wp2_with (first
          | (go_at_call 110; refine (sb_any _ _ hEr).mono ?_; rw [HB.out]; rintro e w1 ⟨rfl, hl1⟩)
          | go_in)
        go_ret
        exact ⟨ret_str (show_no hlt HS.out HB.out).symm, hbel.trans (hl1.mono hsz)⟩
      | cons x r =>
        have HB : Hid (shB s[k] = x :: r) := hb
        have hxl : (x :: r).length ≤ 2 := by rw [← hb]; exact hbl
        have hne : ((⟨(x :: r).toArray⟩ : ByteArray).toList.isEmpty) = false := by simp [ByteArray.toList_eq]
        have hzx : (⟨(x :: r).toArray⟩ : ByteArray).size = (x :: r).length := by simp [ByteArray.size]
        clear hb
        go_wp2_with (first
          | (go_at_call 110; refine (sb_any _ _ hEr).mono ?_; rw [HB.out]; rintro e w1 ⟨rfl, hl1⟩)
          | (at_builtin; refine Lib.wpList_append_own_string _ rfl _ _ 22 9 rfl w.heap.size 5 i0 Tryz.underlying22 Tryz.underlying9 hi hz0 hz1 hz2 _ _ _ rfl (own_below hown hl1) _ rfl ?c3 ?c4 ?c5 ?_)
          | go_in)
        case c3 => rw [hzx]; unfold maxLen; omega
        case c4 => rw [hzx]; omega
        case c5 => have := hl1.size; omega
        intro v' w2 hown2 hg2 _
        have hb2 := below_grown (hbel.trans (hl1.mono hsz)) (own_below hown hl1) hg2 (by have := hl1.size; omega)
        have hown3 : w2.ownsRow w.heap.size 5 1 v' (l ++ (x :: r)).length (byteCells (l ++ (x :: r))) := by
          rw [byteCells_append, List.length_append, ← hzx]
          exact hown2
        clear hown2
        go_wp2
        go_roundw
        case rel => exact ⟨k + 1, l ++ (x :: r), by omega, by go_num, by rw [shTo_step hlt HS.out, HB.out]; simp, hown3, hb2⟩
        case measure => simp [intOf]; omega
    · obtain rfl : k = s.size := by omega
      have HY : Hid (showA s = ⟨(l ++ [34]).toArray⟩) := show_yes hbig HS.out
      go_wp2_with (first
        | (at_builtin; refine app_own _ rfl _ _ 22 rfl w.heap.size 5 (.int .u8 0) 1 Tryz.underlying22 info5 rfl _ _ _ rfl (hown.alloc _) ⟨wr.heap.size, 0, none⟩ 1 1 (byteCells [34]) rfl rfl ?c1 (byteCells_oneCell _) ?c3 ?c4 ?c5 ?_)
        | go_in)
      case c1 => exact one_new _ _ _
      case c3 => unfold maxLen; omega
      case c4 => omega
      case c5 => simp; omega
      intro v' w' hown' hg
      have hb' := below_grown (hbel.alloc hsz _) (hown.alloc _) hg (by simp; omega)
      rw [← byteCells_append] at hown'
      have hconv := own_string (P := Tryz.prog) Tryz.underlying22 Tryz.underlying5 Tryz.underlying9 hown'
      go_wp2
      go_ret
      exact ⟨ret_str HY.out.symm, hb'⟩

set_option maxRecDepth 100000 in
theorem spec_any (s : ByteArray) (hs : s.size ≤ 1048576) (w : World) :
    Calls Tryz.prog 60 #[.string s] w fun e w' => e = .returned (.string (showA s)) ∧ Below w.heap.size w w' := by
  by_cases hbig : 4000 < s.size
  · go_enter Tryz.func60, Tryz.ntmps60
    go_wp2
    go_ret
    exact ⟨ret_str (by rw [showA, if_pos hbig]), Below.refl _ _⟩
  go_enter Tryz.func60, Tryz.ntmps60
  go_wp2
  go_loopw [3, 4] (fun v i wr => ∃ (k : Nat) (l : List UInt8), k ≤ s.size ∧ i = .int .i64 k ∧ shTo s k = some l ∧ wr.ownsRow w.heap.size 5 1 v l.length (byteCells l) ∧ Below w.heap.size w wr) (fun _ i _ => s.size - (intOf i).toNat)
  case atStart => exact ⟨0, [34], Nat.zero_le _, rfl, rfl, q_row w, (Below.refl _ _).alloc (Nat.le_refl _) _⟩
  case round =>
    obtain ⟨k, l, hk, rfl, hsh, hown, hbel⟩ := hrel
    have HS : Hid (shTo s k = some l) := hsh
    have hll := shTo_len hsh
    clear hsh
    have hsz := hbel.size
    by_cases hlt : k < s.size
    · have hki : (k : Int) < (s.size : Int) := by omega
      by_cases e10 : s[k] = 10
      · have HB : Hid (shB s[k] = [92, 110]) := by show shB _ = _; rw [e10]; rfl
        have q10 : ((s[k].toNat : Int) == 10) = true := by rw [e10]; rfl
        clear e10
        go_wp2_with (first
          | (at_builtin; refine app_own _ rfl _ _ 22 rfl w.heap.size 5 (.int .u8 0) 1 Tryz.underlying22 info5 rfl _ _ _ rfl (hown.alloc _) ⟨wr.heap.size, 0, none⟩ 2 2 (byteCells [92, 110]) rfl rfl ?c1 (byteCells_oneCell _) ?c3 ?c4 ?c5 ?_)
          | go_in)
        case c1 => exact two_new _ _ _ _
        case c3 => unfold maxLen; omega
        case c4 => omega
        case c5 => first | omega | (simp; omega)
        intro v' w' hown' hg
        have hb' := below_grown (hbel.alloc hsz _) (hown.alloc _) hg (by simp; omega)
        rw [← byteCells_append] at hown'
        go_wp2
        go_roundw
        case rel => exact ⟨k + 1, l ++ [92, 110], by omega, by go_num, by rw [shTo_step hlt HS.out, HB.out]; simp, by rw [List.length_append]; exact hown', hb'⟩
        case measure => simp [intOf]; omega
      have q10 : ((s[k].toNat : Int) == 10) = false := byte_ne e10
      by_cases e9 : s[k] = 9
      · have HB : Hid (shB s[k] = [92, 116]) := by show shB _ = _; rw [e9]; rfl
        have q9 : ((s[k].toNat : Int) == 9) = true := by rw [e9]; rfl
        clear e10 e9
        go_wp2_with (first
          | (at_builtin; refine app_own _ rfl _ _ 22 rfl w.heap.size 5 (.int .u8 0) 1 Tryz.underlying22 info5 rfl _ _ _ rfl (hown.alloc _) ⟨wr.heap.size, 0, none⟩ 2 2 (byteCells [92, 116]) rfl rfl ?c1 (byteCells_oneCell _) ?c3 ?c4 ?c5 ?_)
          | go_in)
        case c1 => exact two_new _ _ _ _
        case c3 => unfold maxLen; omega
        case c4 => omega
        case c5 => first | omega | (simp; omega)
        intro v' w' hown' hg
        have hb' := below_grown (hbel.alloc hsz _) (hown.alloc _) hg (by simp; omega)
        rw [← byteCells_append] at hown'
        go_wp2
        go_roundw
        case rel => exact ⟨k + 1, l ++ [92, 116], by omega, by go_num, by rw [shTo_step hlt HS.out, HB.out]; simp, by rw [List.length_append]; exact hown', hb'⟩
        case measure => simp [intOf]; omega
      have q9 : ((s[k].toNat : Int) == 9) = false := byte_ne e9
      by_cases e34 : s[k] = 34
      · have HB : Hid (shB s[k] = [92, s[k]]) := by show shB _ = _; rw [e34]; rfl
        have q34 : ((s[k].toNat : Int) == 34) = true := by rw [e34]; rfl
        clear e10 e9 e34
        go_wp2_with (first
          | (at_builtin; refine app_own _ rfl _ _ 22 rfl w.heap.size 5 (.int .u8 0) 1 Tryz.underlying22 info5 rfl _ _ _ rfl (hown.alloc _) ⟨wr.heap.size, 0, none⟩ 2 2 (byteCells [92, s[k]]) rfl rfl ?c1 (byteCells_oneCell _) ?c3 ?c4 ?c5 ?_)
          | go_in)
        case c1 => exact two_new _ _ _ _
        case c3 => unfold maxLen; omega
        case c4 => omega
        case c5 => first | omega | (simp; omega)
        intro v' w' hown' hg
        have hb' := below_grown (hbel.alloc hsz _) (hown.alloc _) hg (by simp; omega)
        rw [← byteCells_append] at hown'
        go_wp2
        go_roundw
        case rel => exact ⟨k + 1, l ++ [92, s[k]], by omega, by go_num, by rw [shTo_step hlt HS.out, HB.out]; simp, by rw [List.length_append]; exact hown', hb'⟩
        case measure => simp [intOf]; omega
      have q34 : ((s[k].toNat : Int) == 34) = false := byte_ne e34
      by_cases e92 : s[k] = 92
      · have HB : Hid (shB s[k] = [92, s[k]]) := by show shB _ = _; rw [e92]; rfl
        have q92 : ((s[k].toNat : Int) == 92) = true := by rw [e92]; rfl
        clear e10 e9 e34 e92
        go_wp2_with (first
          | (at_builtin; refine app_own _ rfl _ _ 22 rfl w.heap.size 5 (.int .u8 0) 1 Tryz.underlying22 info5 rfl _ _ _ rfl (hown.alloc _) ⟨wr.heap.size, 0, none⟩ 2 2 (byteCells [92, s[k]]) rfl rfl ?c1 (byteCells_oneCell _) ?c3 ?c4 ?c5 ?_)
          | go_in)
        case c1 => exact two_new _ _ _ _
        case c3 => unfold maxLen; omega
        case c4 => omega
        case c5 => first | omega | (simp; omega)
        intro v' w' hown' hg
        have hb' := below_grown (hbel.alloc hsz _) (hown.alloc _) hg (by simp; omega)
        rw [← byteCells_append] at hown'
        go_wp2
        go_roundw
        case rel => exact ⟨k + 1, l ++ [92, s[k]], by omega, by go_num, by rw [shTo_step hlt HS.out, HB.out]; simp, by rw [List.length_append]; exact hown', hb'⟩
        case measure => simp [intOf]; omega
      have q92 : ((s[k].toNat : Int) == 92) = false := byte_ne e92
      have hsb : shB s[k] = if s[k].toNat < 32 then [] else [s[k]] := by simp [shB, e10, e9, e34, e92]
      clear e10 e9 e34 e92
      by_cases h32 : s[k].toNat < 32
      · have HB : Hid (shB s[k] = []) := by show shB _ = _; rw [hsb, if_pos h32]
        have q32 : (s[k].toNat : Int) < 32 := by omega
        clear hsb h32
        go_wp2
        go_ret
        exact ⟨ret_str (show_no hlt HS.out HB.out).symm, hbel⟩
      · have HB : Hid (shB s[k] = [s[k]]) := by show shB _ = _; rw [hsb, if_neg h32]
        have q32 : ¬ (s[k].toNat : Int) < 32 := by omega
        clear hsb h32
        go_wp2_with (first
          | (at_builtin; refine app_own _ rfl _ _ 22 rfl w.heap.size 5 (.int .u8 0) 1 Tryz.underlying22 info5 rfl _ _ _ rfl (hown.alloc _) ⟨wr.heap.size, 0, none⟩ 1 1 (byteCells [s[k]]) rfl rfl ?c1 (byteCells_oneCell _) ?c3 ?c4 ?c5 ?_)
          | go_in)
        case c1 => first | exact one_new _ _ _ | exact fun j u h => h
        case c3 => unfold maxLen; omega
        case c4 => omega
        case c5 => first | omega | (simp; omega)
        intro v' w' hown' hg
        have hb' := below_grown (hbel.alloc hsz _) (hown.alloc _) hg (by simp; omega)
        rw [← byteCells_append] at hown'
        go_wp2
        go_roundw
        case rel => exact ⟨k + 1, l ++ [s[k]], by omega, by go_num, by rw [shTo_step hlt HS.out, HB.out]; simp, by rw [List.length_append]; exact hown', hb'⟩
        case measure => simp [intOf]; omega
    · obtain rfl : k = s.size := by omega
      have HY : Hid (showA s = ⟨(l ++ [34]).toArray⟩) := show_yes hbig HS.out
      go_wp2_with (first
        | (at_builtin; refine app_own _ rfl _ _ 22 rfl w.heap.size 5 (.int .u8 0) 1 Tryz.underlying22 info5 rfl _ _ _ rfl (hown.alloc _) ⟨wr.heap.size, 0, none⟩ 1 1 (byteCells [34]) rfl rfl ?c1 (byteCells_oneCell _) ?c3 ?c4 ?c5 ?_)
        | go_in)
      case c1 => first | exact one_new _ _ _ | exact fun j u h => h
      case c3 => unfold maxLen; omega
      case c4 => omega
      case c5 => first | omega | (simp; omega)
      intro v' w' hown' hg
      have hb' := below_grown (hbel.alloc hsz _) (hown.alloc _) hg (by simp; omega)
      rw [← byteCells_append] at hown'
      have hconv := own_string (P := Tryz.prog) Tryz.underlying22 Tryz.underlying5 Tryz.underlying9 hown'
      go_wp2
      go_ret
      exact ⟨ret_str HY.out.symm, hb'⟩

end Go.Proofs.YtifgaaemdojmpaaGreatDoor.es

namespace Go.Proofs.YtifgaaemdojmpaaGreatDoor.lx
open Go.RowKit
set_option linter.unusedVariables false
set_option linter.unusedSimpArgs false

/-! The plain side of chapter 2: what a text's lexemes are. A place's lexeme hangs on the bytes from there on alone. -/

def isLet (b : UInt8) : Bool := decide (97 ≤ (b.toNat : Int) ∧ (b.toNat : Int) ≤ 122 ∨ 65 ≤ (b.toNat : Int) ∧ (b.toNat : Int) ≤ 90)
def isDig (b : UInt8) : Bool := decide (48 ≤ (b.toNat : Int) ∧ (b.toNat : Int) ≤ 57)
def isB (n : Int) (b : UInt8) : Bool := (b.toNat : Int) == n
def isWord (b : UInt8) : Bool := isLet b || isDig b || isB 95 b || isB 45 b || isB 39 b
def isFirst (b : UInt8) : Bool := isLet b || isB 95 b
def isBlank (b : UInt8) : Bool := isB 32 b || isB 9 b || isB 10 b

def suf (s : ByteArray) (p : Nat) : List UInt8 := s.data.toList.drop p

theorem suf_len (s : ByteArray) (p : Nat) : (suf s p).length = s.size - p := by simp [suf]

theorem suf_get {s : ByteArray} {p k : Nat} (h : p + k < s.size) : (suf s p)[k]? = some s[p + k] := by
  unfold suf
  rw [List.getElem?_drop, List.getElem?_eq_getElem (by simpa using h)]
  rfl

theorem suf_drop (s : ByteArray) (p k : Nat) : (suf s p).drop k = suf s (p + k) := by
  simp [suf, List.drop_drop]

theorem suf_cons {s : ByteArray} {p : Nat} (h : p < s.size) : suf s p = s[p] :: suf s (p + 1) := by
  unfold suf
  rw [List.drop_eq_getElem_cons (by simpa using h)]
  rfl

theorem suf_end {s : ByteArray} {p : Nat} (h : s.size ≤ p) : suf s p = [] := by
  unfold suf
  exact List.drop_of_length_le (by simpa using h)

/-- How many bytes from the first on are of a kind. -/
def run (f : UInt8 → Bool) (l : List UInt8) : Nat := (l.takeWhile f).length

theorem run_le (f : UInt8 → Bool) : ∀ l, run f l ≤ l.length
  | [] => by simp [run]
  | b :: r => by
    have := run_le f r
    unfold run at *
    by_cases h : f b = true <;> simp [List.takeWhile_cons, h]
    omega

theorem run_in (f : UInt8 → Bool) : ∀ (l : List UInt8) (k : Nat) (b : UInt8), k < run f l → l[k]? = some b → f b = true
  | [], k, b, h, _ => by simp [run] at h
  | c :: r, k, b, h, hb => by
    unfold run at h
    by_cases hc : f c = true
    · simp only [List.takeWhile_cons, hc, if_true, List.length_cons] at h
      cases k with
      | zero =>
        obtain rfl : c = b := by simpa using hb
        exact hc
      | succ k => exact run_in f r k b (by unfold run; omega) (by simpa using hb)
    · simp [List.takeWhile_cons, hc] at h

theorem run_end (f : UInt8 → Bool) : ∀ (l : List UInt8) (b : UInt8), l[run f l]? = some b → f b = false
  | [], b, h => by simp at h
  | c :: r, b, h => by
    unfold run at h
    by_cases hc : f c = true
    · simp only [List.takeWhile_cons, hc, if_true, List.length_cons, List.getElem?_cons_succ] at h
      exact run_end f r b h
    · simp only [List.takeWhile_cons, hc, if_false, List.length_nil, List.getElem?_cons_zero] at h
      simp at h
      subst h
      simpa using hc

/-- The place k is inside the run just if its byte is of the kind, where all ahead of it are. -/
theorem run_lt {f : UInt8 → Bool} {l : List UInt8} {k : Nat} {b : UInt8} (hk : k ≤ run f l) (hb : l[k]? = some b) (hf : f b = true) : k < run f l := by
  rcases Nat.lt_or_ge k (run f l) with h | h
  · exact h
  · obtain rfl : k = run f l := by omega
    have := run_end f l b hb
    rw [hf] at this
    cases this

theorem run_stop {f : UInt8 → Bool} {l : List UInt8} {k : Nat} {b : UInt8} (hk : k ≤ run f l) (hb : l[k]? = some b) (hf : f b = false) : k = run f l := by
  rcases Nat.lt_or_ge k (run f l) with h | h
  · have := run_in f l k b h hb
    rw [hf] at this
    cases this
  · omega

theorem run_all {f : UInt8 → Bool} {l : List UInt8} {k : Nat} (hk : k ≤ run f l) (hl : l.length ≤ k) : k = run f l := by
  have := run_le f l
  omega

/-- The number that the first k bytes are. -/
def val (l : List UInt8) : Nat → Nat
  | 0 => 0
  | k + 1 => val l k * 10 + ((l[k]?.getD 48).toNat - 48)

theorem val_mono (l : List UInt8) (k : Nat) : ∀ m, val l k ≤ val l (k + m) := by
  intro m
  induction m with
  | zero => exact Nat.le_refl _
  | succ m ih => rw [← Nat.add_assoc]; simp only [val]; omega

/-- What stands for one byte inside of a text, and how many bytes it takes. -/
def esc (c : UInt8) : Option (UInt8 × Nat) := if c = 110 then some (10, 2) else if c = 116 then some (9, 2) else if c = 34 then some (34, 2) else if c = 92 then some (92, 2) else none
def pc : List UInt8 → Option (UInt8 × Nat)
  | [] => none
  | b :: r => if b.toNat < 32 then none else if b = 92 then (match r with | c :: _ => esc c | [] => none) else some (b, 1)

theorem esc_two {c b : UInt8} {n : Nat} (h : esc c = some (b, n)) : n = 2 := by
  unfold esc at h
  repeat' split at h
  all_goals first | (simp at h; omega) | cases h

theorem pc_pos {l : List UInt8} {b : UInt8} {n : Nat} (h : pc l = some (b, n)) : 1 ≤ n ∧ n ≤ l.length := by
  cases l with
  | nil => cases h
  | cons c r =>
    by_cases h1 : c.toNat < 32
    · simp [pc, h1] at h
    · by_cases h2 : c = 92
      · cases r with
        | nil => simp [pc, h1, h2] at h
        | cons d t =>
          have h' : esc d = some (b, n) := by simpa [pc, h1, h2] using h
          have := esc_two h'
          subst this
          simp
      · have h' : c = b ∧ 1 = n := by simpa [pc, h1, h2] using h
        obtain ⟨_, rfl⟩ := h'
        simp

/-- Behind j pieces: the place, and what is meant so far. -/
def stTo (l : List UInt8) : Nat → Option (Nat × List UInt8)
  | 0 => some (1, [])
  | j + 1 => match stTo l j with
    | some (o, acc) => match l[o]? with
      | some c => if c = 34 then some (o, acc) else match pc (l.drop o) with
        | some (b, n) => if acc.length = 4000 then none else some (o + n, acc ++ [b])
        | none => none
      | none => some (o, acc)
    | none => none
def txt (l : List UInt8) : Option (List UInt8 × Nat) := match stTo l l.length with
  | some (o, acc) => if o < l.length then some (acc, o + 1) else none
  | none => none

theorem st_none {l : List UInt8} {j : Nat} (h : stTo l j = none) : ∀ m, stTo l (j + m) = none := by
  intro m
  induction m with
  | zero => exact h
  | succ m ih => rw [← Nat.add_assoc]; unfold stTo; rw [ih]

theorem st_stay {l : List UInt8} {j o : Nat} {acc : List UInt8} (h : stTo l j = some (o, acc)) (hs : l[o]? = none ∨ l[o]? = some 34) : ∀ m, stTo l (j + m) = some (o, acc) := by
  intro m
  induction m with
  | zero => exact h
  | succ m ih =>
    rw [← Nat.add_assoc]
    unfold stTo
    rw [ih]
    rcases hs with hs | hs <;> simp [hs]

theorem st_step {l : List UInt8} {j o : Nat} {acc : List UInt8} {c : UInt8} (h : stTo l j = some (o, acc)) (hc : l[o]? = some c) (hq : ¬ c = 34) :
    stTo l (j + 1) = match pc (l.drop o) with | some (b, n) => if acc.length = 4000 then none else some (o + n, acc ++ [b]) | none => none := by
  unfold stTo
  rw [h]
  simp only [hc, hq, if_false]

theorem txt_fail {l : List UInt8} {j : Nat} (hj : j ≤ l.length) (h : stTo l j = none) : txt l = none := by
  have := st_none h (l.length - j)
  rw [show j + (l.length - j) = l.length by omega] at this
  simp [txt, this]

theorem txt_end {l : List UInt8} {j o : Nat} {acc : List UInt8} (hj : j ≤ l.length) (h : stTo l j = some (o, acc)) (hs : l[o]? = some 34) : txt l = some (acc, o + 1) := by
  have := st_stay h (.inr hs) (l.length - j)
  rw [show j + (l.length - j) = l.length by omega] at this
  have ho : o < l.length := (List.getElem?_eq_some_iff.1 hs).1
  simp [txt, this, ho]

theorem txt_open {l : List UInt8} {j o : Nat} {acc : List UInt8} (hj : j ≤ l.length) (h : stTo l j = some (o, acc)) (ho : l.length ≤ o) : txt l = none := by
  have := st_stay h (.inl (List.getElem?_eq_none ho)) (l.length - j)
  rw [show j + (l.length - j) = l.length by omega] at this
  have : ¬ o < l.length := by omega
  simp [txt, *]

/-- The signs, the longest first. -/
def SIG : List (List UInt8) := [[46, 46, 46], [45, 62], [47, 47], [43, 43], [38, 38], [124, 124], [61, 61], [33, 61], [60, 61], [62, 61], [123], [125], [91], [93], [40], [41], [59], [58], [44], [46], [63], [61], [60], [62], [43], [45], [42], [47], [33]]
def sigL (k : Nat) : List UInt8 := SIG[k]?.getD []
def sgAt (l : List UInt8) (k : Nat) : Bool := (sigL k).isPrefixOf l
def sgn (l : List UInt8) (n : Nat) : Option Nat := (List.range n).find? fun k => sgAt l k

theorem sgn_succ (l : List UInt8) (k : Nat) : sgn l (k + 1) = match sgn l k with | some j => some j | none => if sgAt l k then some k else none := by
  unfold sgn
  rw [List.range_succ, List.find?_append]
  cases (List.range k).find? fun j => sgAt l j with
  | some j => rfl
  | none => simp [List.find?_cons]; split <;> simp_all

theorem sgn_grow {l : List UInt8} {k j : Nat} (h : sgn l k = some j) : ∀ m, sgn l (k + m) = some j := by
  intro m
  induction m with
  | zero => exact h
  | succ m ih => rw [← Nat.add_assoc, sgn_succ, ih]

theorem sgn_hit {l : List UInt8} {k n : Nat} (hk : k < n) (h0 : sgn l k = none) (hd : sgAt l k = true) : sgn l n = some k := by
  have h1 : sgn l (k + 1) = some k := by rw [sgn_succ, h0]; simp [hd]
  have := sgn_grow h1 (n - (k + 1))
  rwa [show k + 1 + (n - (k + 1)) = n by omega] at this

theorem sgn_miss {l : List UInt8} {k : Nat} (h0 : sgn l k = none) (hd : sgAt l k = false) : sgn l (k + 1) = none := by
  rw [sgn_succ, h0]; simp [hd]

/-- A lexeme: its kind, its text, its number, and how many bytes it takes. -/
structure Lx where
  kind : Int
  text : List UInt8
  num : Int
  size : Nat

def word (l : List UInt8) : Option Lx := if 60 < run isWord l then none else some ⟨1, l.take (run isWord l), 0, run isWord l⟩
def int (l : List UInt8) : Option Lx := if 9007199254740992 < val l (run isDig l) then none else some ⟨2, [], (val l (run isDig l) : Int), run isDig l⟩
def text (l : List UInt8) : Option Lx := match txt l with | some (acc, n) => some ⟨3, acc, 0, n⟩ | none => none
def sign (l : List UInt8) : Option Lx := match sgn l 29 with | some k => some ⟨4, sigL k, 0, (sigL k).length⟩ | none => none
def one (l : List UInt8) : Option Lx := match l with
  | [] => none
  | b :: _ => if isFirst b then word l else if isDig b then int l else if isB 34 b then text l else sign l

end Go.Proofs.YtifgaaemdojmpaaGreatDoor.lx

namespace Go.Proofs.YtifgaaemdojmpaaGreatDoor.ex
open Go.ChangeShapes Go.WideShapes Go.ChangeAt Go.RowKit Go.Deep
set_option linter.unusedVariables false
set_option linter.unusedSimpArgs false

/-! ### The plain model of nodes that lie in a list -/

structure Ex where
  kind : Int
  text : ByteArray
  n : Int
  size : Int

/-- What a kind uses its text for; the greatest N; what stands ahead; how many expressions come last. -/
def useOf (k : Int) : Int := if k = 2 then 1 else if k = 3 ∨ k = 6 ∨ k = 7 ∨ k = 13 ∨ k = 15 ∨ k = 16 ∨ k = 17 then 2 else if k = 18 then 3 else 0
def mostN (k : Int) : Int := if k = 1 then 9007199254740992 else if k = 5 ∨ k = 14 then 1 else 0
def aheadOf (k : Int) : Int := if k = 5 ∨ k = 8 then 6 else if k = 14 then 15 else 0
def leastOf (k : Int) : Int := if k = 6 ∨ k = 8 ∨ k = 13 ∨ k = 14 ∨ k = 16 ∨ k = 17 ∨ k = 19 ∨ k = 20 then 1 else if k = 9 ∨ k = 10 ∨ k = 11 ∨ k = 18 then 2 else if k = 12 then 3 else 0
def mostOf (k : Int) : Int := if k = 4 then 3000 else if k = 6 ∨ k = 8 ∨ k = 13 ∨ k = 14 ∨ k = 15 ∨ k = 17 ∨ k = 19 ∨ k = 20 then 1 else if k = 9 ∨ k = 10 ∨ k = 11 ∨ k = 16 ∨ k = 18 then 2 else if k = 12 then 3 else 0
/-- What the document's side counts: at least, at most (-1: any number). -/
def lowS (k : Int) : Int := if k = 6 ∨ k = 13 ∨ k = 17 ∨ k = 19 ∨ k = 20 ∨ k = 16 ∨ k = 8 ∨ k = 14 then 1 else if k = 9 ∨ k = 10 ∨ k = 11 ∨ k = 18 then 2 else if k = 12 then 3 else 0
def highS (k : Int) : Int := if k = 1 ∨ k = 2 ∨ k = 3 ∨ k = 7 then 0 else if k = 6 ∨ k = 13 ∨ k = 17 ∨ k = 19 ∨ k = 20 ∨ k = 15 then 1 else if k = 9 ∨ k = 10 ∨ k = 11 ∨ k = 18 ∨ k = 16 then 2 else if k = 12 then 3 else -1

def kws : List (List UInt8) := [[108, 101, 116], [105, 110], [114, 101, 99], [119, 105, 116, 104], [105, 102], [116, 104, 101, 110], [101, 108, 115, 101], [105, 110, 104, 101, 114, 105, 116], [97, 115, 115, 101, 114, 116], [111, 114]]
def kwB (s : ByteArray) (k : Nat) : Bool := (kws.take k).any fun x => s.toList == x
def kwA (k : Nat) : ByteArray := ⟨(kws[k]?.getD []).toArray⟩

def ops : List (List UInt8) := [[45, 62], [124, 124], [38, 38], [61, 61], [33, 61], [60], [60, 61], [62], [62, 61], [47, 47], [43], [45], [42], [47], [43, 43]]
def opB (s : ByteArray) (k : Nat) : Bool := (ops.take k).any fun x => s.toList == x
def opA (k : Nat) : ByteArray := ⟨(ops[k]?.getD []).toArray⟩

def wordB (s : ByteArray) : Bool := match s.data.toList with | [] => false | b :: r => lx.isFirst b && (b :: r).all lx.isWord && decide (s.size ≤ 60) && !kwB s 10

def textB (s : ByteArray) (u : Int) : Bool := if u = 1 then !((es.showA s).toList.isEmpty) else if u = 2 then wordB s else if u = 3 then opB s 15 else s.toList.isEmpty
def nB (e : Ex) : Bool := decide (0 ≤ e.n ∧ e.n ≤ mostN e.kind)
def okKind (k : Int) : Bool := decide (1 ≤ k ∧ k ≤ 20)
def headB (e : Ex) : Bool := okKind e.kind && (nB e && textB e.text (useOf e.kind))

def isX (k : Int) : Bool := decide (k ≠ 6 ∧ k ≠ 7 ∧ k ≠ 15)
def exprK (k : Int) : Bool := decide (1 ≤ k ∧ k ≤ 20 ∧ k ≠ 6 ∧ k ≠ 7 ∧ k ≠ 15)
def mayA (k a : Int) : Bool := decide (k = a ∨ (a = 6 ∧ k = 7))

def restB (lo hi : Int) (l : List Ex) : Bool := l.all (fun x => isX x.kind) && decide (lo ≤ l.length ∧ (l.length : Int) ≤ hi)
/-- What the program asks of a node's parts. -/
def pf (a lo hi : Int) : List (List UInt8) → List Ex → Bool
  | _, [] => restB lo hi []
  | seen, x :: r => if mayA x.kind a = true then (if x.text.data.toList ∈ seen then false else pf a lo hi (x.text.data.toList :: seen) r) else restB lo hi (x :: r)

/-- What the document's side asks of them. -/
def special (k : Int) (last : Bool) : Bool := decide (k = 5 ∨ ((k = 8 ∨ k = 14) ∧ last = false))
def kindP (k : Int) (last : Bool) (x : Ex) : Bool := if special k last = true then (if k = 14 then decide (x.kind = 15) else decide (x.kind = 6 ∨ x.kind = 7)) else exprK x.kind
def kindsL (k : Int) : List Ex → Bool
  | [] => true
  | x :: r => kindP k r.isEmpty x && kindsL k r
def namesL (k : Int) : List Ex → List (List UInt8)
  | [] => []
  | x :: r => if special k r.isEmpty = true then x.text.data.toList :: namesL k r else namesL k r
def countB (k : Int) (n : Nat) : Bool := decide (lowS k ≤ (n : Int)) && (decide (highS k < 0) || decide ((n : Int) ≤ highS k))
def sp (k : Int) (l : List Ex) : Bool := countB k l.length && (kindsL k l && decide (namesL k l).Nodup)

theorem pf_plain {k : Int} {l : List Ex} (hk : aheadOf k = 0) (hl : ∀ x ∈ l, okKind x.kind = true) (lo hi : Int) (s : List (List UInt8)) : pf 0 lo hi s l = restB lo hi l := by
  cases l with
  | nil => rfl
  | cons x r =>
    have := hl x (by simp)
    simp only [okKind, decide_eq_true_eq] at this
    rw [pf, if_neg (by simp [mayA]; omega)]

theorem kinds_plain {k : Int} (hk : k ≠ 5 ∧ k ≠ 8 ∧ k ≠ 14) : ∀ (l : List Ex), (∀ x ∈ l, okKind x.kind = true) → kindsL k l = l.all (fun x => isX x.kind) ∧ namesL k l = []
  | [], _ => ⟨rfl, rfl⟩
  | x :: r, h => by
    have hx := h x (by simp)
    obtain ⟨h1, h2⟩ := kinds_plain hk r (fun y hy => h y (by simp [hy]))
    have hs : special k r.isEmpty = false := by simp [special]; omega
    refine ⟨?_, by rw [namesL, if_neg (by simp [hs]), h2]⟩
    rw [kindsL, h1, List.all_cons, kindP, if_neg (by simp [hs])]
    congr 1
    simp only [okKind, decide_eq_true_eq] at hx
    simp only [exprK, isX]
    rw [decide_eq_decide]
    omega

theorem nodup_app {α : Type} [BEq α] [LawfulBEq α] [DecidableEq α] (s : List α) (x : α) (l : List α) (h : x ∉ s) : (∀ y ∈ (x :: l), y ∉ s) ∧ (x :: l).Nodup ↔ (∀ y ∈ l, y ∉ (x :: s)) ∧ l.Nodup := by
  simp only [List.mem_cons, List.nodup_cons, not_or]
  constructor
  · rintro ⟨h1, h2, h3⟩
    exact ⟨fun y hy => ⟨fun e => h2 (e ▸ hy), h1 y (.inr hy)⟩, h3⟩
  · rintro ⟨h1, h2⟩
    refine ⟨?_, fun hx => (h1 x hx).1 rfl, h2⟩
    rintro y (rfl | hy)
    · exact h
    · exact (h1 y hy).2

/-- Of a set: all parts stand ahead. -/
theorem pf_set : ∀ (l : List Ex) (s : List (List UInt8)), pf 6 0 0 s l = (kindsL 5 l && decide ((∀ y ∈ namesL 5 l, y ∉ s) ∧ (namesL 5 l).Nodup))
  | [], s => by simp [pf, restB, kindsL, namesL]
  | x :: r, s => by
    have hs : special 5 r.isEmpty = true := by simp [special]
    have hN : namesL 5 (x :: r) = x.text.data.toList :: namesL 5 r := by rw [namesL, if_pos hs]
    have hK : kindsL 5 (x :: r) = (decide (x.kind = 6 ∨ x.kind = 7) && kindsL 5 r) := by rw [kindsL, kindP, if_pos hs, if_neg (by omega)]
    rw [pf, hN, hK]
    by_cases hm : x.kind = 6 ∨ x.kind = 7
    · rw [if_pos (by simp [mayA]; omega), decide_eq_true hm, Bool.true_and]
      by_cases hx : x.text.data.toList ∈ s
      · rw [if_pos hx]
        simp [hx]
      · rw [if_neg hx, pf_set r]
        congr 1
        rw [decide_eq_decide]
        exact (nodup_app s x.text.data.toList _ hx).symm
    · rw [if_neg (by simp [mayA]; omega), decide_eq_false hm]
      simp only [restB, Bool.false_and, Bool.and_eq_false_iff, decide_eq_false_iff_not]
      right
      simp

theorem one_more {lo : Int} {x y : Ex} {r : List Ex} : restB lo 1 (x :: y :: r) = false := by
  simp only [restB, Bool.and_eq_false_iff, decide_eq_false_iff_not]
  right
  simp
  omega

/-- Of a let, of a take: all but the last stand ahead. -/
theorem pf_let {k a : Int} (hk : (k = 8 ∧ a = 6) ∨ (k = 14 ∧ a = 15)) : ∀ (l : List Ex) (s : List (List UInt8)), (∀ x ∈ l, okKind x.kind = true) → pf a 1 1 s l = (decide (1 ≤ (l.length : Int)) && (kindsL k l && decide ((∀ y ∈ namesL k l, y ∉ s) ∧ (namesL k l).Nodup)))
  | [], s, _ => by simp [pf, restB]
  | [x], s, h => by
    have hx := h x (by simp)
    have hs : special k true = false := by simp [special]; omega
    simp only [okKind, decide_eq_true_eq] at hx
    have hN : namesL k [x] = [] := by rw [namesL, List.isEmpty_nil, if_neg (by simp [hs])]; rfl
    have hK : kindsL k [x] = exprK x.kind := by rw [kindsL, List.isEmpty_nil, kindP, if_neg (by simp [hs])]; simp [kindsL]
    rw [pf, hN, hK]
    by_cases hm : mayA x.kind a = true
    · rw [if_pos hm]
      have : exprK x.kind = false := by simp only [mayA, decide_eq_true_eq] at hm; simp only [exprK, decide_eq_false_iff_not]; omega
      rw [this]
      split <;> simp [pf, restB]
    · rw [if_neg hm]
      have : exprK x.kind = isX x.kind := by simp only [exprK, isX, decide_eq_decide]; omega
      simp [restB, kindsL, namesL, this]
  | x :: y :: r, s, h => by
    have hs : special k (y :: r).isEmpty = true := by simp [special]; omega
    have hx := h x (by simp)
    simp only [okKind, decide_eq_true_eq] at hx
    have hkp : kindP k (y :: r).isEmpty x = mayA x.kind a := by
      rw [kindP, if_pos hs]
      rcases hk with ⟨rfl, rfl⟩ | ⟨rfl, rfl⟩
      · rw [if_neg (by omega)]
        simp [mayA]
      · rw [if_pos rfl]
        simp [mayA]
    have hN : namesL k (x :: y :: r) = x.text.data.toList :: namesL k (y :: r) := by rw [namesL, if_pos hs]
    have hK : kindsL k (x :: y :: r) = (mayA x.kind a && kindsL k (y :: r)) := by rw [kindsL, hkp]
    rw [pf, hN, hK]
    by_cases hm : mayA x.kind a = true
    · rw [if_pos hm, hm, Bool.true_and]
      have hl : decide (1 ≤ (((x :: y :: r).length : Nat) : Int)) = true := by simp; omega
      have hl' : decide (1 ≤ (((y :: r).length : Nat) : Int)) = true := by simp; omega
      rw [hl, Bool.true_and]
      by_cases hxs : x.text.data.toList ∈ s
      · rw [if_pos hxs]
        simp [hxs]
      · rw [if_neg hxs, pf_let hk (y :: r) _ (fun z hz => h z (by simp at hz ⊢; right; exact hz)), hl', Bool.true_and]
        congr 1
        rw [decide_eq_decide]
        exact (nodup_app s x.text.data.toList _ hxs).symm
    · rw [if_neg hm, one_more]
      simp [hm]

theorem fit_eq {k : Int} {l : List Ex} (hk : okKind k = true) (hl : ∀ x ∈ l, okKind x.kind = true) (hn : l.length ≤ 3000) : pf (aheadOf k) (leastOf k) (mostOf k) [] l = sp k l := by
  simp only [okKind, decide_eq_true_eq] at hk
  by_cases h5 : k = 5
  · subst h5
    rw [show aheadOf 5 = 6 from rfl, show leastOf 5 = 0 from rfl, show mostOf 5 = 0 from rfl, pf_set, sp, show countB 5 l.length = true by simp [countB, lowS, highS]]
    simp
  by_cases h8 : k = 8
  · subst h8
    rw [show aheadOf 8 = 6 from rfl, show leastOf 8 = 1 from rfl, show mostOf 8 = 1 from rfl, pf_let (.inl ⟨rfl, rfl⟩) l [] hl, sp]
    simp [countB, lowS, highS]
  by_cases h14 : k = 14
  · subst h14
    rw [show aheadOf 14 = 15 from rfl, show leastOf 14 = 1 from rfl, show mostOf 14 = 1 from rfl, pf_let (.inr ⟨rfl, rfl⟩) l [] hl, sp]
    simp [countB, lowS, highS]
  have ha : aheadOf k = 0 := by simp only [aheadOf]; repeat' split <;> omega
  obtain ⟨e1, e2⟩ := kinds_plain ⟨h5, h8, h14⟩ l hl
  rw [ha, pf_plain ha hl, sp, e1, e2, restB, Bool.and_comm]
  have hc : decide (leastOf k ≤ (l.length : Int) ∧ (l.length : Int) ≤ mostOf k) = countB k l.length := by
    rw [Bool.eq_iff_iff]
    simp only [countB, Bool.and_eq_true, Bool.or_eq_true, decide_eq_true_eq]
    have hk' : k = 1 ∨ k = 2 ∨ k = 3 ∨ k = 4 ∨ k = 6 ∨ k = 7 ∨ k = 9 ∨ k = 10 ∨ k = 11 ∨ k = 12 ∨ k = 13 ∨ k = 15 ∨ k = 16 ∨ k = 17 ∨ k = 18 ∨ k = 19 ∨ k = 20 := by omega
    rcases hk' with rfl | rfl | rfl | rfl | rfl | rfl | rfl | rfl | rfl | rfl | rfl | rfl | rfl | rfl | rfl | rfl | rfl <;> simp [leastOf, mostOf, lowS, highS] <;> omega
  rw [hc]
  simp

/-! ### The parts of a node -/

def cutP (E : Nat → Ex) (p left : Nat) : Option (List Nat) :=
  if _h : left = 0 then some [] else if (E p).size < 0 ∨ (left : Int) ≤ (E p).size then none
  else (cutP E (p + ((E p).size.toNat + 1)) (left - ((E p).size.toNat + 1))).map (p :: ·)
termination_by left
decreasing_by omega

theorem cut_zero (E : Nat → Ex) (p : Nat) : cutP E p 0 = some [] := by rw [cutP]; simp
theorem cut_bad {E : Nat → Ex} {p left : Nat} (h : 0 < left) (hb : (E p).size < 0 ∨ (left : Int) ≤ (E p).size) : cutP E p left = none := by
  rw [cutP, dif_neg (by omega), if_pos hb]
theorem cut_step {E : Nat → Ex} {p left : Nat} (h : 0 < left) (hb : ¬ ((E p).size < 0 ∨ (left : Int) ≤ (E p).size)) : cutP E p left = (cutP E (p + ((E p).size.toNat + 1)) (left - ((E p).size.toNat + 1))).map (p :: ·) := by
  rw [cutP, dif_neg (by omega), if_neg hb]

/-- A part fits into its place. -/
def Fits (E : Nat → Ex) (lo hi p : Nat) : Prop := lo ≤ p ∧ 0 ≤ (E p).size ∧ p + ((E p).size.toNat + 1) ≤ hi

theorem cut_fits {E : Nat → Ex} : ∀ (left p : Nat) (ps : List Nat), cutP E p left = some ps → (∀ q ∈ ps, Fits E p (p + left) q) ∧ ps.length ≤ left := by
  intro left
  induction left using Nat.strongRecOn with
  | ind left ih =>
    intro p ps h
    by_cases h0 : left = 0
    · subst h0
      rw [cut_zero] at h
      cases h
      simp
    · by_cases hb : (E p).size < 0 ∨ (left : Int) ≤ (E p).size
      · rw [cut_bad (by omega) hb] at h; cases h
      · rw [cut_step (by omega) hb, Option.map_eq_some_iff] at h
        obtain ⟨qs, h1, rfl⟩ := h
        obtain ⟨h2, h3⟩ := ih _ (by omega) _ _ h1
        refine ⟨?_, by simp; omega⟩
        intro q hq
        rcases List.mem_cons.1 hq with rfl | hq
        · exact ⟨Nat.le_refl _, by omega, by omega⟩
        · obtain ⟨a, b, c⟩ := h2 q hq
          exact ⟨by omega, b, by omega⟩

/-- Is a node with all that stands behind it right? 'r': how many more may be in one another. -/
def ok (E : Nat → Ex) : Nat → Nat → Nat → Bool
  | 0, _, _ => false
  | r + 1, p, len => decide ((E p).size = (len : Int) - 1) && (headB (E p) && match cutP E (p + 1) (len - 1) with
    | none => false
    | some ps => pf (aheadOf (E p).kind) (leastOf (E p).kind) (mostOf (E p).kind) [] (ps.map E) && ps.all fun q => ok E r q ((E q).size.toNat + 1))

theorem ok_kind {E : Nat → Ex} {r p len : Nat} (h : ok E r p len = true) : okKind (E p).kind = true := by
  cases r with
  | zero => cases h
  | succ r =>
    simp only [ok, Bool.and_eq_true] at h
    obtain ⟨_, h, _⟩ := h
    simp only [headB, Bool.and_eq_true] at h
    exact h.1

theorem sp_kinds {k : Int} : ∀ {l : List Ex}, kindsL k l = true → ∀ x ∈ l, okKind x.kind = true
  | [], _, x, hx => by cases hx
  | y :: r, h, x, hx => by
    simp only [kindsL, Bool.and_eq_true] at h
    rcases List.mem_cons.1 hx with rfl | hx
    · have := h.1
      unfold kindP at this
      simp only [okKind, decide_eq_true_eq]
      split at this
      · split at this <;> simp only [decide_eq_true_eq] at this <;> omega
      · simp only [exprK, decide_eq_true_eq] at this
        omega
    · exact sp_kinds h.2 x hx

/-- The document's side, where the kind is one. -/
def nodeS (e : Ex) : Bool := nB e && textB e.text (useOf e.kind)
theorem ok_spec {E : Nat → Ex} {r p len : Nat} (hk : okKind (E p).kind = true) (hl : len ≤ 3000) : ok E (r + 1) p len = (decide ((E p).size = (len : Int) - 1) && (nodeS (E p) && match cutP E (p + 1) (len - 1) with
    | none => false
    | some ps => sp (E p).kind (ps.map E) && ps.all fun q => ok E r q ((E q).size.toNat + 1))) := by
  have hh : headB (E p) = nodeS (E p) := by rw [headB, hk, Bool.true_and]; rfl
  rw [ok, hh]
  congr 2
  split
  · rfl
  · rename_i ps hps
    have hlen := (cut_fits _ _ _ hps).2
    cases ha : ps.all fun q => ok E r q ((E q).size.toNat + 1) with
    | true =>
      rw [fit_eq hk ?_ (by simp; omega)]
      intro x hx
      obtain ⟨q, hq, rfl⟩ := List.mem_map.1 hx
      exact ok_kind (List.all_eq_true.1 ha q hq)
    | false => simp

def okAll (E : Nat → Ex) (n : Nat) : Bool := decide (0 < n ∧ n ≤ 3000) && (exprK (E 0).kind && ok E 61 0 n)

end Go.Proofs.YtifgaaemdojmpaaGreatDoor.ex
