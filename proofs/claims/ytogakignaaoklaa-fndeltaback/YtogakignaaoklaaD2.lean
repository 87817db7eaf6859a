import Derived.Test.YtogakignaaoklaaD1
namespace Go.Proofs.Ytogakignaaoklaa.dr
open Go.ChangeShapes Go.WideShapes Go.ChangeAt Go.RowKit Go.Deep
set_option linter.unusedVariables false
set_option linter.unusedSimpArgs false

/-- Between two draws: the cursor was the first block laid since w; a row of bytes of one's own lies behind it. -/
structure St (w wr : World) (a : Option Addr) (n cap : Nat) (v : Value) (k : Nat) : Prop where
  can : Can wr w.heap.size a n cap
  row : ∃ l : List UInt8, wr.ownsRow (w.heap.size + 1) 5 1 v k (byteCells l)
  bel : Below w.heap.size w wr
  sz : w.heap.size + 1 ≤ wr.heap.size

theorem new_can {w : World} {a : Option Addr} {n cap : Nat} (hb : CodeB w a n) (hn : n ≤ 1048576) (hlt : ∀ x, a = some x → 0 < n → x.block < w.heap.size) (h : Int) : Can (w.alloc (.cells #[.slice a n cap, .int .i64 0, .int .i64 h] 67)) w.heap.size a n cap := by
  refine ⟨hb.grown (World.grownBy_alloc w _ (some w.heap.size)) (fun x e h0 => Nat.ne_of_lt (hlt x e h0)), ⟨0, h, ?_, Nat.zero_le _⟩, hn, hlt⟩
  exact World.rowIs_alloc w _ _ _ (fun i hi => by
    match i, hi with
    | 0, _ => rfl
    | 1, _ => rfl
    | 2, _ => rfl)

theorem St.draws {w wr w' : World} {a : Option Addr} {n cap k : Nat} {v : Value} (h : St w wr a n cap v k) (d : Draws wr w' w.heap.size a n cap) : St w w' a n cap v k := by
  obtain ⟨l, hl⟩ := h.row
  have hs := d.grown.size
  exact ⟨h.can.draws d, ⟨l, own_draws hl (by omega) d⟩, h.bel.trans (below_of_grown d.grown (Nat.le_refl _) (by have := h.sz; omega)), by have := h.sz; omega⟩
theorem St.alloc {w wr : World} {a : Option Addr} {n cap k : Nat} {v : Value} (h : St w wr a n cap v k) (o : Obj) : St w (wr.alloc o) a n cap v k := by
  obtain ⟨l, hl⟩ := h.row
  exact ⟨h.can.below ((Below.refl _ wr).alloc h.sz _), ⟨l, hl.alloc _⟩, h.bel.alloc h.bel.size _, by simp; have := h.sz; omega⟩
theorem St.app {w wr w' : World} {a : Option Addr} {n cap k x : Nat} {v v' : Value} {o : Obj} {l : List UInt8} (h : St w wr a n cap v k) (hx : x < 256)
    (ho : wr.ownsRow (w.heap.size + 1) 5 1 v k (byteCells l)) (hown : w'.ownsRow (w.heap.size + 1) 5 1 v' (k + 1) (byteCells l ++ [.int .u8 (x : Int)])) (hg : (wr.alloc o).grownBy w' v.ownBlock) : St w w' a n cap v' (k + 1) := by
  have hs := h.sz
  have hs2 := hg.size
  simp at hs2
  refine ⟨can_app h.can (ho.alloc o) (by omega) h.sz hg, ⟨l ++ [UInt8.ofNat x], ?_⟩, ?_, by omega⟩
  · rw [byteCells_append, ← byte_cell x hx]; exact hown
  · exact (h.bel.alloc h.bel.size o).grown hg (by simp; omega) (fun j e => by have := ((ho.alloc o).lt j e).1; omega)

/-- 'b = append(b, byte)': the arm's premises, of a state. -/
theorem St.at {w wr : World} {a : Option Addr} {n cap k : Nat} {v : Value} (h : St w wr a n cap v k) : ∃ l : List UInt8, wr.ownsRow (w.heap.size + 1) 5 1 v k (byteCells l) := h.row

theorem st_start {w : World} {a : Option Addr} {n cap : Nat} (hb : CodeB w a n) (hn : n ≤ 1048576) (hlt : ∀ x, a = some x → 0 < n → x.block < w.heap.size) (h : Int) :
    St w ((w.alloc (.cells #[.slice a n cap, .int .i64 0, .int .i64 h] 67)).alloc (.cells #[] 5)) a n cap (.slice (some ⟨w.heap.size + 1, 0, none⟩) 0 0) 0 := by
  have h1 := own_empty5 (w.alloc (.cells #[.slice a n cap, .int .i64 0, .int .i64 h] 67)) (w.heap.size + 1) (by simp)
  rw [World.size_alloc] at h1
  exact ⟨(new_can hb hn hlt h).below ((Below.refl _ _).alloc (by simp) _), ⟨[], h1⟩, ((Below.refl _ w).alloc (Nat.le_refl _) _).alloc (by simp) _, by simp⟩

theorem one5 (x : Nat) : ∀ u ∈ [Value.int .u8 (x : Int)], u.oneCell' = true := fun u hu => by
  simp at hu
  subst hu
  rfl

/-- 'b = append(b, byte)', of a state. -/
theorem app_st {w wr : World} {a : Option Addr} {n cap k : Nat} {v : Value} {ops : Array Oper} {rest : List Oper} {o : Oper} {act : Act} {Q : Exit → Act → World → Prop} (hgd : o.guard = none) (s x : Operand)
    (ho : o.op = .call { callee := .builtin .append, args := #[s, x], argTypes := #[22, 22] }) (S : St w wr a n cap v k) (hs : act.eval s = v) (z : Int) (hx : act.eval x = .slice (some ⟨wr.heap.size, 0, none⟩) 1 1) (h0 : 0 ≤ z) (h1 : z < 256) (hk : k ≤ 1000000)
    (h : ∀ v' w', St w w' a n cap v' (k + 1) → wpList Try.prog ops Q rest (act.put o.dst v') w') : wpList Try.prog ops Q (o :: rest) act (wr.alloc (.cells #[.int .u8 z] 5)) := by
  obtain ⟨y, rfl⟩ : ∃ y : Nat, z = (y : Int) := ⟨z.toNat, by omega⟩
  obtain ⟨l, hl⟩ := S.row
  refine app_own _ hgd s x 22 ho (w.heap.size + 1) 5 (.int .u8 0) 1 Try.underlying22 info5 rfl v k (byteCells l) hs (hl.alloc _) ⟨wr.heap.size, 0, none⟩ 1 1 [.int .u8 (y : Int)] hx rfl (one_new _ _ _) (one5 y) (by unfold maxLen; omega) (by omega) (by have := S.sz; simp; omega) ?_
  intro v' w' hown hg
  exact h v' w' (S.app (by omega) hl hown hg)

theorem cell4 {w w' : World} {c x : Nat} (h : (w.alloc (.cells #[.int .u8 10, .int .u8 9, .int .u8 34, .int .u8 92] 5)).grownBy w' (some c)) (hc : c < w.heap.size) (hx : x < 4) : ∃ y : Nat, y < 256 ∧ w'.cell? ⟨w.heap.size, x, none⟩ = some (.int .u8 (y : Int)) := by
  have key : ∀ v, (w.alloc (.cells #[.int .u8 10, .int .u8 9, .int .u8 34, .int .u8 92] 5)).cell? ⟨w.heap.size, x, none⟩ = some v → w'.cell? ⟨w.heap.size, x, none⟩ = some v := fun v hv => h.cell hv (fun e => by have e2 := Option.some.inj e; simp at e2; omega)
  match x, hx with
  | 0, _ => exact ⟨10, by decide, key _ (by simp)⟩
  | 1, _ => exact ⟨9, by decide, key _ (by simp)⟩
  | 2, _ => exact ⟨34, by decide, key _ (by simp)⟩
  | 3, _ => exact ⟨92, by decide, key _ (by simp)⟩

theorem made4 (x : Nat) (hx : x < 2) (w : World) : (Instr.makeSlice 22 (.int .i64 (4000 + (x : Int))) (.int .i64 (4000 + (x : Int)))).run Try.prog w = .ok (.slice (some ⟨w.heap.size, 0, none⟩) (4000 + x) (4000 + x)) (w.alloc (.cells (madeCells #[.int .u8 0] (4000 + x)) 5)) := by
  have h := run_make_row' (P := Try.prog) 22 5 (.int .u8 0) 1 Try.underlying22 info5 rfl .i64 .i64 (4000 + x) (by omega) (by omega) w
  rw [Int.natCast_add] at h
  exact h

theorem a_step {w : World} {b n k : Nat} (h : w.rowIs b 5 n (fun j => .int .u8 (if j < k then 97 else 0))) :
    (w.setCell ⟨b, k, none⟩ (.int .u8 97)).rowIs b 5 n (fun j => .int .u8 (if j < k + 1 then 97 else 0)) :=
  (h.set k _).congr fun i hi => by
    by_cases h : i = k
    · simp [h]
    · have e : (i < k + 1) ↔ (i < k) := by omega
      simp [h, e]

theorem own_of_row {w : World} {b N : Nat} (h : w.rowIs b 5 N (fun _ => .int .u8 97)) (hN : N ≤ maxLen) : w.ownsRow 0 5 1 (.slice (some ⟨b, 0, none⟩) N N) N (byteCells (List.replicate N 97)) := by
  obtain ⟨c, hb, hc, hi⟩ := h
  refine ⟨by simp [byteCells], .inr ⟨b, N, c, rfl, Nat.zero_le _, hb, Nat.le_refl _, hN, by simpa using hc, ?_⟩⟩
  rw [Nat.mul_one, ← hc, ← Array.length_toList, List.take_length]
  apply List.ext_getElem?
  intro i
  rcases Nat.lt_or_ge i N with h | h
  · rw [Array.getElem?_toList, hi i h]
    simp [byteCells, hc, h]
  · rw [Array.getElem?_toList, Array.getElem?_eq_none (by omega)]
    simp [byteCells, hc]
    omega

end Go.Proofs.Ytogakignaaoklaa.dr
