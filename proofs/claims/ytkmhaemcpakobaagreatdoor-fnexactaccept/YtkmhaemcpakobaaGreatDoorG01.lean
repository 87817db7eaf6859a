import Derived.WalkKit
import Derived.ProofKit
import Derived.OpenShut
import Derived.Below
import Derived.WalkSpells
import Derived.WalkSmall
import Derived.WalkLawsBesides
import Derived.Deep.OwnRows
import Derived.Lib.SlBytesRow
import Derived.Lib.BufferRead
import Derived.Laws.Bits64b
import Derived.Test.YtkmhaemcpakobaaGreatDoorRows
import Derived.Sort.AtCall
import Derived.Lib.Hide
import Derived.Shelf.Bits.Mul64
import Derived.Shelf.Small.Bits
import Derived.Test.YtkmhaemcpakobaaGreatDoorProg
import Derived.BigQuiet
import Derived.Deep.CutBlock
namespace Go.Proofs.YtkmhaemcpakobaaGreatDoor
open Go.ChangeShapes Go.WideShapes Go.ChangeAt Go.RowKit Go.Deep
set_option linter.unusedVariables false

theorem ret_bool {a b : Bool} (h : a = b) : Ending.returned (.bool a) = .returned (.bool b) := by rw [h]
theorem ret_int {k : IntKind} {a b : Int} (h : a = b) : Ending.returned (.int k a) = .returned (.int k b) := by rw [h]
theorem ret_str {a b : ByteArray} (h : a = b) : Ending.returned (.string a) = .returned (.string b) := by rw [h]

theorem addr_add (b off i : Nat) : (⟨b, off, none⟩ : Addr).add i = ⟨b, off + i, none⟩ := by
  unfold Addr.add
  by_cases h : i = 0 <;> simp [h]

/-- An append to a slice of the call's own, of one-cell elements, what is known of the element type being one closed fact. -/
theorem app_own {P : Program} (w : World) {ops : Array Oper} {rest : List Oper} {o : Oper} {a : Act} {Q : Exit → Act → World → Prop} (hgd : o.guard = none) (s x : Operand) (t : TypeId)
    (ho : o.op = .call { callee := .builtin .append, args := #[s, x], argTypes := #[t, t] })
    (base : Nat) (e : TypeId) (z : Value) (bytes : Nat) (ht : P.underlying t = some (.slice e)) (hinfo : (P.info? e).map (fun i => (i.zero, i.size, i.bytes)) = some (some z, 1, bytes)) (hzs : z.cells.size = 1)
    (v : Value) (n : Nat) (xs : List Value) (hs : a.eval s = v) (hown : w.ownsRow base e 1 v n xs)
    (ad : Addr) (m c : Nat) (news : List Value) (hx : a.eval x = .slice (some ad) m c) (hl : news.length = m) (hnews : ∀ j u, news[j]? = some u → w.cell? (ad.add j) = some u) (h1 : ∀ u ∈ news, u.oneCell' = true)
    (h63 : n + m ≤ maxLen) (hbytes : (n + m) * bytes ≤ 140737488355328) (hbase : base ≤ w.heap.size)
    (h : ∀ v' w', w'.ownsRow base e 1 v' (n + m) (xs ++ news) → w.grownBy w' v.ownBlock → wpList P ops Q rest (a.put o.dst v') w') : wpList P ops Q (o :: rest) a w := by
  obtain ⟨i, hi, hzz⟩ := Option.map_eq_some_iff.1 hinfo
  simp only [Prod.mk.injEq] at hzz
  obtain ⟨hz, hsz, hb⟩ := hzz
  exact wpList_append_own w hgd s x t ho base e i z 1 bytes ht hi hz hsz hb hzs (by decide) v n xs hs hown ad m c news hx (by simpa using hl) hnews h1 h63 hbytes hbase (fun v' w' a b _ => h v' w' a b)

/-- The same, of elements of several cells. -/
theorem app_ownS {P : Program} (w : World) {ops : Array Oper} {rest : List Oper} {o : Oper} {a : Act} {Q : Exit → Act → World → Prop} (hgd : o.guard = none) (s x : Operand) (t : TypeId)
    (ho : o.op = .call { callee := .builtin .append, args := #[s, x], argTypes := #[t, t] })
    (base : Nat) (e : TypeId) (z : Value) (size bytes : Nat) (ht : P.underlying t = some (.slice e)) (hinfo : (P.info? e).map (fun i => (i.zero, i.size, i.bytes)) = some (some z, size, bytes)) (hzs : z.cells.size = size) (hsz : 0 < size)
    (v : Value) (n : Nat) (xs : List Value) (hs : a.eval s = v) (hown : w.ownsRow base e size v n xs)
    (ad : Addr) (m c : Nat) (news : List Value) (hx : a.eval x = .slice (some ad) m c) (hl : news.length = m * size) (hnews : ∀ j u, news[j]? = some u → w.cell? (ad.add j) = some u) (h1 : ∀ u ∈ news, u.oneCell' = true)
    (h63 : n + m ≤ maxLen) (hbytes : (n + m) * bytes ≤ 140737488355328) (hbase : base ≤ w.heap.size)
    (h : ∀ v' w', w'.ownsRow base e size v' (n + m) (xs ++ news) → w.grownBy w' v.ownBlock → wpList P ops Q rest (a.put o.dst v') w') : wpList P ops Q (o :: rest) a w := by
  obtain ⟨i, hi, hzz⟩ := Option.map_eq_some_iff.1 hinfo
  simp only [Prod.mk.injEq] at hzz
  obtain ⟨hz, hsi, hb⟩ := hzz
  exact wpList_append_own w hgd s x t ho base e i z size bytes ht hi hz hsi hb hzs hsz v n xs hs hown ad m c news hx hl hnews h1 h63 hbytes hbase (fun v' w' a b _ => h v' w' a b)

theorem below_grownS {w wr : World} {w' : World} {base : Nat} {e : TypeId} {size : Nat} {v : Value} {n : Nat} {xs : List Value} (hb : Below base w wr) (hown : wr.ownsRow base e size v n xs) (hg : wr.grownBy w' v.ownBlock) (hB : base ≤ wr.heap.size) : Below base w w' :=
  hb.grown hg hB (fun k hk => (hown.lt k hk).1)

theorem one_new (w : World) (u : Value) (e : TypeId) : ∀ j v, [u][j]? = some v → (w.alloc (.cells #[u] e)).cell? ((⟨w.heap.size, 0, none⟩ : Addr).add j) = some v := by
  intro j v h
  match j, h with
  | 0, h =>
    obtain rfl : u = v := by simpa using h
    simp [Addr.add]

theorem below_grown {w wr : World} {w' : World} {base : Nat} {e : TypeId} {v : Value} {n : Nat} {xs : List Value} (hb : Below base w wr) (hown : wr.ownsRow base e 1 v n xs) (hg : wr.grownBy w' v.ownBlock) (hB : base ≤ wr.heap.size) : Below base w w' :=
  hb.grown hg hB (fun k hk => (hown.lt k hk).1)

theorem own_below {w w' : World} {base : Nat} {e : TypeId} {size : Nat} {v : Value} {n : Nat} {xs : List Value} (h : w.ownsRow base e size v n xs) (hb : Below w.heap.size w w') : w'.ownsRow base e size v n xs :=
  h.kept (row := none) ⟨hb.os, hb.tape, hb.output, hb.size, fun k hk _ => hb.block k hk⟩ (by cases v.ownBlock <;> simp)

theorem bcell {W w1 : World} (hb : Below W.heap.size W w1) : (∀ b o, b < W.heap.size → w1.cell? ⟨b, o, none⟩ = W.cell? ⟨b, o, none⟩) ∧ (∀ b o, b < W.heap.size → w1.frozen? ⟨b, o, none⟩ = W.frozen? ⟨b, o, none⟩) :=
  ⟨fun b o h => hb.cell (p := ⟨b, o, none⟩) h, fun b o h => hb.frozen (p := ⟨b, o, none⟩) h⟩

theorem own_shape {w : World} {base : Nat} {e : TypeId} {size : Nat} {v : Value} {n : Nat} {xs : List Value} (h : w.ownsRow base e size v n xs) : ∃ a cap, v = .slice a n cap := by
  rcases h.2 with ⟨rfl, rfl⟩ | ⟨g, cap, cur, rfl, _⟩
  · exact ⟨_, _, rfl⟩
  · exact ⟨_, _, rfl⟩

theorem byte_ne {a b : UInt8} (h : ¬ a = b) : ((a.toNat : Int) == (b.toNat : Int)) = false := by
  rw [beq_eq_false_iff_ne]
  intro e
  exact h (UInt8.toNat_inj.1 (by omega))

/-- The bytes of a text, as cells. -/
def byteCells (l : List UInt8) : List Value := l.map fun b => Value.int .u8 (b.toNat : Int)

theorem byteCells_append (l m : List UInt8) : byteCells (l ++ m) = byteCells l ++ byteCells m := by simp [byteCells]
theorem byteCells_one (b : UInt8) : byteCells [b] = [Value.int .u8 (b.toNat : Int)] := rfl
theorem byteCells_oneCell (l : List UInt8) : ∀ u ∈ byteCells l, u.oneCell' = true := by
  intro u hu
  obtain ⟨b, _, rfl⟩ := List.mem_map.1 hu
  rfl

/-- 'string(b)' of a row of the call's own. -/
theorem own_string {P : Program} {w : World} {base e src dst : Nat} {v : Value} {n : Nat} {l : List UInt8} (hs : P.underlying src = some (.slice e)) (he : P.underlying e = some (.int .u8)) (hd : P.underlying dst = some .string)
    (h : w.ownsRow base e 1 v n (byteCells l)) : (convert src dst v).run P w = .ok (.string ⟨l.toArray⟩) w := by
  obtain ⟨hl, h⟩ := h
  have hl' : l.length = n := by simpa [byteCells] using hl
  rcases h with ⟨rfl, rfl⟩ | ⟨g, cap, cur, rfl, hb, hg, hc, hm, hz, ht⟩
  · have : l = [] := List.length_eq_zero_iff.1 hl'
    subst this
    exact Lib.run_convert_nil_bytes w src dst e 0 hs he hd
  · subst hl'
    have hB : Lib.Bytes w g 0 ⟨l.toArray⟩ := fun i hi => by
      have hi' : i < l.length := by simpa [ByteArray.size] using hi
      have e1 : (byteCells l)[i]? = some (Value.int .u8 (l[i].toNat : Int)) := by simp [byteCells, hi']
      rw [← ht, List.getElem?_take_of_lt (by omega)] at e1
      have e2 : cur[i]? = some (Value.int .u8 (l[i].toNat : Int)) := by simpa using e1
      rw [Nat.zero_add]
      simp only [World.cell?, hg]
      show cur[i]? = _
      rw [e2]
      rfl
    have := Lib.run_convert_whole (P := P) w src e dst hs he hd g 0 ⟨l.toArray⟩ hB cap
    simpa [ByteArray.size] using this

end Go.Proofs.YtkmhaemcpakobaaGreatDoor

namespace Go.Proofs.YtkmhaemcpakobaaGreatDoor.sg
set_option linter.unusedVariables false

/-- The rests of a sum and of a product (names of their own, so that no cast is carried into them). -/
def am (a b m : Nat) : Nat := (a + b) % m
def mm (a b m : Nat) : Nat := a * b % m
theorem am_lt {a b m : Nat} (h : 0 < m) : am a b m < m := Nat.mod_lt _ h
theorem mm_lt {a b m : Nat} (h : 0 < m) : mm a b m < m := Nat.mod_lt _ h

/-- The rest of x to the n divided by m; 0 where m is 0 or 1. -/
def pm (x n m : Nat) : Nat := if m < 2 then 0 else x ^ n % m

theorem pm_lt {x n m : Nat} (h : 2 ≤ m) : pm x n m < m := by
  unfold pm
  rw [if_neg (by omega)]
  exact Nat.mod_lt _ (by omega)

theorem pm_small {x n m : Nat} (h : m < 2) : pm x n m = 0 := by unfold pm; rw [if_pos h]
theorem pm_big {x n m : Nat} (h : 2 ≤ m) : pm x n m = x ^ n % m := by unfold pm; rw [if_neg (by omega)]

/-- One round of adding and doubling. -/
theorem times_odd {a b o m t : Nat} (hb : b % 2 = 1) (h : (o + a * b) % m = t) : ((o + a) % m + (a + a) % m * (b / 2)) % m = t := by
  have e : b = 2 * (b / 2) + 1 := by omega
  have e1 : o + a * b = (o + a) + (a + a) * (b / 2) := by
    conv => lhs; rw [e]
    rw [Nat.mul_add, Nat.mul_one, ← Nat.mul_assoc, Nat.mul_two]
    omega
  rw [← h, e1]
  rw [Nat.add_mod ((o + a) % m), Nat.mod_mod, Nat.mod_mul_mod, ← Nat.add_mod]

theorem times_even {a b o m t : Nat} (hb : b % 2 = 0) (h : (o + a * b) % m = t) : (o + (a + a) % m * (b / 2)) % m = t := by
  have e : b = 2 * (b / 2) := by omega
  have e1 : o + a * b = o + (a + a) * (b / 2) := by
    conv => lhs; rw [e]
    rw [← Nat.mul_assoc, Nat.mul_two]
  rw [← h, e1]
  rw [Nat.add_mod, Nat.mod_mul_mod, ← Nat.add_mod]

theorem pow_odd {x n o m t : Nat} (hn : n % 2 = 1) (h : (o * x ^ n) % m = t) : ((o * x) % m * ((x * x) % m) ^ (n / 2)) % m = t := by
  have e : n = 2 * (n / 2) + 1 := by omega
  have e1 : o * x ^ n = (o * x) * (x * x) ^ (n / 2) := by
    conv => lhs; rw [e]
    rw [Nat.pow_succ, Nat.pow_mul, Nat.pow_two, Nat.mul_comm _ x, Nat.mul_assoc]
  rw [← h, e1, Nat.mul_mod ((o * x) % m), Nat.mod_mod, ← Nat.pow_mod, ← Nat.mul_mod]

theorem pow_even {x n o m t : Nat} (hn : n % 2 = 0) (h : (o * x ^ n) % m = t) : (o * ((x * x) % m) ^ (n / 2)) % m = t := by
  have e : n = 2 * (n / 2) := by omega
  have e1 : o * x ^ n = o * (x * x) ^ (n / 2) := by
    conv => lhs; rw [e]
    rw [Nat.pow_mul, Nat.pow_two]
  rw [← h, e1, Nat.mul_mod, ← Nat.pow_mod, ← Nat.mul_mod]

/-- The loop over bits: n's lowest k bits. -/
theorem bit_one {n k : Nat} (h : n / 2 ^ k % 2 = 1) : n % 2 ^ (k + 1) = n % 2 ^ k + 2 ^ k := by
  rw [Nat.pow_succ, Nat.mod_mul, h, Nat.mul_one]

theorem bit_zero {n k : Nat} (h : n / 2 ^ k % 2 = 0) : n % 2 ^ (k + 1) = n % 2 ^ k := by
  rw [Nat.pow_succ, Nat.mod_mul, h, Nat.mul_zero, Nat.add_zero]

theorem sq_step (x k m : Nat) : (x ^ 2 ^ k % m) * (x ^ 2 ^ k % m) % m = x ^ 2 ^ (k + 1) % m := by
  rw [← Nat.mul_mod, ← Nat.pow_add, Nat.pow_succ]
  congr 2
  omega

theorem mul_step {x n k m : Nat} (h : n / 2 ^ k % 2 = 1) : (x ^ (n % 2 ^ k) % m) * (x ^ 2 ^ k % m) % m = x ^ (n % 2 ^ (k + 1)) % m := by
  rw [← Nat.mul_mod, ← Nat.pow_add, bit_one h]

/-- Knuth's step: the quotient that is guessed and mended. -/
theorem guess_hi {u v v1 v0 d q : Nat} (hv : v = v1 * 4294967296 + v0) (hu : u < v) (h0 : v0 < 4294967296) (h1 : 2147483648 ≤ v1) : u / v1 ≤ 4294967297 := by
  have : u / v1 < 4294967298 := by
    rw [Nat.div_lt_iff_lt_mul (by omega)]
    omega
  omega

theorem quot_lt {u v d : Nat} (hu : u < v) (hd : d < 4294967296) : (u * 4294967296 + d) / v < 4294967296 := by
  rw [Nat.div_lt_iff_lt_mul (by omega)]
  have : (u + 1) * 4294967296 ≤ v * 4294967296 := Nat.mul_le_mul_right _ hu
  rw [Nat.mul_comm 4294967296 v]
  omega

/-- What holds at each test: the guess g is not too low, and r is what is left of u. -/
structure Gu (u v v1 v0 d g r : Nat) : Prop where
  hv : v = v1 * 4294967296 + v0
  hu : u < v
  h0 : v0 < 4294967296
  h1 : 2147483648 ≤ v1
  hd : d < 4294967296
  top : g ≤ 4294967297
  rest : g * v1 + r = u
  low : (u * 4294967296 + d) / v ≤ g

theorem Gu.start {u v v1 v0 d : Nat} (hv : v = v1 * 4294967296 + v0) (hu : u < v) (h0 : v0 < 4294967296) (h1 : 2147483648 ≤ v1) (hd : d < 4294967296) : Gu u v v1 v0 d (u / v1) (u % v1) := by
  refine ⟨hv, hu, h0, h1, hd, guess_hi (d := 0) (q := 0) hv hu h0 h1, by rw [Nat.mul_comm]; exact Nat.div_add_mod u v1, ?_⟩
  have hlt : (u * 4294967296 + d) / v < u / v1 + 1 := by
    rw [Nat.div_lt_iff_lt_mul (by omega)]
    have a : u < (u / v1 + 1) * v1 := by
      have := Nat.div_add_mod u v1
      have := Nat.mod_lt u (show 0 < v1 by omega)
      rw [Nat.add_mul, Nat.one_mul, Nat.mul_comm]
      omega
    have b : (u + 1) * 4294967296 ≤ (u / v1 + 1) * v1 * 4294967296 := Nat.mul_le_mul_right _ a
    have c0 : v1 * 4294967296 ≤ v := by rw [hv]; exact Nat.le_add_right _ _
    have c : (u / v1 + 1) * (v1 * 4294967296) ≤ (u / v1 + 1) * v := Nat.mul_le_mul_left (u / v1 + 1) c0
    rw [← Nat.mul_assoc] at c
    exact Nat.lt_of_lt_of_le (Nat.lt_of_lt_of_le (by rw [Nat.add_mul, Nat.one_mul]; exact Nat.add_lt_add_left hd _) b) c
  exact Nat.le_of_lt_succ hlt

/-- The product of guess and divisor, by halves. -/
theorem Gu.prod {u v v1 v0 d g r : Nat} (h : Gu u v v1 v0 d g r) : g * v + r * 4294967296 = u * 4294967296 + g * v0 := by
  rw [h.hv, Nat.mul_add, ← Nat.mul_assoc, ← h.rest, Nat.add_mul]
  omega

theorem Gu.high {u v v1 v0 d g r : Nat} (h : Gu u v v1 v0 d g r) (hc : 4294967296 ≤ g ∨ 4294967296 * r + d < g * v0) : (u * 4294967296 + d) / v ≤ g - 1 ∧ 1 ≤ g := by
  have hq := quot_lt h.hu h.hd
  rcases hc with hc | hc
  · omega
  · have hlt : (u * 4294967296 + d) / v < g := by
      rw [Nat.div_lt_iff_lt_mul (by have := h.hu; omega)]
      have := h.prod
      omega
    generalize (u * 4294967296 + d) / v = z at *
    omega

theorem Gu.next {u v v1 v0 d g r : Nat} (h : Gu u v v1 v0 d g r) (hc : 4294967296 ≤ g ∨ 4294967296 * r + d < g * v0) : Gu u v v1 v0 d (g - 1) (r + v1) ∧ 1 ≤ g := by
  obtain ⟨a, b⟩ := h.high hc
  refine ⟨⟨h.hv, h.hu, h.h0, h.h1, h.hd, by have := h.top; omega, ?_, a⟩, b⟩
  have := h.rest
  have e : (g - 1) * v1 + v1 = g * v1 := by
    rw [Nat.sub_mul, Nat.one_mul]
    exact Nat.sub_add_cancel (Nat.le_mul_of_pos_left _ b)
  omega

theorem Gu.is {u v v1 v0 d g r : Nat} (h : Gu u v v1 v0 d g r) (hc : g * v0 ≤ 4294967296 * r + d) : g = (u * 4294967296 + d) / v := by
  have : g ≤ (u * 4294967296 + d) / v := by
    rw [Nat.le_div_iff_mul_le (by have := h.hu; omega)]
    have := h.prod
    omega
  have := h.low
  omega

/-- The loop was left where the rest is great. -/
theorem Gu.out {u v v1 v0 d g r : Nat} (h : Gu u v v1 v0 d g r) (hg : g ≤ 4294967296) (hr : 4294967296 ≤ r) : g = (u * 4294967296 + d) / v := by
  apply h.is
  have a : g * v0 ≤ 4294967296 * 4294967296 := Nat.mul_le_mul hg (Nat.le_of_lt h.h0)
  have b : 4294967296 * 4294967296 ≤ 4294967296 * r := Nat.mul_le_mul_left _ hr
  omega

/-- What is left behind a step, in words of 64 bits. -/
theorem left_is {u v d g : Nat} (hv : v < 18446744073709551616) (hv0 : 0 < v) (hg : g = (u * 4294967296 + d) / v) : ((u * 4294967296 + d : Nat) : Int) - ((g * v : Nat) : Int) = (((u * 4294967296 + d) % v : Nat) : Int) := by
  have := Nat.div_add_mod (u * 4294967296 + d) v
  rw [← hg, Nat.mul_comm] at this
  omega

/-- Two steps are the division of three digits. -/
theorem two_steps (u v d e : Nat) : ((u * 4294967296 + d) % v * 4294967296 + e) % v = (u * 18446744073709551616 + (d * 4294967296 + e)) % v := by
  rw [Nat.add_mod, Nat.mod_mul_mod, ← Nat.add_mod]
  have e1 : (u * 4294967296 + d) * 4294967296 + e = u * 18446744073709551616 + (d * 4294967296 + e) := by
    rw [Nat.add_mul, Nat.mul_assoc, Nat.add_assoc]
  rw [e1]

theorem scaled {h l y p : Nat} : ((h * 18446744073709551616 + l) * p) % (y * p) = ((h * 18446744073709551616 + l) % y) * p := Nat.mul_mod_mul_right _ _ _


theorem shift_or {h s c : Nat} (hc : c < 2 ^ s) : (h * 2 ^ s) ||| c = h * 2 ^ s + c := by
  rw [Nat.mul_comm, Nat.two_pow_add_eq_or_of_lt hc]

/-- A division's set-up: the divisor moved up till its highest bit stands, the number likewise, in digits of 32 bits. -/
structure Dv (hi lo y s t Y v1 v0 A c u D d1 d0 : Nat) : Prop where
  st : s + t = 64
  t0 : 0 < t
  eY : Y = y * 2 ^ s
  lY : Y < 18446744073709551616
  gY : 9223372036854775808 ≤ Y
  e1 : v1 = Y / 4294967296
  e0 : v0 = Y % 4294967296
  eA : A = hi * 2 ^ s
  lA : A < 18446744073709551616
  ec : c = lo / 2 ^ t
  lc : c < 2 ^ s
  eu : u = A + c
  lu : u < Y
  eD : D = lo * 2 ^ s % 18446744073709551616
  f1 : d1 = D / 4294967296
  f0 : d0 = D % 4294967296
  all : u * 18446744073709551616 + D = (hi * 18446744073709551616 + lo) * 2 ^ s

theorem Dv.mk' {hi lo y s t : Nat} (hst : s + t = 64) (ht : 0 < t) (hhi : hi < y) (hlo : lo < 18446744073709551616) (ha : 2 ^ t ≤ 2 * y) (hb : y < 2 ^ t) :
    ∃ Y v1 v0 A c u D d1 d0, Dv hi lo y s t Y v1 v0 A c u D d1 d0 := by
  have ep : 2 ^ s * 2 ^ t = 18446744073709551616 := by rw [← Nat.pow_add, hst]
  have hp : 0 < 2 ^ s := Nat.two_pow_pos _
  have ht0 : 0 < 2 ^ t := Nat.two_pow_pos _
  have lY : y * 2 ^ s < 18446744073709551616 := by
    rw [← ep, Nat.mul_comm (2 ^ s)]
    exact Nat.mul_lt_mul_of_pos_right hb hp
  have gY : 9223372036854775808 ≤ y * 2 ^ s := by
    have := Nat.mul_le_mul_right (2 ^ s) ha
    rw [Nat.mul_comm (2 ^ t), ep, Nat.mul_assoc] at this
    omega
  have lc : lo / 2 ^ t < 2 ^ s := by
    rw [Nat.div_lt_iff_lt_mul ht0, ep]
    exact hlo
  have lAY : hi * 2 ^ s + 2 ^ s ≤ y * 2 ^ s := by
    have := Nat.mul_le_mul_right (2 ^ s) (show hi + 1 ≤ y from hhi)
    rwa [Nat.add_mul, Nat.one_mul] at this
  refine ⟨y * 2 ^ s, _, _, hi * 2 ^ s, lo / 2 ^ t, hi * 2 ^ s + lo / 2 ^ t, lo * 2 ^ s % 18446744073709551616, _, _, hst, ht, rfl, lY, gY, rfl, rfl, rfl, ?_, rfl, lc, rfl, ?_, rfl, rfl, rfl, ?_⟩
  · omega
  · omega
  · have e1 : lo * 2 ^ s / 18446744073709551616 = lo / 2 ^ t := by
      rw [← ep, Nat.mul_comm (2 ^ s) (2 ^ t), Nat.mul_div_mul_right _ _ hp]
    have e2 := Nat.div_add_mod (lo * 2 ^ s) 18446744073709551616
    rw [e1] at e2
    rw [Nat.add_mul, Nat.add_mul, Nat.add_assoc, Nat.mul_comm (lo / 2 ^ t), e2]
    congr 1
    rw [Nat.mul_assoc, Nat.mul_assoc, Nat.mul_comm (2 ^ s)]

theorem Dv.rest {hi lo y s t Y v1 v0 A c u D d1 d0 : Nat} (h : Dv hi lo y s t Y v1 v0 A c u D d1 d0) : ((u * 4294967296 + d1) % Y * 4294967296 + d0) % Y / 2 ^ s = (hi * 18446744073709551616 + lo) % y := by
  have eD : d1 * 4294967296 + d0 = D := by
    rw [h.f1, h.f0, Nat.mul_comm]
    exact Nat.div_add_mod D 4294967296
  rw [two_steps, eD, h.all, h.eY, scaled, Nat.mul_div_cancel _ (Nat.two_pow_pos _)]

end Go.Proofs.YtkmhaemcpakobaaGreatDoor.sg

namespace Go.Proofs.YtkmhaemcpakobaaGreatDoor.sg
open Go.ChangeShapes Go.WideShapes Go.ChangeAt Go.RowKit Go.Deep
set_option linter.unusedVariables false

theorem add_mod_hi {a b m : Nat} (ha : a < m) (hb : b < m) (h : m - b ≤ a) : (a + b) % m = a - (m - b) := by
  rw [Nat.mod_eq_sub_mod (by omega), Nat.mod_eq_of_lt (by omega)]
  omega

theorem add_any (a b m : Nat) (ha : a < m) (hb : b < m) (hm : m < 18446744073709551616) (w : World) :
    Calls Tryz.prog 106 #[.int .u64 (a : Int), .int .u64 (b : Int), .int .u64 (m : Int)] w fun e w' => e = .returned (.int .u64 ((am a b m : Nat) : Int)) ∧ w' = w := by
  go_enter Tryz.func106, Tryz.ntmps106
  by_cases h : m - b ≤ a
  · have e : am a b m = a - (m - b) := add_mod_hi ha hb h
    rw [e]
    have hc : ¬ ((a : Int) < (m : Int) - (b : Int)) := by omega
    go_wp2
    go_ret
    exact ⟨ret_int (by omega), rfl⟩
  · have e : am a b m = a + b := Nat.mod_eq_of_lt (by omega)
    rw [e]
    have hc : ((a : Int) < (m : Int) - (b : Int)) := by omega
    go_wp2
    go_ret
    exact ⟨ret_int (by omega), rfl⟩

theorem half_lt {b : Nat} (h : 0 < b) : b / 2 < b := by omega

theorem times_any (a b m : Nat) (ha : a < 18446744073709551616) (hb : b < 18446744073709551616) (hm0 : 0 < m) (hm : m < 18446744073709551616) (w : World) :
    Calls Tryz.prog 79 #[.int .u64 (a : Int), .int .u64 (b : Int), .int .u64 (m : Int)] w fun e w' => e = .returned (.int .u64 ((mm a b m : Nat) : Int)) ∧ w' = w := by
  go_enter Tryz.func79, Tryz.ntmps79
  have hz : ((m : Int) == 0) = false := by simp; omega
  go_wp2
  go_loopw [0, 1, 7] (fun x y o wr => ∃ a' b' o' : Nat, x = .int .u64 (a' : Int) ∧ y = .int .u64 (b' : Int) ∧ o = .int .u64 (o' : Int) ∧ a' < m ∧ o' < m ∧ b' ≤ b ∧ (o' + a' * b') % m = mm a b m ∧ wr = w) (fun _ y _ _ => (intOf y).toNat)
  case atStart => exact ⟨a % m, b, 0, by rw [← Int.natCast_emod], rfl, rfl, Nat.mod_lt _ hm0, hm0, Nat.le_refl _, by rw [Nat.zero_add, Nat.mod_mul_mod, mm], rfl⟩
  case round =>
    obtain ⟨a', b', o', rfl, rfl, rfl, ha', ho', hb', hr, rfl⟩ := hrel
    have HR : Hid ((o' + a' * b') % m = mm a b m) := hr
    clear hr
    by_cases h0 : b' = 0
    · have hno : ¬ (0 : Int) < (b' : Int) := by omega
      go_wp2
      go_ret
      have hr := HR.out
      rw [h0, Nat.mul_zero, Nat.add_zero, Nat.mod_eq_of_lt ho'] at hr
      exact ⟨ret_int (by rw [hr]), rfl⟩
    · have hpos : (0 : Int) < (b' : Int) := by omega
      have hbb : b' / 2 ≤ b := by omega
      have hlt : b' / 2 < b' := by omega
      have a2 := add_any a' a' m ha' ha' hm wr
      by_cases h1 : b' % 2 = 1
      · have hb2 : (b' : Int) % 2 = 1 := by omega
        have a1 := add_any o' a' m ho' ha' hm wr
        go_wp2_with (first
          | (go_at_call_of 106 (Value.int IntKind.u64 (o' : Int)); refine a1.mono ?_; rintro e w ⟨rfl, rfl⟩)
          | (go_at_call 106; refine a2.mono ?_; rintro e w ⟨rfl, rfl⟩)
          | go_in)
        go_roundw
        case rel => exact ⟨am a' a' m, b' / 2, am o' a' m, rfl, by simp, rfl, am_lt hm0, am_lt hm0, hbb, times_odd h1 HR.out, trivial⟩
        case measure => simp [intOf]; omega
      · have hb2 : (b' : Int) % 2 = 0 := by omega
        go_wp2_with (first
          | (go_at_call 106; refine a2.mono ?_; rintro e w ⟨rfl, rfl⟩)
          | go_in)
        go_roundw
        case rel => exact ⟨am a' a' m, b' / 2, o', rfl, by simp, rfl, am_lt hm0, ho', hbb, times_even (by omega) HR.out, trivial⟩
        case measure => simp [intOf]; omega

theorem spow_any (x n m : Nat) (hx : x < 18446744073709551616) (hn : n < 18446744073709551616) (hm : m < 18446744073709551616) (w : World) :
    Calls Tryz.prog 51 #[.int .u64 (x : Int), .int .u64 (n : Int), .int .u64 (m : Int)] w fun e w' => e = .returned (.int .u64 ((pm x n m : Nat) : Int)) ∧ w' = w := by
  go_enter Tryz.func51, Tryz.ntmps51
  by_cases h2 : m < 2
  · have e : pm x n m = 0 := pm_small h2
    rw [e]
    go_wp2
    go_ret
    exact ⟨rfl, rfl⟩
  have hm0 : 0 < m := by omega
  have hz : ((m : Int) == 0) = false := by simp; omega
  go_wp2
  go_loopw [0, 1, 7] (fun a b o wr => ∃ a' b' o' : Nat, a = .int .u64 (a' : Int) ∧ b = .int .u64 (b' : Int) ∧ o = .int .u64 (o' : Int) ∧ a' < m ∧ o' < m ∧ b' ≤ n ∧ (o' * a' ^ b') % m = pm x n m ∧ wr = w) (fun _ y _ _ => (intOf y).toNat)
  case atStart => exact ⟨x % m, n, 1, by rw [← Int.natCast_emod], rfl, rfl, Nat.mod_lt _ hm0, by omega, Nat.le_refl _, by rw [Nat.one_mul, ← Nat.pow_mod, pm_big (by omega)], rfl⟩
  case round =>
    obtain ⟨a', b', o', rfl, rfl, rfl, ha', ho', hb', hr, rfl⟩ := hrel
    have HR : Hid ((o' * a' ^ b') % m = pm x n m) := hr
    clear hr
    by_cases h0 : b' = 0
    · have hno : ¬ (0 : Int) < (b' : Int) := by omega
      go_wp2
      go_ret
      have hr := HR.out
      rw [h0, Nat.pow_zero, Nat.mul_one, Nat.mod_eq_of_lt ho'] at hr
      exact ⟨ret_int (by rw [hr]), rfl⟩
    · have hpos : (0 : Int) < (b' : Int) := by omega
      have hbb : b' / 2 ≤ n := by omega
      have hlt : b' / 2 < b' := by omega
      have a2 := times_any a' a' m (by omega) (by omega) hm0 hm wr
      by_cases h1 : b' % 2 = 1
      · have hb2 : (b' : Int) % 2 = 1 := by omega
        have a1 := times_any o' a' m (by omega) (by omega) hm0 hm wr
        go_wp2_with (first
          | (go_at_call_of 79 (Value.int IntKind.u64 (o' : Int)); refine a1.mono ?_; rintro e w ⟨rfl, rfl⟩)
          | (go_at_call 79; refine a2.mono ?_; rintro e w ⟨rfl, rfl⟩)
          | go_in)
        go_roundw
        case rel => exact ⟨mm a' a' m, b' / 2, mm o' a' m, rfl, by simp, rfl, mm_lt hm0, mm_lt hm0, hbb, pow_odd h1 HR.out, trivial⟩
        case measure => simp [intOf]; omega
      · have hb2 : (b' : Int) % 2 = 0 := by omega
        go_wp2_with (first
          | (go_at_call 79; refine a2.mono ?_; rintro e w ⟨rfl, rfl⟩)
          | go_in)
        go_roundw
        case rel => exact ⟨mm a' a' m, b' / 2, o', rfl, by simp, rfl, mm_lt hm0, ho', hbb, pow_even (by omega) HR.out, trivial⟩
        case measure => simp [intOf]; omega

end Go.Proofs.YtkmhaemcpakobaaGreatDoor.sg

/-
  DERIVED: THE SHELF's CONTRACTS AT THIS DUMP, IN PLAIN WORDS (tools/lay-plain.mjs out of 'YtkmhaemcpakobaaGreatDoorSHbx.lean', which tools/lay-shelf.mjs wrote): THE SAME DECLARATIONS UNDER THE SAME NAMES: 'import', 'namespace', 'open', 'def', 'theorem' AND NOTHING ELSE: no command of the shelf's: FOR A HAND-IN. Each laying: the table of numbers ('.._ren') and one theorem, a field a fact of the dump's own or the kernel's comparison; each contract: ONE APPLICATION.
-/
namespace Go.Proofs
open Go.Shelf
def Tryz.sgMul_ren : Go.Shelf.Ren := ⟨fun | 264 => 152 | n => n, fun | 53 => 38 | 46 => 71 | n => n, fun | n => n⟩
theorem Tryz.sgMul : Go.Proofs.Lays.n264 Tryz.prog Tryz.sgMul_ren := {
  mixed := by kernel_rfl
  f264 := Tryz.func152.trans (congrArg some (by kernel_rfl))
  t46 := Tryz.underlying71
  a46 := Tryz.isAgg71
  z46 := Tryz.sizeOf71
  v46 := Tryz.zeroValue71
  t53 := Tryz.underlying38
  a53 := Tryz.isAgg38
  z53 := Tryz.sizeOf38
  v53 := Tryz.zeroValue38 }
def Tryz.sgLen_ren : Go.Shelf.Ren := ⟨fun | 129 => 119 | n => n, fun | 53 => 38 | 3 => 3 | 4 => 4 | 46 => 71 | 5 => 5 | 9 => 9 | n => n, fun | n => n⟩
theorem Tryz.sgLen : Go.Proofs.Lays.n129 Tryz.prog Tryz.sgLen_ren := {
  mixed := by kernel_rfl
  f129 := Tryz.func119.trans (congrArg some (by kernel_rfl))
  t3 := Tryz.underlying3
  a3 := Tryz.isAgg3
  z3 := Tryz.sizeOf3
  v3 := Tryz.zeroValue3
  t4 := Tryz.underlying4
  a4 := Tryz.isAgg4
  z4 := Tryz.sizeOf4
  v4 := Tryz.zeroValue4
  t5 := Tryz.underlying5
  a5 := Tryz.isAgg5
  z5 := Tryz.sizeOf5
  v5 := Tryz.zeroValue5
  t9 := Tryz.underlying9
  a9 := Tryz.isAgg9
  z9 := Tryz.sizeOf9
  v9 := Tryz.zeroValue9
  t46 := Tryz.underlying71
  a46 := Tryz.isAgg71
  z46 := Tryz.sizeOf71
  v46 := Tryz.zeroValue71
  t53 := Tryz.underlying38
  a53 := Tryz.isAgg38
  z53 := Tryz.sizeOf38
  v53 := Tryz.zeroValue38 }
def Tryz.sgLz_ren : Go.Shelf.Ren := ⟨fun | 134 => 182 | 129 => 119 | n => n, fun | 53 => 38 | 3 => 3 | 4 => 4 | 46 => 71 | 5 => 5 | 9 => 9 | n => n, fun | n => n⟩
theorem Tryz.sgLz : Go.Proofs.Lays.n134 Tryz.prog Tryz.sgLz_ren := {
  mixed := by kernel_rfl
  f129 := Tryz.func119.trans (congrArg some (by kernel_rfl))
  f134 := Tryz.func182.trans (congrArg some (by kernel_rfl))
  t3 := Tryz.underlying3
  a3 := Tryz.isAgg3
  z3 := Tryz.sizeOf3
  v3 := Tryz.zeroValue3
  t4 := Tryz.underlying4
  a4 := Tryz.isAgg4
  z4 := Tryz.sizeOf4
  v4 := Tryz.zeroValue4
  t5 := Tryz.underlying5
  a5 := Tryz.isAgg5
  z5 := Tryz.sizeOf5
  v5 := Tryz.zeroValue5
  t9 := Tryz.underlying9
  a9 := Tryz.isAgg9
  z9 := Tryz.sizeOf9
  v9 := Tryz.zeroValue9
  t46 := Tryz.underlying71
  a46 := Tryz.isAgg71
  z46 := Tryz.sizeOf71
  v46 := Tryz.zeroValue71
  t53 := Tryz.underlying38
  a53 := Tryz.isAgg38
  z53 := Tryz.sizeOf38
  v53 := Tryz.zeroValue38 }
end Go.Proofs

namespace Go.Proofs.YtkmhaemcpakobaaGreatDoor.sg
open Go.ChangeShapes Go.WideShapes Go.ChangeAt Go.RowKit Go.Deep Go.Shelf
set_option linter.unusedVariables false

theorem mul64_any (x y : Nat) (hx : x < 18446744073709551616) (hy : y < 18446744073709551616) (w : World) :
    Calls Tryz.prog 152 #[.int .u64 x, .int .u64 y] w fun e w' => e = .returned (.tuple #[.int .u64 ((x * y / 18446744073709551616 : Nat) : Int), .int .u64 ((x * y % 18446744073709551616 : Nat) : Int)]) ∧ w' = w := Any.bits_Mul64 Tryz.sgMul x y hx hy w

theorem len64_any (x : Nat) (hx : x < 18446744073709551616) (w : World) :
    Calls Tryz.prog 119 #[.int .u64 (x : Int)] w fun e w' => e = .returned (.int .i64 (Lib.bitLen x : Int)) ∧ w' = w := Any.bits_Len64 Tryz.sgLen (x : Int) w (by omega) (by omega)

theorem lz64_any (x : Nat) (hx : x < 18446744073709551616) (w : World) :
    Calls Tryz.prog 182 #[.int .u64 (x : Int)] w fun e w' => e = .returned (.int .i64 (64 - (Lib.bitLen x : Int))) ∧ w' = w := Any.bits_LeadingZeros64 Tryz.sgLz (x : Int) w (by omega) (by omega)

theorem bitLenAux_ge : ∀ (f x : Nat), 0 < x → x < 2 ^ f → 2 ^ Lib.bitLenAux f x ≤ 2 * x ∧ x < 2 ^ Lib.bitLenAux f x
  | 0, x, h0, h => by simp at h; omega
  | f + 1, x, h0, h => by
    simp only [Lib.bitLenAux]
    rw [if_neg (by omega)]
    by_cases h1 : x = 1
    · subst h1
      have : Lib.bitLenAux f (1 / 2) = 0 := by cases f <;> simp [Lib.bitLenAux]
      rw [this]
      decide
    · obtain ⟨a, b⟩ := bitLenAux_ge f (x / 2) (by omega) (by rw [Nat.pow_succ] at h; omega)
      rw [Nat.add_comm, Nat.pow_succ]
      omega

theorem bitLen_top (x : Nat) (h0 : 0 < x) (h : x < 18446744073709551616) : 2 ^ Lib.bitLen x ≤ 2 * x ∧ x < 2 ^ Lib.bitLen x := bitLenAux_ge 64 x h0 h

theorem bitLen_lt (x : Nat) (h : x < 18446744073709551616) : x < 2 ^ Lib.bitLen x := by
  by_cases h0 : x = 0
  · subst h0; exact Nat.two_pow_pos _
  · exact (bitLen_top x (by omega) h).2

theorem bitLen_le64 (x : Nat) (h : x < 18446744073709551616) : Lib.bitLen x ≤ 64 := Lib.bitLen_le x 64 (Nat.le_refl _) h

theorem wrapM (a : Nat) (ha : a < 18446744073709551616) : IntKind.u64.wrap (a : Int) = (a : Int) := by rw [IntKind.wrap_u64]; omega

theorem maskB (a : Nat) (ha : a < 18446744073709551616) : bits .and .u64 (a : Int) 4294967295 = ((a % 4294967296 : Nat) : Int) := by
  have h := bits_and_u64_nat a 4294967295 ha (by omega)
  have e : a &&& 4294967295 = a % 4294967296 := Nat.and_two_pow_sub_one_eq_mod a 32
  rw [e] at h
  exact h

/-- The rest is told, the quotient is some value. -/
def IsRem (r : Nat) (e : Ending) : Prop := ∃ q : Value, e = .returned (.tuple #[q, .int .u64 (r : Int)])

theorem pow_cast (a s : Nat) : (a : Int) * 2 ^ s = ((a * 2 ^ s : Nat) : Int) := by
  rw [Int.natCast_mul, Int.natCast_pow]; rfl

/-- Bounds under names of their own (a great numeral in a hypothesis stops the walk). -/
def Lo (r : Nat) : Prop := r < 4294967296
def Le (r : Nat) : Prop := r ≤ 4294967296
def Vk (v : Nat) : Prop := 2147483648 ≤ v ∧ v < 4294967296

set_option maxHeartbeats 4000000 in
theorem div64_any (hi lo y : Nat) (hhi : hi < y) (hlo : lo < 18446744073709551616) (hy : y < 18446744073709551616) (w : World) :
    Calls Tryz.prog 171 #[.int .u64 (hi : Int), .int .u64 (lo : Int), .int .u64 (y : Int)] w fun e w' => IsRem ((hi * 18446744073709551616 + lo) % y) e ∧ Below w.heap.size w w' := by
  go_enter Tryz.func171, Tryz.ntmps171
  have hz : ((y : Int) == 0) = false := by simp; omega
  have hz2 : ¬ ((y : Int) ≤ (hi : Int)) := by omega
  by_cases h0 : hi = 0
  · have hz3 : ((hi : Int) == 0) = true := by simp; omega
    have er : (hi * 18446744073709551616 + lo) % y = lo % y := by rw [h0]; simp
    rw [er]
    obtain ⟨R, hR⟩ : ∃ R, R = lo % y := ⟨_, rfl⟩
    have hR' : (lo : Int) % (y : Int) = (R : Int) := by omega
    rw [← hR]
    clear hR er
    go_wp2
    go_quiet (fail)
    go_wp2
    go_ret2
    exact ⟨⟨_, by rw [← hR']; rfl⟩, Go.below_drewN (Below.refl _ _) _⟩
  · have hz3 : ((hi : Int) == 0) = false := by simp; omega
    obtain ⟨s, hs⟩ : ∃ s, s + Lib.bitLen y = 64 := ⟨64 - Lib.bitLen y, by have := bitLen_le64 y hy; omega⟩
    obtain ⟨t, ht⟩ : ∃ t, t = Lib.bitLen y := ⟨_, rfl⟩
    have htop := bitLen_top y (by omega) hy
    rw [← ht] at hs htop
    have t0 : 0 < t := by
      rcases Nat.eq_zero_or_pos t with h | h
      · subst h; simp at htop; omega
      · exact h
    obtain ⟨Y, v1, v0, A, c, u, D, d1, d0, hD⟩ := Dv.mk' hs t0 hhi hlo htop.1 htop.2
    have lz := lz64_any y hy w
    rw [← ht, show (64 : Int) - (t : Int) = (s : Int) by omega] at lz
    have HD : Hid (Dv hi lo y s t Y v1 v0 A c u D d1 d0) := hD
    have w1 : IntKind.u64.wrap (s : Int) = (s : Int) := wrapM s (by omega)
    have w2 : min s 64 = s := by omega
    have w3 : IntKind.u64.wrap ((y : Int) * 2 ^ s) = (Y : Int) := by rw [pow_cast, ← hD.eY]; exact wrapM _ hD.lY
    have w4 : (Y : Int) / 4294967296 = (v1 : Int) := by have := hD.e1; omega
    have w5 : bits .and .u64 (Y : Int) 4294967295 = (v0 : Int) := by rw [hD.e0]; exact maskB _ hD.lY
    have w6 : IntKind.u64.wrap ((hi : Int) * 2 ^ s) = (A : Int) := by rw [pow_cast, ← hD.eA]; exact wrapM _ hD.lA
    have w7 : IntKind.u64.wrap (64 - (s : Int)) = (t : Int) := by rw [show (64 : Int) - (s : Int) = (t : Int) by omega]; exact wrapM _ (by omega)
    have w8 : min t 64 = t := by omega
    have w9 : (lo : Int) / 2 ^ t = (c : Int) := by
      rw [hD.ec, Int.natCast_ediv, Int.natCast_pow]; rfl
    have lu : u < 18446744073709551616 := Nat.lt_trans hD.lu hD.lY
    have w10 : bits .or .u64 (A : Int) (c : Int) = (u : Int) := by
      have := hD.eu
      rw [bits_or_u64_nat A c hD.lA (by omega), hD.eA, shift_or hD.lc, ← hD.eA, hD.eu]
    have w11 : IntKind.u64.wrap ((lo : Int) * 2 ^ s) = (D : Int) := by rw [pow_cast, hD.eD, IntKind.wrap_u64]; omega
    have w12 : (D : Int) / 4294967296 = (d1 : Int) := by have := hD.f1; omega
    have lD : D < 18446744073709551616 := by rw [hD.eD]; exact Nat.mod_lt _ (by omega)
    have w13 : bits .and .u64 (D : Int) 4294967295 = (d0 : Int) := by rw [hD.f0]; exact maskB _ lD
    have hv1 : 2147483648 ≤ v1 ∧ v1 < 4294967296 := by have := hD.e1; have := hD.gY; have := hD.lY; omega
    have hz4 : ((v1 : Int) == 0) = false := by simp; omega
    have hz5 : ¬ v1 = 0 := by omega
    obtain ⟨g, hg⟩ : ∃ g, g = u / v1 := ⟨_, rfl⟩
    have w14 : (u : Int) / (v1 : Int) = (g : Int) := by rw [hg, Int.natCast_ediv]
    have wg : IntKind.u64.wrap (g : Int) = (g : Int) := wrapM g (by have := Nat.div_le_self u v1; omega)
    obtain ⟨z, hzz⟩ : ∃ z, z = g * v1 := ⟨_, rfl⟩
    have hzu : z ≤ u := by rw [hzz, hg]; exact Nat.div_mul_le_self u v1
    have w15 : IntKind.u64.wrap ((g : Int) * (v1 : Int)) = (z : Int) := by
      rw [← Int.natCast_mul, ← hzz]; exact wrapM _ (by omega)
    obtain ⟨r, hr⟩ : ∃ r, r = u % v1 := ⟨_, rfl⟩
    have hzr : z + r = u := by rw [hzz, hg, hr, Nat.mul_comm]; exact Nat.div_add_mod u v1
    have w16 : IntKind.u64.wrap ((u : Int) - (z : Int)) = (r : Int) := by
      rw [show (u : Int) - (z : Int) = (r : Int) by omega]; exact wrapM _ (by omega)
    have HG : Hid (Gu u Y v1 v0 d1 g r) := by
      have := hD.e1; have := hD.e0; have := hD.f1
      rw [hg, hr]
      exact Gu.start (by omega) hD.lu (by omega) hv1.1 (by omega)
    have hr1 : Lo r := by show r < 4294967296; have := Nat.mod_lt u (show 0 < v1 by omega); omega
    have hv : Vk v1 := hv1
    clear hv1 hhi hlo hy hs ht htop t0 hD lu lD hg hzz hzu hr hzr
    go_upto_block 0 with (first
      | (go_at_call 182; refine lz.mono ?_; rintro e w ⟨rfl, rfl⟩)
      | go_in)
    go_cut [15, 16] from 67 to 85 (fun a b wx => ∃ q : Nat, a = .int .u64 (q : Int) ∧ q = (u * 4294967296 + d1) / Y ∧ wx = w)
    case first =>
      go_wp2_with fail
      go_loopw [15, 16] (fun a b wr => ∃ g r : Nat, a = .int .u64 (g : Int) ∧ b = .int .u64 (r : Int) ∧ Hid (Gu u Y v1 v0 d1 g r) ∧ Lo r ∧ wr = w) (fun a _ _ => (intOf a).toNat)
      case atStart => exact ⟨g, r, rfl, rfl, HG, hr1, by first | rfl | trivial⟩
      case round =>
        obtain ⟨g', r', rfl, rfl, HG', hr', rfl⟩ := hrel
        have hv1 : 2147483648 ≤ v1 ∧ v1 < 4294967296 := hv
        have hr1 : r' < 4294967296 := hr'
        obtain ⟨m1, hm1⟩ : ∃ m1, m1 = 4294967296 * r' := ⟨_, rfl⟩
        have e17 : IntKind.u64.wrap (4294967296 * (r' : Int)) = (m1 : Int) := by rw [IntKind.wrap_u64]; omega
        have ld : d1 < 4294967296 := HG'.out.hd
        have htop : g' ≤ 4294967297 := HG'.out.top
        obtain ⟨m2, hm2⟩ : ∃ m2, m2 = m1 + d1 := ⟨_, rfl⟩
        have e18 : IntKind.u64.wrap ((m1 : Int) + (d1 : Int)) = (m2 : Int) := by rw [IntKind.wrap_u64]; omega
        obtain ⟨j, hj⟩ : ∃ j, j = r' + v1 := ⟨_, rfl⟩
        have e20 : IntKind.u64.wrap ((r' : Int) + (v1 : Int)) = (j : Int) := by rw [IntKind.wrap_u64]; omega
        by_cases hb : 4294967296 ≤ g'
        · have hb1 : ¬ ((g' : Int) < 4294967296) := by omega
          obtain ⟨k, hk⟩ : ∃ k, g' = k + 1 := ⟨g' - 1, by omega⟩
          have hn : Gu u Y v1 v0 d1 k j := by
            have := (HG'.out.next (Or.inl hb)).1
            rwa [hk, Nat.add_sub_cancel, ← hj] at this
          have e19 : IntKind.u64.wrap ((g' : Int) - 1) = (k : Int) := by rw [IntKind.wrap_u64]; omega
          have HN : Hid (Gu u Y v1 v0 d1 k j) := hn
          have hkg : Hid (k < g') := (by omega : k < g')
          have hk1 : Le k := (by omega : k ≤ 4294967296)
          clear hn hk hj htop ld hb hv1 hr1 e17 e18 hm1 hm2
          generalize hG : (g' : Int) = GG at *
          generalize hJ : (j : Int) = JJ at *
          generalize hR : (r' : Int) = RR at *
          by_cases hjb : JJ < 4294967296
          · go_wp2
            subst hG
            subst hJ
            go_roundw
            case rel => exact ⟨k, j, rfl, rfl, HN, (by omega : j < 4294967296), by first | rfl | trivial⟩
            case measure => have := hkg.out; simp [intOf]; omega
          · go_wp2
            subst hG
            subst hJ
            go_meet
            exact ⟨k, rfl, HN.out.out hk1 (by omega), by first | rfl | trivial⟩
        · have hb1 : (g' : Int) < 4294967296 := by omega
          obtain ⟨x, hx⟩ : ∃ x, x = g' * v0 := ⟨_, rfl⟩
          have hx1 : x ≤ 4294967295 * 4294967295 := by rw [hx]; exact Nat.mul_le_mul (by omega) (by have := HG'.out.h0; omega)
          have e21 : IntKind.u64.wrap ((g' : Int) * (v0 : Int)) = (x : Int) := by rw [← Int.natCast_mul, ← hx]; exact wrapM _ (by omega)
          by_cases hc : 4294967296 * r' + d1 < x
          · have hc1 : (m2 : Int) < (x : Int) := by omega
            have hp := (HG'.out.next (Or.inr (by rw [← hx]; exact hc)))
            obtain ⟨k, hk⟩ : ∃ k, g' = k + 1 := ⟨g' - 1, by omega⟩
            have hn : Gu u Y v1 v0 d1 k j := by
              have := hp.1
              rwa [hk, Nat.add_sub_cancel, ← hj] at this
            have e19 : IntKind.u64.wrap ((g' : Int) - 1) = (k : Int) := by rw [IntKind.wrap_u64]; omega
            have HN : Hid (Gu u Y v1 v0 d1 k j) := hn
            have hkg : Hid (k < g') := (by omega : k < g')
            have hk1 : Le k := (by omega : k ≤ 4294967296)
            clear hn hk hj htop ld hb hv1 hr1 hp hc hx hx1 hm1 hm2
            generalize hG : (g' : Int) = GG at *
            generalize hJ : (j : Int) = JJ at *
            generalize hR : (r' : Int) = RR at *
            by_cases hjb : JJ < 4294967296
            · go_wp2
              subst hG
              subst hJ
              go_roundw
              case rel => exact ⟨k, j, rfl, rfl, HN, (by omega : j < 4294967296), by first | rfl | trivial⟩
              case measure => have := hkg.out; simp [intOf]; omega
            · go_wp2
              subst hG
              subst hJ
              go_meet
              exact ⟨k, rfl, HN.out.out hk1 (by omega), by first | rfl | trivial⟩
          · have hc1 : ¬ ((m2 : Int) < (x : Int)) := by omega
            have HQ : Hid (g' = (u * 4294967296 + d1) / Y) := HG'.out.is (by rw [← hx]; omega)
            clear hj htop ld hb hv1 hr1 hc hx hx1 hm1 hm2
            generalize hG : (g' : Int) = GG at *
            generalize hR : (r' : Int) = RR at *
            go_wp2
            subst hG
            go_meet
            exact ⟨g', rfl, HQ.out, by first | rfl | trivial⟩
    case rest =>
      obtain ⟨q, rfl, hq, rfl⟩ := hcut
      have hD := HD.out
      have hv1 : 2147483648 ≤ v1 ∧ v1 < 4294967296 := hv
      have hY0 : 0 < Y := by have := hD.gY; omega
      obtain ⟨n, hn⟩ : ∃ n, n = (u * 4294967296 + d1) % Y := ⟨_, rfl⟩
      have ln : n < Y := by rw [hn]; exact Nat.mod_lt _ hY0
      have lY := hD.lY
      obtain ⟨k1, hk1⟩ : ∃ k1, k1 = u * 4294967296 % 18446744073709551616 := ⟨_, rfl⟩
      have f1 : IntKind.u64.wrap ((u : Int) * 4294967296) = (k1 : Int) := by rw [IntKind.wrap_u64]; omega
      obtain ⟨k2, hk2⟩ : ∃ k2, k2 = (k1 + d1) % 18446744073709551616 := ⟨_, rfl⟩
      have f2 : IntKind.u64.wrap ((k1 : Int) + (d1 : Int)) = (k2 : Int) := by rw [IntKind.wrap_u64]; omega
      obtain ⟨k3, hk3⟩ : ∃ k3, k3 = q * Y % 18446744073709551616 := ⟨_, rfl⟩
      have f3 : IntKind.u64.wrap ((q : Int) * (Y : Int)) = (k3 : Int) := by rw [← Int.natCast_mul, IntKind.wrap_u64, hk3]; omega
      have hl := left_is lY hY0 hq
      rw [← hn] at hl
      have f4 : IntKind.u64.wrap ((k2 : Int) - (k3 : Int)) = (n : Int) := by
        rw [IntKind.wrap_u64]
        generalize q * Y = qY at *
        omega
      obtain ⟨g2, hg2⟩ : ∃ g2, g2 = n / v1 := ⟨_, rfl⟩
      have f5 : (n : Int) / (v1 : Int) = (g2 : Int) := by rw [hg2, Int.natCast_ediv]
      have f6 : IntKind.u64.wrap (g2 : Int) = (g2 : Int) := wrapM g2 (by have := Nat.div_le_self n v1; omega)
      obtain ⟨z2, hz2'⟩ : ∃ z2, z2 = g2 * v1 := ⟨_, rfl⟩
      have hzn : z2 ≤ n := by rw [hz2', hg2]; exact Nat.div_mul_le_self n v1
      have f7 : IntKind.u64.wrap ((g2 : Int) * (v1 : Int)) = (z2 : Int) := by
        rw [← Int.natCast_mul, ← hz2']; exact wrapM _ (by omega)
      obtain ⟨r2, hr2⟩ : ∃ r2, r2 = n % v1 := ⟨_, rfl⟩
      have hzr2 : z2 + r2 = n := by rw [hz2', hg2, hr2, Nat.mul_comm]; exact Nat.div_add_mod n v1
      have f8 : IntKind.u64.wrap ((n : Int) - (z2 : Int)) = (r2 : Int) := by
        rw [show (n : Int) - (z2 : Int) = (r2 : Int) by omega]; exact wrapM _ (by omega)
      have HG2 : Hid (Gu n Y v1 v0 d0 g2 r2) := by
        have := hD.e1; have := hD.e0; have := hD.f0
        rw [hg2, hr2]
        exact Gu.start (by omega) ln (by omega) hv1.1 (by omega)
      have hr21 : Lo r2 := by show r2 < 4294967296; have := Nat.mod_lt n (show 0 < v1 by omega); omega
      have HN : Hid (n = (u * 4294967296 + d1) % Y) := hn
      clear hq hD hv1 hY0 hn ln lY hk1 hk2 hk3 hl hg2 hz2' hzn hr2 hzr2
      go_upto_block 2 with fail
      go_cut [16, 18] from 102 to 120 (fun b a wx => ∃ q2 : Nat, a = .int .u64 (q2 : Int) ∧ Hid (q2 = (n * 4294967296 + d0) / Y) ∧ wx = wc)
      case first =>
        go_wp2_with fail
        go_loopw [16, 18] (fun b a wr => ∃ g r : Nat, a = .int .u64 (g : Int) ∧ b = .int .u64 (r : Int) ∧ Hid (Gu n Y v1 v0 d0 g r) ∧ Lo r ∧ wr = wc) (fun _ a _ => (intOf a).toNat)
        case atStart => exact ⟨g2, r2, rfl, rfl, HG2, hr21, by first | rfl | trivial⟩
        case round =>
          obtain ⟨g', r', rfl, rfl, HG', hr', rfl⟩ := hrel
          have hv1 : 2147483648 ≤ v1 ∧ v1 < 4294967296 := hv
          have hr1 : r' < 4294967296 := hr'
          obtain ⟨m1, hm1⟩ : ∃ m1, m1 = 4294967296 * r' := ⟨_, rfl⟩
          have e17 : IntKind.u64.wrap (4294967296 * (r' : Int)) = (m1 : Int) := by rw [IntKind.wrap_u64]; omega
          have ld : d0 < 4294967296 := HG'.out.hd
          have htop : g' ≤ 4294967297 := HG'.out.top
          obtain ⟨m2, hm2⟩ : ∃ m2, m2 = m1 + d0 := ⟨_, rfl⟩
          have e18 : IntKind.u64.wrap ((m1 : Int) + (d0 : Int)) = (m2 : Int) := by rw [IntKind.wrap_u64]; omega
          obtain ⟨j, hj⟩ : ∃ j, j = r' + v1 := ⟨_, rfl⟩
          have e20 : IntKind.u64.wrap ((r' : Int) + (v1 : Int)) = (j : Int) := by rw [IntKind.wrap_u64]; omega
          by_cases hb : 4294967296 ≤ g'
          · have hb1 : ¬ ((g' : Int) < 4294967296) := by omega
            obtain ⟨k, hk⟩ : ∃ k, g' = k + 1 := ⟨g' - 1, by omega⟩
            have hn : Gu n Y v1 v0 d0 k j := by
              have := (HG'.out.next (Or.inl hb)).1
              rwa [hk, Nat.add_sub_cancel, ← hj] at this
            have e19 : IntKind.u64.wrap ((g' : Int) - 1) = (k : Int) := by rw [IntKind.wrap_u64]; omega
            have HN : Hid (Gu n Y v1 v0 d0 k j) := hn
            have hkg : Hid (k < g') := (by omega : k < g')
            have hk1 : Le k := (by omega : k ≤ 4294967296)
            clear hn hk hj htop ld hb hv1 hr1 e17 e18 hm1 hm2
            generalize hG : (g' : Int) = GG at *
            generalize hJ : (j : Int) = JJ at *
            generalize hR : (r' : Int) = RR at *
            by_cases hjb : JJ < 4294967296
            · go_wp2
              subst hG
              subst hJ
              go_roundw
              case rel => exact ⟨k, j, rfl, rfl, HN, (by omega : j < 4294967296), by first | rfl | trivial⟩
              case measure => have := hkg.out; simp [intOf]; omega
            · go_wp2
              subst hG
              subst hJ
              go_meet
              exact ⟨k, rfl, HN.out.out hk1 (by omega), by first | rfl | trivial⟩
          · have hb1 : (g' : Int) < 4294967296 := by omega
            obtain ⟨x, hx⟩ : ∃ x, x = g' * v0 := ⟨_, rfl⟩
            have hx1 : x ≤ 4294967295 * 4294967295 := by rw [hx]; exact Nat.mul_le_mul (by omega) (by have := HG'.out.h0; omega)
            have e21 : IntKind.u64.wrap ((g' : Int) * (v0 : Int)) = (x : Int) := by rw [← Int.natCast_mul, ← hx]; exact wrapM _ (by omega)
            by_cases hc : 4294967296 * r' + d0 < x
            · have hc1 : (m2 : Int) < (x : Int) := by omega
              have hp := (HG'.out.next (Or.inr (by rw [← hx]; exact hc)))
              obtain ⟨k, hk⟩ : ∃ k, g' = k + 1 := ⟨g' - 1, by omega⟩
              have hn : Gu n Y v1 v0 d0 k j := by
                have := hp.1
                rwa [hk, Nat.add_sub_cancel, ← hj] at this
              have e19 : IntKind.u64.wrap ((g' : Int) - 1) = (k : Int) := by rw [IntKind.wrap_u64]; omega
              have HN : Hid (Gu n Y v1 v0 d0 k j) := hn
              have hkg : Hid (k < g') := (by omega : k < g')
              have hk1 : Le k := (by omega : k ≤ 4294967296)
              clear hn hk hj htop ld hb hv1 hr1 hp hc hx hx1 hm1 hm2
              generalize hG : (g' : Int) = GG at *
              generalize hJ : (j : Int) = JJ at *
              generalize hR : (r' : Int) = RR at *
              by_cases hjb : JJ < 4294967296
              · go_wp2
                subst hG
                subst hJ
                go_roundw
                case rel => exact ⟨k, j, rfl, rfl, HN, (by omega : j < 4294967296), by first | rfl | trivial⟩
                case measure => have := hkg.out; simp [intOf]; omega
              · go_wp2
                subst hG
                subst hJ
                go_meet
                exact ⟨k, rfl, HN.out.out hk1 (by omega), by first | rfl | trivial⟩
            · have hc1 : ¬ ((m2 : Int) < (x : Int)) := by omega
              have HQ : Hid (g' = (n * 4294967296 + d0) / Y) := HG'.out.is (by rw [← hx]; omega)
              clear hj htop ld hb hv1 hr1 hc hx hx1 hm1 hm2
              generalize hG : (g' : Int) = GG at *
              generalize hR : (r' : Int) = RR at *
              go_wp2
              subst hG
              go_meet
              exact ⟨g', rfl, HQ.out, by first | rfl | trivial⟩
      case rest =>
        obtain ⟨q2, rfl, HQ2, rfl⟩ := hcut
        have hD := HD.out
        have hY0 : 0 < Y := by have := hD.gY; omega
        have lY := hD.lY
        obtain ⟨R, hR⟩ : ∃ R, R = (n * 4294967296 + d0) % Y := ⟨_, rfl⟩
        have lR : R < Y := by rw [hR]; exact Nat.mod_lt _ hY0
        obtain ⟨k4, hk4⟩ : ∃ k4, k4 = n * 4294967296 % 18446744073709551616 := ⟨_, rfl⟩
        have f9 : IntKind.u64.wrap ((n : Int) * 4294967296) = (k4 : Int) := by rw [IntKind.wrap_u64]; omega
        obtain ⟨k5, hk5⟩ : ∃ k5, k5 = (k4 + d0) % 18446744073709551616 := ⟨_, rfl⟩
        have f10 : IntKind.u64.wrap ((k4 : Int) + (d0 : Int)) = (k5 : Int) := by rw [IntKind.wrap_u64]; omega
        obtain ⟨k6, hk6⟩ : ∃ k6, k6 = q2 * Y % 18446744073709551616 := ⟨_, rfl⟩
        have f11 : IntKind.u64.wrap ((q2 : Int) * (Y : Int)) = (k6 : Int) := by rw [← Int.natCast_mul, IntKind.wrap_u64, hk6]; omega
        have hl := left_is lY hY0 HQ2.out
        rw [← hR] at hl
        have f12 : IntKind.u64.wrap ((k5 : Int) - (k6 : Int)) = (R : Int) := by
          rw [IntKind.wrap_u64]
          generalize q2 * Y = qY at *
          omega
        have hE : R / 2 ^ s = (hi * 18446744073709551616 + lo) % y := by rw [hR, HN.out]; exact hD.rest
        obtain ⟨E, hE'⟩ : ∃ E, E = R / 2 ^ s := ⟨_, rfl⟩
        have f13 : (R : Int) / 2 ^ s = (E : Int) := by
          rw [hE', Int.natCast_ediv, Int.natCast_pow]; rfl
        have HE : Hid (E = (hi * 18446744073709551616 + lo) % y) := hE'.trans hE
        clear hD hY0 lY hR lR hk4 hk5 hk6 hl hE hE' HQ2 HN HD HG HG2
        go_wp2
        go_ret2
        exact ⟨⟨_, by rw [← HE.out]; rfl⟩, Below.refl _ _⟩

theorem rem64_any (hi lo y : Nat) (hhi : hi < 18446744073709551616) (hlo : lo < 18446744073709551616) (hy0 : 0 < y) (hy : y < 18446744073709551616) (w : World) :
    Calls Tryz.prog 153 #[.int .u64 (hi : Int), .int .u64 (lo : Int), .int .u64 (y : Int)] w fun e w' => e = .returned (.int .u64 (((hi * 18446744073709551616 + lo) % y : Nat) : Int)) ∧ Below w.heap.size w w' := by
  obtain ⟨h, hh⟩ : ∃ h, h = hi % y := ⟨_, rfl⟩
  obtain ⟨E, hE⟩ : ∃ E, E = (hi * 18446744073709551616 + lo) % y := ⟨_, rfl⟩
  have w1 : (hi : Int) % (y : Int) = (h : Int) := by rw [hh, Int.natCast_emod]
  have hl : h < y := by rw [hh]; exact Nat.mod_lt _ hy0
  have e1 : (h * 18446744073709551616 + lo) % y = E := by rw [hE, hh, Nat.add_mod, Nat.mod_mul_mod, ← Nat.add_mod]
  have c1 := div64_any h lo y hl hlo hy w
  rw [e1] at c1
  rw [← hE]
  have hz : ¬ y = 0 := by omega
  clear hh hE e1 hl hhi hlo hy0 hy
  go_enter Tryz.func153, Tryz.ntmps153
  go_wp2_with (first
    | (go_at_call 171; refine c1.mono ?_; rintro e w' ⟨⟨q, rfl⟩, hb⟩)
    | go_in)
  go_ret
  exact ⟨rfl, hb⟩

end Go.Proofs.YtkmhaemcpakobaaGreatDoor.sg
