import Derived.WalkKit
import Derived.ProofKit
import Derived.OpenShut
import Derived.Below
import Derived.WalkSpells
import Derived.WalkSmall
import Derived.WalkLawsBesides
import Derived.Deep.OwnRows
import Derived.Lib.SlBytesRow
import Derived.Lib.BufferRead
import Derived.Laws.Bits64b
import Derived.Test.YtaoimkjcaienbaaGreatDoorRows
import Derived.Deep.QuietTactic
import Derived.BigQuiet
import Derived.Deep.RegionWith
import Derived.Lib.Hide
import Derived.Laws.Bits128
import Derived.RangeFuncBox
namespace Go.Proofs.YtaoimkjcaienbaaGreatDoor
open Go.ChangeShapes Go.WideShapes Go.ChangeAt Go.RowKit Go.Deep
set_option linter.unusedVariables false

theorem ret_bool {a b : Bool} (h : a = b) : Ending.returned (.bool a) = .returned (.bool b) := by rw [h]
theorem ret_int {k : IntKind} {a b : Int} (h : a = b) : Ending.returned (.int k a) = .returned (.int k b) := by rw [h]
theorem ret_str {a b : ByteArray} (h : a = b) : Ending.returned (.string a) = .returned (.string b) := by rw [h]

theorem addr_add (b off i : Nat) : (⟨b, off, none⟩ : Addr).add i = ⟨b, off + i, none⟩ := by
  unfold Addr.add
  by_cases h : i = 0 <;> simp [h]

/-- An append to a slice of the call's own, of one-cell elements, what is known of the element type being one closed fact. -/
theorem app_own {P : Program} (w : World) {ops : Array Oper} {rest : List Oper} {o : Oper} {a : Act} {Q : Exit → Act → World → Prop} (hgd : o.guard = none) (s x : Operand) (t : TypeId)
    (ho : o.op = .call { callee := .builtin .append, args := #[s, x], argTypes := #[t, t] })
    (base : Nat) (e : TypeId) (z : Value) (bytes : Nat) (ht : P.underlying t = some (.slice e)) (hinfo : (P.info? e).map (fun i => (i.zero, i.size, i.bytes)) = some (some z, 1, bytes)) (hzs : z.cells.size = 1)
    (v : Value) (n : Nat) (xs : List Value) (hs : a.eval s = v) (hown : w.ownsRow base e 1 v n xs)
    (ad : Addr) (m c : Nat) (news : List Value) (hx : a.eval x = .slice (some ad) m c) (hl : news.length = m) (hnews : ∀ j u, news[j]? = some u → w.cell? (ad.add j) = some u) (h1 : ∀ u ∈ news, u.oneCell' = true)
    (h63 : n + m ≤ maxLen) (hbytes : (n + m) * bytes ≤ 140737488355328) (hbase : base ≤ w.heap.size)
    (h : ∀ v' w', w'.ownsRow base e 1 v' (n + m) (xs ++ news) → w.grownBy w' v.ownBlock → wpList P ops Q rest (a.put o.dst v') w') : wpList P ops Q (o :: rest) a w := by
  obtain ⟨i, hi, hzz⟩ := Option.map_eq_some_iff.1 hinfo
  simp only [Prod.mk.injEq] at hzz
  obtain ⟨hz, hsz, hb⟩ := hzz
  exact wpList_append_own w hgd s x t ho base e i z 1 bytes ht hi hz hsz hb hzs (by decide) v n xs hs hown ad m c news hx (by simpa using hl) hnews h1 h63 hbytes hbase (fun v' w' a b _ => h v' w' a b)

/-- The same, of elements of several cells. -/
theorem app_ownS {P : Program} (w : World) {ops : Array Oper} {rest : List Oper} {o : Oper} {a : Act} {Q : Exit → Act → World → Prop} (hgd : o.guard = none) (s x : Operand) (t : TypeId)
    (ho : o.op = .call { callee := .builtin .append, args := #[s, x], argTypes := #[t, t] })
    (base : Nat) (e : TypeId) (z : Value) (size bytes : Nat) (ht : P.underlying t = some (.slice e)) (hinfo : (P.info? e).map (fun i => (i.zero, i.size, i.bytes)) = some (some z, size, bytes)) (hzs : z.cells.size = size) (hsz : 0 < size)
    (v : Value) (n : Nat) (xs : List Value) (hs : a.eval s = v) (hown : w.ownsRow base e size v n xs)
    (ad : Addr) (m c : Nat) (news : List Value) (hx : a.eval x = .slice (some ad) m c) (hl : news.length = m * size) (hnews : ∀ j u, news[j]? = some u → w.cell? (ad.add j) = some u) (h1 : ∀ u ∈ news, u.oneCell' = true)
    (h63 : n + m ≤ maxLen) (hbytes : (n + m) * bytes ≤ 140737488355328) (hbase : base ≤ w.heap.size)
    (h : ∀ v' w', w'.ownsRow base e size v' (n + m) (xs ++ news) → w.grownBy w' v.ownBlock → wpList P ops Q rest (a.put o.dst v') w') : wpList P ops Q (o :: rest) a w := by
  obtain ⟨i, hi, hzz⟩ := Option.map_eq_some_iff.1 hinfo
  simp only [Prod.mk.injEq] at hzz
  obtain ⟨hz, hsi, hb⟩ := hzz
  exact wpList_append_own w hgd s x t ho base e i z size bytes ht hi hz hsi hb hzs hsz v n xs hs hown ad m c news hx hl hnews h1 h63 hbytes hbase (fun v' w' a b _ => h v' w' a b)

theorem below_grownS {w wr : World} {w' : World} {base : Nat} {e : TypeId} {size : Nat} {v : Value} {n : Nat} {xs : List Value} (hb : Below base w wr) (hown : wr.ownsRow base e size v n xs) (hg : wr.grownBy w' v.ownBlock) (hB : base ≤ wr.heap.size) : Below base w w' :=
  hb.grown hg hB (fun k hk => (hown.lt k hk).1)

theorem one_new (w : World) (u : Value) (e : TypeId) : ∀ j v, [u][j]? = some v → (w.alloc (.cells #[u] e)).cell? ((⟨w.heap.size, 0, none⟩ : Addr).add j) = some v := by
  intro j v h
  match j, h with
  | 0, h =>
    obtain rfl : u = v := by simpa using h
    simp [Addr.add]

theorem below_grown {w wr : World} {w' : World} {base : Nat} {e : TypeId} {v : Value} {n : Nat} {xs : List Value} (hb : Below base w wr) (hown : wr.ownsRow base e 1 v n xs) (hg : wr.grownBy w' v.ownBlock) (hB : base ≤ wr.heap.size) : Below base w w' :=
  hb.grown hg hB (fun k hk => (hown.lt k hk).1)

theorem own_below {w w' : World} {base : Nat} {e : TypeId} {size : Nat} {v : Value} {n : Nat} {xs : List Value} (h : w.ownsRow base e size v n xs) (hb : Below w.heap.size w w') : w'.ownsRow base e size v n xs :=
  h.kept (row := none) ⟨hb.os, hb.tape, hb.output, hb.size, fun k hk _ => hb.block k hk⟩ (by cases v.ownBlock <;> simp)

theorem bcell {W w1 : World} (hb : Below W.heap.size W w1) : (∀ b o, b < W.heap.size → w1.cell? ⟨b, o, none⟩ = W.cell? ⟨b, o, none⟩) ∧ (∀ b o, b < W.heap.size → w1.frozen? ⟨b, o, none⟩ = W.frozen? ⟨b, o, none⟩) :=
  ⟨fun b o h => hb.cell (p := ⟨b, o, none⟩) h, fun b o h => hb.frozen (p := ⟨b, o, none⟩) h⟩

theorem own_shape {w : World} {base : Nat} {e : TypeId} {size : Nat} {v : Value} {n : Nat} {xs : List Value} (h : w.ownsRow base e size v n xs) : ∃ a cap, v = .slice a n cap := by
  rcases h.2 with ⟨rfl, rfl⟩ | ⟨g, cap, cur, rfl, _⟩
  · exact ⟨_, _, rfl⟩
  · exact ⟨_, _, rfl⟩

theorem byte_ne {a b : UInt8} (h : ¬ a = b) : ((a.toNat : Int) == (b.toNat : Int)) = false := by
  rw [beq_eq_false_iff_ne]
  intro e
  exact h (UInt8.toNat_inj.1 (by omega))

/-- The bytes of a text, as cells. -/
def byteCells (l : List UInt8) : List Value := l.map fun b => Value.int .u8 (b.toNat : Int)

theorem byteCells_append (l m : List UInt8) : byteCells (l ++ m) = byteCells l ++ byteCells m := by simp [byteCells]
theorem byteCells_one (b : UInt8) : byteCells [b] = [Value.int .u8 (b.toNat : Int)] := rfl
theorem byteCells_oneCell (l : List UInt8) : ∀ u ∈ byteCells l, u.oneCell' = true := by
  intro u hu
  obtain ⟨b, _, rfl⟩ := List.mem_map.1 hu
  rfl

/-- 'string(b)' of a row of the call's own. -/
theorem own_string {P : Program} {w : World} {base e src dst : Nat} {v : Value} {n : Nat} {l : List UInt8} (hs : P.underlying src = some (.slice e)) (he : P.underlying e = some (.int .u8)) (hd : P.underlying dst = some .string)
    (h : w.ownsRow base e 1 v n (byteCells l)) : (convert src dst v).run P w = .ok (.string ⟨l.toArray⟩) w := by
  obtain ⟨hl, h⟩ := h
  have hl' : l.length = n := by simpa [byteCells] using hl
  rcases h with ⟨rfl, rfl⟩ | ⟨g, cap, cur, rfl, hb, hg, hc, hm, hz, ht⟩
  · have : l = [] := List.length_eq_zero_iff.1 hl'
    subst this
    exact Lib.run_convert_nil_bytes w src dst e 0 hs he hd
  · subst hl'
    have hB : Lib.Bytes w g 0 ⟨l.toArray⟩ := fun i hi => by
      have hi' : i < l.length := by simpa [ByteArray.size] using hi
      have e1 : (byteCells l)[i]? = some (Value.int .u8 (l[i].toNat : Int)) := by simp [byteCells, hi']
      rw [← ht, List.getElem?_take_of_lt (by omega)] at e1
      have e2 : cur[i]? = some (Value.int .u8 (l[i].toNat : Int)) := by simpa using e1
      rw [Nat.zero_add]
      simp only [World.cell?, hg]
      show cur[i]? = _
      rw [e2]
      rfl
    have := Lib.run_convert_whole (P := P) w src e dst hs he hd g 0 ⟨l.toArray⟩ hB cap
    simpa [ByteArray.size] using this

end Go.Proofs.YtaoimkjcaienbaaGreatDoor

namespace Go.Proofs.YtaoimkjcaienbaaGreatDoor.dr
open Go.ChangeShapes Go.WideShapes Go.ChangeAt Go.RowKit Go.Deep
set_option linter.unusedVariables false
set_option linter.unusedSimpArgs false

/-- The bytes that are drawn from can be read. -/
def CodeB (w : World) (a : Option Addr) (n : Nat) : Prop :=
  n = 0 ∨ ∃ b off, a = some ⟨b, off, none⟩ ∧ ∀ i, i < n → ∃ x : Nat, x < 256 ∧ w.cell? ⟨b, off + i, none⟩ = some (.int .u8 (x : Int))

/-- The cursor. -/
def CurC (a : Option Addr) (n cap i : Nat) (h : Int) (j : Nat) : Value := if j = 0 then .slice a n cap else if j = 1 then .int .i64 (i : Int) else .int .i64 h

set_option maxHeartbeats 1000000 in
theorem new_any (a : Option Addr) (n cap : Nat) (w : World) (hb : CodeB w a n) (hn : n ≤ 1048576) :
    Calls Tryz.prog 35 #[.slice a n cap] w fun e w' => e = .returned (.pointer (some ⟨w.heap.size, 0, none⟩)) ∧ ∃ h : Int, w' = w.alloc (.cells #[.slice a n cap, .int .i64 0, .int .i64 h] 106) := by
  go_enter Tryz.func35, Tryz.ntmps35
  go_wp2
  go_loop [3, 4] (fun x i => ∃ (k : Nat) (h : Int), k ≤ n ∧ i = .int .i64 k ∧ x = .int .i64 h) (fun _ i => n - (intOf i).toNat)
  case atStart => exact ⟨0, _, Nat.zero_le _, rfl, rfl⟩
  case round =>
    obtain ⟨k, h, hk, rfl, rfl⟩ := hrel
    by_cases hlt : k < n
    · rcases hb with rfl | ⟨b, off, rfl, hc⟩
      · omega
      obtain ⟨x, hx, hck⟩ := hc k hlt
      have hlt' : (k : Int) < (n : Int) := by omega
      go_wp2
      go_round
      case rel => exact ⟨k + 1, _, by omega, by go_num, rfl⟩
      case measure => simp [intOf]; omega
    · have hlt' : ¬ (k : Int) < (n : Int) := by omega
      go_wp2
      go_ret
      exact ⟨rfl, _, rfl⟩

theorem i64_and255 (n : Int) : bits .and .i64 n 255 = n % 256 := by
  have h255 : (BitVec.ofInt 64 255).toNat = 2 ^ 8 - 1 := by decide
  have key : (BitVec.ofInt 64 n &&& BitVec.ofInt 64 255).toNat = (n % ((2 ^ 64 : Nat) : Int)).toNat % 2 ^ 8 := by
    rw [BitVec.toNat_and, BitVec.toNat_ofInt, h255, Nat.and_two_pow_sub_one_eq_mod]
  show IntKind.i64.wrap ((BitVec.ofInt 64 n &&& BitVec.ofInt 64 255).toNat : Nat) = n % 256
  rw [key, IntKind.wrap_i64]
  omega

def Cur (w : World) (c : Nat) (a : Option Addr) (n cap : Nat) : Prop := ∃ (i : Nat) (h : Int), w.rowIs c 106 3 (CurC a n cap i h) ∧ i ≤ n

theorem grown_set (W : World) (b o : Nat) (v : Value) : W.grownBy (W.setCell ⟨b, o, none⟩ v) (some b) :=
  ⟨rfl, rfl, rfl, by simp, fun k _ hk => blk_setCell_other _ _ _ _ (fun e => hk (by rw [e]))⟩
theorem grown_trans {A B C : World} {c : Nat} (h : A.grownBy B (some c)) (k : B.grownBy C (some c)) : A.grownBy C (some c) :=
  ⟨k.os.trans h.os, k.tape.trans h.tape, k.output.trans h.output, Nat.le_trans h.size k.size, fun j hj hne => (k.block j (Nat.lt_of_lt_of_le hj h.size) hne).trans (h.block j hj hne)⟩
theorem grown_refl (A : World) (c : Nat) : A.grownBy A (some c) := ⟨rfl, rfl, rfl, Nat.le_refl _, fun _ _ _ => rfl⟩
theorem grown_drewN {A B : World} {c q : Nat} (h : A.grownBy B (some c)) : A.grownBy (B.drewN q) (some c) := ⟨h.os, h.tape, h.output, h.size, h.block⟩

theorem row_drewN {w : World} {b n : Nat} {t : TypeId} {f : Nat → Value} (h : w.rowIs b t n f) (q : Nat) : (w.drewN q).rowIs b t n f := h

theorem byte_fin {v : Int} {e : Ending} {w w' : World} {c n cap : Nat} {a : Option Addr} (he : e = .returned (.int .i64 (bits .and .i64 v 255))) (hc : Cur w' c a n cap) (hg : w.grownBy w' (some c)) :
    ∃ x : Nat, e = .returned (.int .i64 (x : Int)) ∧ x < 256 ∧ Cur w' c a n cap ∧ w.grownBy w' (some c) := by
  refine ⟨(v % 256).toNat, ?_, by omega, hc, hg⟩
  rw [he, i64_and255]
  congr 2
  omega

theorem cur_set2 {w : World} {c n cap i : Nat} {a : Option Addr} {h : Int} (hr : w.rowIs c 106 3 (CurC a n cap i h)) (h' : Int) : (w.setCell ⟨c, 2, none⟩ (.int .i64 h')).rowIs c 106 3 (CurC a n cap i h') :=
  (hr.set 2 _).congr fun j hj => by
    match j, hj with
    | 0, _ => rfl
    | 1, _ => rfl
    | 2, _ => rfl
theorem cur_set1 {w : World} {c n cap i : Nat} {a : Option Addr} {h : Int} (hr : w.rowIs c 106 3 (CurC a n cap i h)) {v : Int} (e : v = ((i + 1 : Nat) : Int)) : (w.setCell ⟨c, 1, none⟩ (.int .i64 v)).rowIs c 106 3 (CurC a n cap (i + 1) h) :=
  (hr.set 1 _).congr fun j hj => by
    match j, hj with
    | 0, _ => rfl
    | 1, _ => subst e; rfl
    | 2, _ => rfl

set_option maxHeartbeats 1000000 in
theorem byte_any (a : Option Addr) (n cap c : Nat) (w : World) (hb : CodeB w a n) (hc : Cur w c a n cap) (hn : n ≤ 1048576) (hne : ∀ x, a = some x → 0 < n → x.block ≠ c) :
    Calls Tryz.prog 76 #[.pointer (some ⟨c, 0, none⟩)] w fun e w' => ∃ x : Nat, e = .returned (.int .i64 (x : Int)) ∧ x < 256 ∧ Cur w' c a n cap ∧ w.grownBy w' (some c) := by
  obtain ⟨i, h, hr, hi⟩ := hc
  have g0 : w.cell? ⟨c, 0, none⟩ = some (.slice a n cap) := hr.cell (i := 0) (by decide)
  have g1 : w.cell? ⟨c, 1, none⟩ = some (.int .i64 (i : Int)) := hr.cell (i := 1) (by decide)
  have g2 : w.cell? ⟨c, 2, none⟩ = some (.int .i64 h) := hr.cell (i := 2) (by decide)
  have f1 := hr.frozen 1
  have f2 := hr.frozen 2
  by_cases hlt : i < n
  · have hlt' : (i : Int) < (n : Int) := by omega
    rcases hb with rfl | ⟨b, off, rfl, hcc⟩
    · omega
    obtain ⟨x, hx, hck⟩ := hcc i hlt
    have hbc : b ≠ c := hne _ rfl (by omega)
    go_enter Tryz.func76, Tryz.ntmps76
    go_wp2
    go_quiet (fail)
    go_wp2
    go_quiet (fail)
    go_wp2
    go_quiet (fail)
    go_wp2
    go_ret
    exact byte_fin rfl ⟨i + 1, _, cur_set1 (row_drewN (cur_set2 hr _) _) (by omega), hlt⟩ (grown_trans (grown_drewN (grown_set _ _ _ _)) (grown_set _ _ _ _))
  · have hlt' : ¬ (i : Int) < (n : Int) := by omega
    go_enter Tryz.func76, Tryz.ntmps76
    go_wp2
    go_quiet (fail)
    go_wp2
    go_quiet (fail)
    go_wp2
    go_ret
    exact byte_fin rfl ⟨i, _, row_drewN (row_drewN (cur_set2 hr _) _) _, hi⟩ (grown_drewN (grown_drewN (grown_set _ _ _ _)))

theorem CodeB.grown {w w' : World} {a : Option Addr} {n c : Nat} (h : CodeB w a n) (hg : w.grownBy w' (some c)) (hne : ∀ x, a = some x → 0 < n → x.block ≠ c) : CodeB w' a n := by
  rcases h with h | ⟨b, off, rfl, h⟩
  · exact .inl h
  · exact .inr ⟨b, off, rfl, fun i hi => by
      obtain ⟨x, hx, hc⟩ := h i hi
      exact ⟨x, hx, hg.cell hc (fun e => hne _ rfl (by omega) (by cases e; rfl))⟩⟩

/-- What a draw leaves. -/
structure Draws (w w' : World) (c : Nat) (a : Option Addr) (n cap : Nat) : Prop where
  code : CodeB w' a n
  cur : Cur w' c a n cap
  grown : w.grownBy w' (some c)

/-- What a draw asks. -/
structure Can (w : World) (c : Nat) (a : Option Addr) (n cap : Nat) : Prop where
  code : CodeB w a n
  cur : Cur w c a n cap
  small : n ≤ 1048576
  lt : ∀ x, a = some x → 0 < n → x.block < c

theorem Can.ne {w : World} {c : Nat} {a : Option Addr} {n cap : Nat} (h : Can w c a n cap) : ∀ x, a = some x → 0 < n → x.block ≠ c := fun x e h0 => Nat.ne_of_lt (h.lt x e h0)
theorem Can.draws {w w' : World} {c : Nat} {a : Option Addr} {n cap : Nat} (h : Can w c a n cap) (k : Draws w w' c a n cap) : Can w' c a n cap := ⟨k.code, k.cur, h.small, h.lt⟩
theorem Draws.trans {A B C : World} {c : Nat} {a : Option Addr} {n cap : Nat} (h : Draws A B c a n cap) (k : Draws B C c a n cap) : Draws A C c a n cap := ⟨k.code, k.cur, grown_trans h.grown k.grown⟩
theorem Can.refl {w : World} {c : Nat} {a : Option Addr} {n cap : Nat} (h : Can w c a n cap) : Draws w w c a n cap := ⟨h.code, h.cur, grown_refl _ _⟩

theorem byte_can {w : World} {c : Nat} {a : Option Addr} {n cap : Nat} (h : Can w c a n cap) :
    Calls Tryz.prog 76 #[.pointer (some ⟨c, 0, none⟩)] w fun e w' => ∃ x : Nat, e = .returned (.int .i64 (x : Int)) ∧ x < 256 ∧ Draws w w' c a n cap :=
  (byte_any a n cap c w h.code h.cur h.small h.ne).mono fun e w' ⟨x, he, hx, hc, hg⟩ => ⟨x, he, hx, h.code.grown hg h.ne, hc, hg⟩

set_option maxHeartbeats 1000000 in
theorem below_can {w : World} {c : Nat} {a : Option Addr} {n cap : Nat} (h : Can w c a n cap) (m : Nat) (hm : 1 ≤ m) (hm2 : m ≤ 1000000000) :
    Calls Tryz.prog 45 #[.pointer (some ⟨c, 0, none⟩), .int .i64 (m : Int)] w fun e w' => ∃ x : Nat, e = .returned (.int .i64 (x : Int)) ∧ x < m ∧ Draws w w' c a n cap := by
  have h0 : ¬ (m : Int) ≤ 0 := by omega
  by_cases hs : m ≤ 256
  · have hs' : (m : Int) ≤ 256 := by omega
    go_enter Tryz.func45, Tryz.ntmps45
    go_wp2_with (go_at_call 76; refine (byte_can h).mono ?_; rintro e w1 ⟨x, rfl, hx, d1⟩)
    go_ret
    exact ⟨x % m, ret_int (Int.natCast_emod x m).symm, Nat.mod_lt _ (by omega), d1⟩
  · have hs' : ¬ (m : Int) ≤ 256 := by omega
    go_enter Tryz.func45, Tryz.ntmps45
    go_wp2_with (go_at_call 76; refine (byte_can h).mono ?_; rintro e w1 ⟨x, rfl, hx, d1⟩)
    go_wp2_with (go_at_call 76; refine (byte_can (h.draws d1)).mono ?_; rintro e w2 ⟨y, rfl, hy, d2⟩)
    go_wp2_with (go_at_call 76; refine (byte_can ((h.draws d1).draws d2)).mono ?_; rintro e w3 ⟨z, rfl, hz, d3⟩)
    go_wp2_with (go_at_call 76; refine (byte_can (((h.draws d1).draws d2).draws d3)).mono ?_; rintro e w4 ⟨u, rfl, hu, d4⟩)
    go_ret
    refine ⟨(x * 16777216 + y * 65536 + z * 256 + u) % m, ret_int ?_, Nat.mod_lt _ (by omega), ((d1.trans d2).trans d3).trans d4⟩
    rw [Int.natCast_emod]
    congr 1

theorem once_can {w : World} {c : Nat} {a : Option Addr} {n cap : Nat} (h : Can w c a n cap) (m : Nat) (hm : 1 ≤ m) (hm2 : m ≤ 1000000000) :
    Calls Tryz.prog 63 #[.pointer (some ⟨c, 0, none⟩), .int .i64 (m : Int)] w fun e w' => ∃ x : Bool, e = .returned (.bool x) ∧ Draws w w' c a n cap := by
  go_enter Tryz.func63, Tryz.ntmps63
  go_wp2_with (go_at_call 45; refine (below_can h m hm hm2).mono ?_; rintro e w1 ⟨x, rfl, hx, d1⟩)
  go_ret
  exact ⟨_, rfl, d1⟩

theorem Can.below {w w' : World} {c : Nat} {a : Option Addr} {n cap : Nat} (h : Can w c a n cap) (hb : Below (c + 1) w w') : Can w' c a n cap := by
  refine ⟨?_, ?_, h.small, h.lt⟩
  · rcases h.code with h' | ⟨b, off, rfl, h'⟩
    · exact .inl h'
    · refine .inr ⟨b, off, rfl, fun i hi => ?_⟩
      obtain ⟨x, hx, hc⟩ := h' i hi
      have := h.lt _ rfl (by omega)
      exact ⟨x, hx, (hb.cell (p := ⟨b, _, none⟩) (by show b < c + 1; simp at this; omega)).trans hc⟩
  · obtain ⟨i, g, hr, hi⟩ := h.cur
    exact ⟨i, g, hr.of_block (hb.block _ (by omega)), hi⟩

theorem below_of_grown {w w' : World} {c B : Nat} (h : w.grownBy w' (some c)) (hB : B ≤ c) (hs : B ≤ w.heap.size) : Below B w w' :=
  (Below.refl B w).grown h hs (fun k e => by cases e; exact hB)

/-- An append to a row that is new since w. -/
theorem grown_app {w wr wr' : World} {c : Nat} {e : TypeId} {size k : Nat} {v : Value} {xs : List Value} (h : w.grownBy wr (some c)) (ho : wr.ownsRow w.heap.size e size v k xs) (hg : wr.grownBy wr' v.ownBlock) : w.grownBy wr' (some c) :=
  ⟨hg.os.trans h.os, hg.tape.trans h.tape, hg.output.trans h.output, Nat.le_trans h.size hg.size, fun j hj hne => (hg.block j (Nat.lt_of_lt_of_le hj h.size) (fun e => by have := (ho.lt j e.symm).1; omega)).trans (h.block j hj hne)⟩
theorem grown_alloc {w wr : World} {c : Nat} (h : w.grownBy wr (some c)) (o : Obj) : w.grownBy (wr.alloc o) (some c) :=
  ⟨h.os, h.tape, h.output, by simp; have := h.size; omega, fun j hj hne => (Below.heap_alloc wr o j (Nat.lt_of_lt_of_le hj h.size)).trans (h.block j hj hne)⟩
/-- A row that is new since w is not the cursor. -/
theorem own_draws {wr wr' : World} {c : Nat} {a : Option Addr} {n cap : Nat} {e : TypeId} {size k B : Nat} {v : Value} {xs : List Value} (ho : wr.ownsRow B e size v k xs) (hB : c < B) (hd : Draws wr wr' c a n cap) : wr'.ownsRow B e size v k xs :=
  ho.kept hd.grown (.inr fun e => by have := (ho.lt c e).1; omega)

theorem info5 : (Tryz.prog.info? 5).map (fun i => (i.zero, i.size, i.bytes)) = some (some (.int .u8 0), 1, 1) := by kernel_rfl
theorem own_empty5 (w : World) (b : Nat) (hb : b ≤ w.heap.size) : (w.alloc (.cells #[] 5)).ownsRow b 5 1 (.slice (some ⟨w.heap.size, 0, none⟩) 0 0) 0 (byteCells []) := World.ownsRow_made w #[] 0 hb (by decide) rfl

theorem byte_cell (x : Nat) (hx : x < 256) : [Value.int .u8 (x : Int)] = byteCells [UInt8.ofNat x] := by
  have : (UInt8.ofNat x).toNat = x := by simp [UInt8.toNat_ofNat']; omega
  rw [byteCells_one, this]

end Go.Proofs.YtaoimkjcaienbaaGreatDoor.dr

namespace Go.Proofs.YtaoimkjcaienbaaGreatDoor.dr
open Go.ChangeShapes Go.WideShapes Go.ChangeAt Go.RowKit Go.Deep
set_option linter.unusedVariables false
set_option linter.unusedSimpArgs false

theorem can_app {w1 w2 : World} {c : Nat} {a : Option Addr} {n cap : Nat} {o : Obj} {B size k : Nat} {e : TypeId} {v : Value} {xs : List Value} (h : Can w1 c a n cap) (ho : (w1.alloc o).ownsRow B e size v k xs) (hB : c < B) (hw : B ≤ w1.heap.size) (hg : (w1.alloc o).grownBy w2 v.ownBlock) : Can w2 c a n cap :=
  h.below (((Below.refl (c + 1) w1).alloc (by omega) o).grown hg (by simp; omega) (fun k e => by have := (ho.lt k e).1; omega))

set_option maxHeartbeats 1000000 in
theorem some_can {w : World} {c : Nat} {a : Option Addr} {n cap : Nat} (h : Can w c a n cap) (hcw : c < w.heap.size) (m : Nat) (hm2 : m ≤ 1000000) :
    Calls Tryz.prog 105 #[.pointer (some ⟨c, 0, none⟩), .int .i64 (m : Int)] w fun e w' => ∃ (v : Value) (l : List UInt8), e = .returned v ∧ w'.ownsRow w.heap.size 5 1 v m (byteCells l) ∧ Draws w w' c a n cap := by
  go_enter Tryz.func105, Tryz.ntmps105
  go_wp2
  go_loopw [5, 6, 7] (fun v i _ wr => ∃ (k : Nat) (l : List UInt8), k ≤ m ∧ i = .int .i64 (k : Int) ∧ wr.ownsRow w.heap.size 5 1 v k (byteCells l) ∧ Draws w wr c a n cap) (fun _ i _ _ => m - (intOf i).toNat)
  case atStart => exact ⟨0, [], Nat.zero_le _, rfl, own_empty5 w _ (Nat.le_refl _), ⟨(h.below ((Below.refl _ w).alloc hcw _)).code, (h.below ((Below.refl _ w).alloc hcw _)).cur, grown_alloc (grown_refl _ _) _⟩⟩
  case round =>
    obtain ⟨k, l, hk, rfl, ho, hd⟩ := hrel
    by_cases hlt : k < m
    · have hlt' : (k : Int) < (m : Int) := by omega
      have hcan := h.draws hd
      go_wp2_with (first
        | (go_at_call 45; refine (below_can hcan 256 (by decide) (by decide)).mono ?_; rintro e w1 ⟨x, rfl, hx, d1⟩)
        | (at_builtin; refine app_own _ rfl _ _ 22 rfl w.heap.size 5 (.int .u8 0) 1 Tryz.underlying22 info5 rfl _ _ _ rfl ((own_draws ho hcw d1).alloc _) ⟨w1.heap.size, 0, none⟩ 1 1 [.int .u8 (x : Int)] rfl rfl (one_new _ _ _) (fun u hu => by simp at hu; subst hu; rfl) ?c1 ?c2 ?c3 ?_)
        | go_in)
      case c1 => unfold maxLen; omega
      case c2 => omega
      case c3 => have := hd.grown.size; have := d1.grown.size; simp; omega
      intro v' w2 hown' hg
      rw [byte_cell x hx, ← byteCells_append] at hown'
      have hd2 := hd.trans d1
      have hs2 := hd2.grown.size
      have hc2 := can_app (hcan.draws d1) ((own_draws ho hcw d1).alloc _) hcw hs2 hg
      go_wp2
      go_roundw
      case rel => exact ⟨k + 1, _, by omega, by go_num, hown', ⟨hc2.code, hc2.cur, grown_app (grown_alloc hd2.grown _) ((own_draws ho hcw d1).alloc _) hg⟩⟩
      case measure => simp [intOf]; omega
    · have hlt' : ¬ (k : Int) < (m : Int) := by omega
      obtain rfl : k = m := by omega
      go_wp2
      go_ret
      exact ⟨_, rfl, ⟨l, ho⟩, hd⟩

end Go.Proofs.YtaoimkjcaienbaaGreatDoor.dr

namespace Go.Proofs.YtaoimkjcaienbaaGreatDoor.dr
open Go.ChangeShapes Go.WideShapes Go.ChangeAt Go.RowKit Go.Deep
set_option linter.unusedVariables false
set_option linter.unusedSimpArgs false

/-- Between two draws: the cursor was the first block laid since w; a row of bytes of one's own lies behind it. -/
structure St (w wr : World) (a : Option Addr) (n cap : Nat) (v : Value) (k : Nat) : Prop where
  can : Can wr w.heap.size a n cap
  row : ∃ l : List UInt8, wr.ownsRow (w.heap.size + 1) 5 1 v k (byteCells l)
  bel : Below w.heap.size w wr
  sz : w.heap.size + 1 ≤ wr.heap.size

theorem new_can {w : World} {a : Option Addr} {n cap : Nat} (hb : CodeB w a n) (hn : n ≤ 1048576) (hlt : ∀ x, a = some x → 0 < n → x.block < w.heap.size) (h : Int) : Can (w.alloc (.cells #[.slice a n cap, .int .i64 0, .int .i64 h] 106)) w.heap.size a n cap := by
  refine ⟨hb.grown (World.grownBy_alloc w _ (some w.heap.size)) (fun x e h0 => Nat.ne_of_lt (hlt x e h0)), ⟨0, h, ?_, Nat.zero_le _⟩, hn, hlt⟩
  exact World.rowIs_alloc w _ _ _ (fun i hi => by
    match i, hi with
    | 0, _ => rfl
    | 1, _ => rfl
    | 2, _ => rfl)

theorem St.draws {w wr w' : World} {a : Option Addr} {n cap k : Nat} {v : Value} (h : St w wr a n cap v k) (d : Draws wr w' w.heap.size a n cap) : St w w' a n cap v k := by
  obtain ⟨l, hl⟩ := h.row
  have hs := d.grown.size
  exact ⟨h.can.draws d, ⟨l, own_draws hl (by omega) d⟩, h.bel.trans (below_of_grown d.grown (Nat.le_refl _) (by have := h.sz; omega)), by have := h.sz; omega⟩
theorem St.alloc {w wr : World} {a : Option Addr} {n cap k : Nat} {v : Value} (h : St w wr a n cap v k) (o : Obj) : St w (wr.alloc o) a n cap v k := by
  obtain ⟨l, hl⟩ := h.row
  exact ⟨h.can.below ((Below.refl _ wr).alloc h.sz _), ⟨l, hl.alloc _⟩, h.bel.alloc h.bel.size _, by simp; have := h.sz; omega⟩
theorem St.app {w wr w' : World} {a : Option Addr} {n cap k x : Nat} {v v' : Value} {o : Obj} {l : List UInt8} (h : St w wr a n cap v k) (hx : x < 256)
    (ho : wr.ownsRow (w.heap.size + 1) 5 1 v k (byteCells l)) (hown : w'.ownsRow (w.heap.size + 1) 5 1 v' (k + 1) (byteCells l ++ [.int .u8 (x : Int)])) (hg : (wr.alloc o).grownBy w' v.ownBlock) : St w w' a n cap v' (k + 1) := by
  have hs := h.sz
  have hs2 := hg.size
  simp at hs2
  refine ⟨can_app h.can (ho.alloc o) (by omega) h.sz hg, ⟨l ++ [UInt8.ofNat x], ?_⟩, ?_, by omega⟩
  · rw [byteCells_append, ← byte_cell x hx]; exact hown
  · exact (h.bel.alloc h.bel.size o).grown hg (by simp; omega) (fun j e => by have := ((ho.alloc o).lt j e).1; omega)

/-- 'b = append(b, byte)': the arm's premises, of a state. -/
theorem St.at {w wr : World} {a : Option Addr} {n cap k : Nat} {v : Value} (h : St w wr a n cap v k) : ∃ l : List UInt8, wr.ownsRow (w.heap.size + 1) 5 1 v k (byteCells l) := h.row

theorem st_start {w : World} {a : Option Addr} {n cap : Nat} (hb : CodeB w a n) (hn : n ≤ 1048576) (hlt : ∀ x, a = some x → 0 < n → x.block < w.heap.size) (h : Int) :
    St w ((w.alloc (.cells #[.slice a n cap, .int .i64 0, .int .i64 h] 106)).alloc (.cells #[] 5)) a n cap (.slice (some ⟨w.heap.size + 1, 0, none⟩) 0 0) 0 := by
  have h1 := own_empty5 (w.alloc (.cells #[.slice a n cap, .int .i64 0, .int .i64 h] 106)) (w.heap.size + 1) (by simp)
  rw [World.size_alloc] at h1
  exact ⟨(new_can hb hn hlt h).below ((Below.refl _ _).alloc (by simp) _), ⟨[], h1⟩, ((Below.refl _ w).alloc (Nat.le_refl _) _).alloc (by simp) _, by simp⟩

theorem one5 (x : Nat) : ∀ u ∈ [Value.int .u8 (x : Int)], u.oneCell' = true := fun u hu => by
  simp at hu
  subst hu
  rfl

/-- 'b = append(b, byte)', of a state. -/
theorem app_st {w wr : World} {a : Option Addr} {n cap k : Nat} {v : Value} {ops : Array Oper} {rest : List Oper} {o : Oper} {act : Act} {Q : Exit → Act → World → Prop} (hgd : o.guard = none) (s x : Operand)
    (ho : o.op = .call { callee := .builtin .append, args := #[s, x], argTypes := #[22, 22] }) (S : St w wr a n cap v k) (hs : act.eval s = v) (z : Int) (hx : act.eval x = .slice (some ⟨wr.heap.size, 0, none⟩) 1 1) (h0 : 0 ≤ z) (h1 : z < 256) (hk : k ≤ 1000000)
    (h : ∀ v' w', St w w' a n cap v' (k + 1) → wpList Tryz.prog ops Q rest (act.put o.dst v') w') : wpList Tryz.prog ops Q (o :: rest) act (wr.alloc (.cells #[.int .u8 z] 5)) := by
  obtain ⟨y, rfl⟩ : ∃ y : Nat, z = (y : Int) := ⟨z.toNat, by omega⟩
  obtain ⟨l, hl⟩ := S.row
  refine app_own _ hgd s x 22 ho (w.heap.size + 1) 5 (.int .u8 0) 1 Tryz.underlying22 info5 rfl v k (byteCells l) hs (hl.alloc _) ⟨wr.heap.size, 0, none⟩ 1 1 [.int .u8 (y : Int)] hx rfl (one_new _ _ _) (one5 y) (by unfold maxLen; omega) (by omega) (by have := S.sz; simp; omega) ?_
  intro v' w' hown hg
  exact h v' w' (S.app (by omega) hl hown hg)

theorem cell4 {w w' : World} {c x : Nat} (h : (w.alloc (.cells #[.int .u8 10, .int .u8 9, .int .u8 34, .int .u8 92] 5)).grownBy w' (some c)) (hc : c < w.heap.size) (hx : x < 4) : ∃ y : Nat, y < 256 ∧ w'.cell? ⟨w.heap.size, x, none⟩ = some (.int .u8 (y : Int)) := by
  have key : ∀ v, (w.alloc (.cells #[.int .u8 10, .int .u8 9, .int .u8 34, .int .u8 92] 5)).cell? ⟨w.heap.size, x, none⟩ = some v → w'.cell? ⟨w.heap.size, x, none⟩ = some v := fun v hv => h.cell hv (fun e => by have e2 := Option.some.inj e; simp at e2; omega)
  match x, hx with
  | 0, _ => exact ⟨10, by decide, key _ (by simp)⟩
  | 1, _ => exact ⟨9, by decide, key _ (by simp)⟩
  | 2, _ => exact ⟨34, by decide, key _ (by simp)⟩
  | 3, _ => exact ⟨92, by decide, key _ (by simp)⟩

theorem made4 (x : Nat) (hx : x < 2) (w : World) : (Instr.makeSlice 22 (.int .i64 (4000 + (x : Int))) (.int .i64 (4000 + (x : Int)))).run Tryz.prog w = .ok (.slice (some ⟨w.heap.size, 0, none⟩) (4000 + x) (4000 + x)) (w.alloc (.cells (madeCells #[.int .u8 0] (4000 + x)) 5)) := by
  have h := run_make_row' (P := Tryz.prog) 22 5 (.int .u8 0) 1 Tryz.underlying22 info5 rfl .i64 .i64 (4000 + x) (by omega) (by omega) w
  rw [Int.natCast_add] at h
  exact h

theorem a_step {w : World} {b n k : Nat} (h : w.rowIs b 5 n (fun j => .int .u8 (if j < k then 97 else 0))) :
    (w.setCell ⟨b, k, none⟩ (.int .u8 97)).rowIs b 5 n (fun j => .int .u8 (if j < k + 1 then 97 else 0)) :=
  (h.set k _).congr fun i hi => by
    by_cases h : i = k
    · simp [h]
    · have e : (i < k + 1) ↔ (i < k) := by omega
      simp [h, e]

theorem own_of_row {w : World} {b N : Nat} (h : w.rowIs b 5 N (fun _ => .int .u8 97)) (hN : N ≤ maxLen) : w.ownsRow 0 5 1 (.slice (some ⟨b, 0, none⟩) N N) N (byteCells (List.replicate N 97)) := by
  obtain ⟨c, hb, hc, hi⟩ := h
  refine ⟨by simp [byteCells], .inr ⟨b, N, c, rfl, Nat.zero_le _, hb, Nat.le_refl _, hN, by simpa using hc, ?_⟩⟩
  rw [Nat.mul_one, ← hc, ← Array.length_toList, List.take_length]
  apply List.ext_getElem?
  intro i
  rcases Nat.lt_or_ge i N with h | h
  · rw [Array.getElem?_toList, hi i h]
    simp [byteCells, hc, h]
  · rw [Array.getElem?_toList, Array.getElem?_eq_none (by omega)]
    simp [byteCells, hc]
    omega

end Go.Proofs.YtaoimkjcaienbaaGreatDoor.dr

namespace Go.Proofs.YtaoimkjcaienbaaGreatDoor.dr
open Go.ChangeShapes Go.WideShapes Go.ChangeAt Go.RowKit Go.Deep
set_option linter.unusedVariables false
set_option linter.unusedSimpArgs false

theorem size_app (a b : ByteArray) : (a ++ b).size = a.size + b.size := by simp
theorem size_one (b : UInt8) : (⟨#[b]⟩ : ByteArray).size = 1 := rfl

def dg (k : Nat) : UInt8 := UInt8.ofNat (48 + k % 10)
theorem digit_nat (k : Nat) : ((dg k).toNat : Int) = 48 + ((k % 10 : Nat) : Int) := by
  have : (48 + k % 10) % 256 = 48 + k % 10 := Nat.mod_eq_of_lt (by omega)
  simp [dg, UInt8.toNat_ofNat', this]

theorem digit_conv (k : Nat) (wr : World) (z : Int) (hz : z = 48 + ((k % 10 : Nat) : Int)) : (convert 22 9 (.slice (some ⟨wr.heap.size, 0, none⟩) 1 1)).run Tryz.prog (wr.alloc (.cells #[.int .u8 z] 5)) = .ok (.string ⟨[dg k].toArray⟩) (wr.alloc (.cells #[.int .u8 z] 5)) := by
  subst hz
  refine own_string (base := wr.heap.size) (n := 1) Tryz.underlying22 Tryz.underlying5 Tryz.underlying9 ?_
  rw [byteCells_one, digit_nat]
  exact ⟨rfl, .inr ⟨wr.heap.size, 1, #[.int .u8 (48 + ((k % 10 : Nat) : Int))], rfl, Nat.le_refl _, World.alloc_heap_new wr _, by decide, by decide, rfl, rfl⟩⟩

set_option maxHeartbeats 1000000 in
theorem int_any (k0 : Nat) (h1 : k0 < 100000) (w : World) :
    Calls Tryz.prog 71 #[.int .i64 (k0 : Int)] w fun e w' => ∃ s : ByteArray, e = .returned (.string s) ∧ s.size ≤ 6 ∧ Below w.heap.size w w' := by
  go_enter Tryz.func71, Tryz.ntmps71
  go_wp2
  go_loopw [0, 3] (fun a b wr => ∃ (k : Nat) (s : ByteArray), a = .int .i64 (k : Int) ∧ b = .string s ∧ ((s.size = 0 ∧ k < 100000) ∨ (s.size = 1 ∧ k < 10000) ∨ (s.size = 2 ∧ k < 1000) ∨ (s.size = 3 ∧ k < 100) ∨ (s.size = 4 ∧ k < 10)) ∧ Below w.heap.size w wr) (fun a _ _ => (intOf a).toNat)
  case atStart => exact ⟨k0, ⟨#[]⟩, rfl, rfl, .inl ⟨rfl, h1⟩, Below.refl _ _⟩
  case round =>
    obtain ⟨k, s, rfl, rfl, hk, hbel⟩ := hrel
    have HK : Hid ((s.size = 0 ∧ k < 100000) ∨ (s.size = 1 ∧ k < 10000) ∨ (s.size = 2 ∧ k < 1000) ∨ (s.size = 3 ∧ k < 100) ∨ (s.size = 4 ∧ k < 10)) := hk
    have hs4 : s.size ≤ 4 := by omega
    have hk5 : k < 100000 := by omega
    clear hk
    have hcat : ¬ 9223372036854775807 < 1 + s.size := by omega
    by_cases hlt : 9 < k
    · have hlti : 9 < (k : Int) := by omega
      have hconv := digit_conv k wr (48 + (k : Int) % 10) (by omega)
      go_wp2
      go_roundw
      case rel => exact ⟨k / 10, ⟨#[dg k]⟩ ++ s, by go_num, rfl, by rw [size_app, size_one]; have := HK.out; omega, hbel.alloc hbel.size _⟩
      case measure => simp [intOf]; omega
    · have hlti : ¬ 9 < (k : Int) := by omega
      have hconv := digit_conv k wr (48 + (k : Int)) (by omega)
      go_wp2
      go_ret
      exact ⟨⟨#[dg k]⟩ ++ s, rfl, by rw [size_app, size_one]; omega, hbel.alloc hbel.size _⟩

def strOk (v : Value) : Bool := match v with
  | .string y => decide (y.size ≤ 64)
  | _ => false
/-- A table of short texts. -/
def Tab (w : World) (b m : Nat) : Prop := ∀ x, x < m → ∃ y : ByteArray, y.size ≤ 64 ∧ w.cell? ⟨b, x, none⟩ = some (.string y)

theorem tab_new (w : World) (arr : Array Value) (m : Nat) (hm : m = arr.size) (hok : arr.all strOk = true) : Tab (w.alloc (.cells arr 9)) w.heap.size m := by
  subst hm
  intro x hx
  have h := (Array.all_eq_true.1 hok) x hx
  have hc := World.cell?_alloc_new w arr 9 x
  rw [Array.getElem?_eq_getElem hx] at hc
  generalize arr[x] = v at h hc
  cases v <;> simp [strOk] at h
  exact ⟨_, h, hc⟩

theorem Tab.draws {wr w' : World} {b m c : Nat} {a : Option Addr} {n cap : Nat} (h : Tab wr b m) (d : Draws wr w' c a n cap) (hb : b ≠ c) : Tab w' b m := fun x hx => by
  obtain ⟨y, hy, hc⟩ := h x hx
  exact ⟨y, hy, d.grown.cell hc (fun e => hb (by have := Option.some.inj e; simpa using this))⟩
theorem Tab.below {wr w' : World} {b m : Nat} (h : Tab wr b m) (hb : Below wr.heap.size wr w') : Tab w' b m := fun x hx => by
  obtain ⟨y, hy, hc⟩ := h x hx
  exact ⟨y, hy, (hb.cell (p := ⟨b, x, none⟩) (World.block_lt_of_cell? _ _ hc)).trans hc⟩
theorem Draws.alloc {w wr : World} {c : Nat} {a : Option Addr} {n cap : Nat} (h : Draws w wr c a n cap) (hc : Can w c a n cap) (hw : c < w.heap.size) (o : Obj) : Draws w (wr.alloc o) c a n cap := by
  have h1 := (hc.draws h).below ((Below.refl _ wr).alloc (by have := h.grown.size; omega) o)
  exact ⟨h1.code, h1.cur, grown_alloc h.grown o⟩
theorem Draws.below {w wr w' : World} {c : Nat} {a : Option Addr} {n cap : Nat} (h : Draws w wr c a n cap) (hc : Can w c a n cap) (hw : c < w.heap.size) (hb : Below wr.heap.size wr w') : Draws w w' c a n cap := by
  have h1 := (hc.draws h).below (hb.mono (by have := h.grown.size; omega))
  exact ⟨h1.code, h1.cur, ⟨hb.os.trans h.grown.os, hb.tape.trans h.grown.tape, hb.output.trans h.grown.output, Nat.le_trans h.grown.size hb.size, fun j hj hne => (hb.block j (Nat.lt_of_lt_of_le hj h.grown.size)).trans (h.grown.block j hj hne)⟩⟩

end Go.Proofs.YtaoimkjcaienbaaGreatDoor.dr

namespace Go.Proofs.YtaoimkjcaienbaaGreatDoor.dr
open Go.ChangeShapes Go.WideShapes Go.ChangeAt Go.RowKit Go.Deep
set_option linter.unusedVariables false
set_option linter.unusedSimpArgs false

/-! ### Draws of trees: paths, data -/

theorem d10path_any {w : World} {c : Nat} {a : Option Addr} {n cap : Nat} (hc : Can w c a n cap) (hcw : c < w.heap.size) :
    Calls Tryz.prog 57 #[.pointer (some ⟨c, 0, none⟩)] w fun e w' => ∃ s : ByteArray, e = .returned (.string s) ∧ s.size ≤ 64 ∧ Draws w w' c a n cap := by
  go_enter Tryz.func57, Tryz.ntmps57
  go_wp2_with (go_at_call 45; refine (below_can (hc.draws (hc.refl.alloc hc hcw _)) 10 (by decide) (by decide)).mono ?_; rintro e w1 ⟨x, rfl, hx, d1⟩; have D1 := (hc.refl.alloc hc hcw _).trans d1; obtain ⟨y, hy, hcy⟩ := (tab_new w _ 10 rfl (by kernel_rfl)).draws d1 (by omega) x hx; clear d1; have hx' : (x : Int) < 10 := (by omega))
  go_ret
  exact ⟨y, rfl, hy, D1⟩

/-- What a drawn address is. -/
def Adr : Prop := ∀ {w : World} {c : Nat} {a : Option Addr} {n cap : Nat}, Can w c a n cap → c < w.heap.size →
    Calls Tryz.prog 62 #[.pointer (some ⟨c, 0, none⟩)] w fun e w' => ∃ s : ByteArray, e = .returned (.string s) ∧ s.size ≤ 100 ∧ Draws w w' c a n cap

theorem zeros_own {w : World} {N : Nat} (hN : N ≤ maxLen) : (w.alloc (.cells (madeCells #[Value.int .u8 0] N) 5)).ownsRow 0 5 1 (.slice (some ⟨w.heap.size, 0, none⟩) N N) N (byteCells (List.replicate N 0)) := by
  have hr : (w.alloc (.cells (madeCells #[.int .u8 0] N) 5)).rowIs w.heap.size 5 N (fun _ => Value.int .u8 0) := by simpa using World.rowIs_made w (.int .u8 0) N 5
  obtain ⟨c, hb, hc, hi⟩ := hr
  refine ⟨by simp [byteCells], .inr ⟨w.heap.size, N, c, rfl, Nat.zero_le _, hb, Nat.le_refl _, hN, by simpa using hc, ?_⟩⟩
  rw [Nat.mul_one, ← hc, ← Array.length_toList, List.take_length]
  apply List.ext_getElem?
  intro i
  rcases Nat.lt_or_ge i N with h | h
  · rw [Array.getElem?_toList, hi i h]
    simp [byteCells, hc, h]
  · rw [Array.getElem?_toList, Array.getElem?_eq_none (by omega)]
    simp [byteCells, hc]
    omega
theorem madeN (N : Nat) (hN : N ≤ 100000) (w : World) (z : Int) (hz : z = (N : Int)) : (Instr.makeSlice 22 (.int .i64 z) (.int .i64 z)).run Tryz.prog w = .ok (.slice (some ⟨w.heap.size, 0, none⟩) N N) (w.alloc (.cells (madeCells #[Value.int .u8 0] N) 5)) := by
  subst hz
  exact run_make_row' (P := Tryz.prog) 22 5 (.int .u8 0) 1 Tryz.underlying22 info5 rfl .i64 .i64 N (by omega) (by omega) w

set_option maxRecDepth 100000 in
set_option maxHeartbeats 4000000 in
theorem d10data_any (hA : Adr) {w : World} {c : Nat} {a : Option Addr} {n cap : Nat} (hc : Can w c a n cap) (hcw : c < w.heap.size) :
    Calls Tryz.prog 72 #[.pointer (some ⟨c, 0, none⟩)] w fun e w' => ∃ s : ByteArray, e = .returned (.string s) ∧ s.size ≤ 20001 ∧ Draws w w' c a n cap := by
  have HA : Hid (∀ W : World, Can W c a n cap → c < W.heap.size → Calls Tryz.prog 62 #[.pointer (some ⟨c, 0, none⟩)] W fun e w' => ∃ s : ByteArray, e = .returned (.string s) ∧ s.size ≤ 100 ∧ Draws W w' c a n cap) := fun W h1 h2 => hA h1 h2
  clear hA
  go_enter Tryz.func72, Tryz.ntmps72
  go_wp2_with (first
    | (go_at_call 45; refine (below_can hc 6 (by decide) (by decide)).mono ?_; rintro e w1 ⟨x, rfl, hx, d1⟩; have hcw1 : c < w1.heap.size := Nat.lt_of_lt_of_le hcw d1.grown.size; have hc1 := hc.draws d1)
    | (go_at_call 105; refine (some_can hc1 hcw1 x (by omega)).mono ?_; rintro e w2 ⟨v, l, rfl, hown, d2⟩; have D2 := d1.trans d2; have hcw2 : c < w2.heap.size := Nat.lt_of_lt_of_le hcw1 d2.grown.size; have hc2 := hc1.draws d2; have hconv := own_string (P := Tryz.prog) Tryz.underlying22 Tryz.underlying5 Tryz.underlying9 hown; refine Hid.out ?_))
  refine Lib.hid ?_
  have hll : l.length = x := by have := hown.1; simp [byteCells] at this; omega
  obtain ⟨S, hS⟩ : ∃ S : ByteArray, S = ⟨l.toArray⟩ := ⟨_, rfl⟩
  have hSs : S.size ≤ 6 := by rw [hS]; simp [ByteArray.size]; omega
  rw [← hS] at hconv
  have HD2 : Hid (Draws w w2 c a n cap) := D2
  clear hown d1 d2 D2 hll hS hcw1 hc1
  go_wp2_with (go_at_call 63; refine (once_can hc2 3 (by decide) (by decide)).mono ?_; rintro e w3 ⟨b3, rfl, d3⟩; have hcw3 : c < w3.heap.size := Nat.lt_of_lt_of_le hcw2 d3.grown.size; have hc3 := hc2.draws d3; have HD3 : Hid (Draws w w3 c a n cap) := HD2.out.trans d3; clear d3 hconv; cases b3)
  · go_wp2_with (go_at_call 63; refine (once_can hc3 100 (by decide) (by decide)).mono ?_; rintro e w4 ⟨b4, rfl, d4⟩; have hcw4 : c < w4.heap.size := Nat.lt_of_lt_of_le hcw3 d4.grown.size; have hc4 := hc3.draws d4; have HD4 : Hid (Draws w w4 c a n cap) := HD3.out.trans d4; clear d4; cases b4)
    · go_ret
      exact ⟨_, rfl, by omega, HD4.out⟩
    · go_wp2_with (go_at_call 45; refine (below_can hc4 2 (by decide) (by decide)).mono ?_; rintro e w5 ⟨y, rfl, hy, d5⟩; have hcw5 : c < w5.heap.size := Nat.lt_of_lt_of_le hcw4 d5.grown.size; have hc5 := hc4.draws d5; have HD5 : Hid (Draws w w5 c a n cap) := HD4.out.trans d5; clear d5; have hmk := fun W => madeN (20000 + y) (by omega) W (20000 + (y : Int)) (by omega); have hcv := own_string (P := Tryz.prog) Tryz.underlying22 Tryz.underlying5 Tryz.underlying9 (zeros_own (w := w5) (N := 20000 + y) (by unfold maxLen; omega)))
      go_ret
      exact ⟨_, rfl, by simp [ByteArray.size]; omega, HD5.out.alloc hc hcw _⟩
  · go_wp2_with (go_at_call 62; refine (HA.out _ hc3 hcw3).mono ?_; rintro e w4 ⟨T, rfl, hT, d4⟩; have hcw4 : c < w4.heap.size := Nat.lt_of_lt_of_le hcw3 d4.grown.size; have hc4 := hc3.draws d4; have HD4 : Hid (Draws w w4 c a n cap) := HD3.out.trans d4; clear d4; have hk1 : ¬ 9223372036854775807 < S.size + T.size := (by omega); have hk2 : ¬ 9223372036854775807 < S.size + T.size + 2 := (by omega); have hk3 : (S ++ T : ByteArray).size = S.size + T.size := ByteArray.size_append; refine Hid.out ?_)
    refine Lib.hid ?_
    go_wp2_with (go_at_call 63; refine (once_can hc4 100 (by decide) (by decide)).mono ?_; rintro e w5 ⟨b5, rfl, d5⟩; have hcw5 : c < w5.heap.size := Nat.lt_of_lt_of_le hcw4 d5.grown.size; have hc5 := hc4.draws d5; have HD5 : Hid (Draws w w5 c a n cap) := HD4.out.trans d5; clear d5; cases b5)
    · go_ret
      exact ⟨_, rfl, by rw [ByteArray.size_append, ByteArray.size_append]; show _ + 2 ≤ _; omega, HD5.out⟩
    · go_wp2_with (go_at_call 45; refine (below_can hc5 2 (by decide) (by decide)).mono ?_; rintro e w6 ⟨y, rfl, hy, d6⟩; have hcw6 : c < w6.heap.size := Nat.lt_of_lt_of_le hcw5 d6.grown.size; have hc6 := hc5.draws d6; have HD6 : Hid (Draws w w6 c a n cap) := HD5.out.trans d6; clear d6; have hmk := fun W => madeN (20000 + y) (by omega) W (20000 + (y : Int)) (by omega); have hcv := own_string (P := Tryz.prog) Tryz.underlying22 Tryz.underlying5 Tryz.underlying9 (zeros_own (w := w6) (N := 20000 + y) (by unfold maxLen; omega)))
      go_ret
      exact ⟨_, rfl, by simp [ByteArray.size]; omega, HD6.out.alloc hc hcw _⟩

end Go.Proofs.YtaoimkjcaienbaaGreatDoor.dr

namespace Go.Proofs.YtaoimkjcaienbaaGreatDoor.wd
open Go.ChangeShapes Go.WideShapes Go.ChangeAt Go.RowKit Go.Deep
set_option linter.unusedVariables false

def LET : List UInt8 := [48, 49, 50, 51, 52, 53, 54, 55, 56, 57, 97, 98, 99, 100, 102, 103, 104, 105, 106, 107, 108, 109, 110, 112, 113, 114, 115, 118, 119, 120, 121, 122]
def letU (n : Nat) : UInt8 := LET[n]?.getD 0
def dv (X k : Nat) : Nat := X / 32 ^ k
def dm (X k : Nat) : Nat := dv X k % 32
def digit (X k : Nat) : UInt8 := letU (dm X k)
def wordA (X : Nat) : ByteArray := ⟨((List.range 13).map fun j => digit X (12 - j)).toArray⟩

/-- The table of letters lies in block 0. -/
def Tab (w : World) : Prop := ∀ i, i < 32 → w.cell? ⟨0, i, none⟩ = some (.int .u8 ((letU i).toNat : Int))

theorem Tab.below {w w' : World} (h : Tab w) (hb : Below w.heap.size w w') : Tab w' := fun i hi => (hb.cell (World.block_lt_of_cell? _ _ (h i hi))).trans (h i hi)

theorem and31 (X : Nat) (h : X < 18446744073709551616) : bits BinOp.and IntKind.u64 (X : Int) 31 = ((X % 32 : Nat) : Int) := by
  have := bits_and_u64_nat X 31 h (by omega)
  rw [show ((31 : Nat) : Int) = 31 from rfl] at this
  rw [this, show (31 : Nat) = 2 ^ 5 - 1 from rfl, Nat.and_two_pow_sub_one_eq_mod]

theorem wordA_size (X : Nat) : (wordA X).size = 13 := by simp [wordA, ByteArray.size]

theorem dv_step (X k : Nat) : ((dv X k : Nat) : Int) / 32 = ((dv X (k + 1) : Nat) : Int) := by
  have : dv X k / 32 = dv X (k + 1) := by unfold dv; rw [Nat.div_div_eq_div_mul, Nat.pow_succ]
  rw [← this]; rfl

theorem dv_lt (X k : Nat) (h : X < 18446744073709551616) : dv X k < 18446744073709551616 := Nat.lt_of_le_of_lt (Nat.div_le_self _ _) h

theorem dm_lt (X k : Nat) : dm X k < 32 := Nat.mod_lt _ (by omega)

theorem and_dv (X k : Nat) (h : X < 18446744073709551616) : bits BinOp.and IntKind.u64 ((dv X k : Nat) : Int) 31 = ((dm X k : Nat) : Int) := and31 _ (dv_lt X k h)

theorem word_step {w : World} {b t X k : Nat} (hk : k < 13) (h : w.rowIs b t 13 (fun j => .int .u8 (if 12 < j + k then ((digit X (12 - j)).toNat : Int) else 0))) :
    (w.setCell ⟨b, 12 - k, none⟩ (.int .u8 ((digit X k).toNat : Int))).rowIs b t 13 (fun j => .int .u8 (if 12 < j + (k + 1) then ((digit X (12 - j)).toNat : Int) else 0)) :=
  (h.set (12 - k) _).congr fun i hi => by
    by_cases h : i = 12 - k
    · have e : 12 < i + (k + 1) := by omega
      have e2 : 12 - i = k := by omega
      rw [if_pos h, if_pos e, e2]
    · have e : (12 < i + (k + 1)) ↔ (12 < i + k) := by omega
      simp [h, e]

theorem word_row {w : World} {b t X : Nat} (h : w.rowIs b t 13 (fun j => .int .u8 (if 12 < j + 13 then ((digit X (12 - j)).toNat : Int) else 0))) : Lib.Bytes w b 0 (wordA X) := fun i hi => by
  have hi' : i < 13 := by simpa [wordA_size] using hi
  have := h.cell hi'
  rw [if_pos (by omega)] at this
  rw [Nat.zero_add, this]
  simp [wordA, ByteArray.getElem_eq_getElem_data]

theorem zero_row (w : World) (X : Nat) : (w.alloc (Obj.cells
    #[Value.int IntKind.u8 0, Value.int IntKind.u8 0, Value.int IntKind.u8 0, Value.int IntKind.u8 0,
      Value.int IntKind.u8 0, Value.int IntKind.u8 0, Value.int IntKind.u8 0, Value.int IntKind.u8 0,
      Value.int IntKind.u8 0, Value.int IntKind.u8 0, Value.int IntKind.u8 0, Value.int IntKind.u8 0,
      Value.int IntKind.u8 0]
    66)).rowIs w.heap.size 66 13 (fun j => .int .u8 (if 12 < j + 0 then ((digit X (12 - j)).toNat : Int) else 0)) :=
  World.rowIs_alloc w _ 66 _ (fun i hi => by
    have hi' : i < 13 := hi
    have e : ¬ 12 < i + 0 := by omega
    simp only [e, if_false]
    match i, hi' with
    | 0, _ => rfl
    | 1, _ => rfl
    | 2, _ => rfl
    | 3, _ => rfl
    | 4, _ => rfl
    | 5, _ => rfl
    | 6, _ => rfl
    | 7, _ => rfl
    | 8, _ => rfl
    | 9, _ => rfl
    | 10, _ => rfl
    | 11, _ => rfl
    | 12, _ => rfl)

theorem impl_any (X : Nat) (h1 : X < 18446744073709551616) (w : World) (hT : Tab w) :
    Calls Tryz.prog 12 #[.int .u64 (X : Int)] w fun e w' => e = .returned (.string (wordA X)) ∧ Below w.heap.size w w' := by
  go_enter Tryz.func12, Tryz.ntmps12
  go_wp2
  go_loopw [0, 4] (fun y i wr => ∃ k : Nat, k ≤ 13 ∧ i = .int .i64 (12 - k) ∧ y = .int .u64 ((dv X k : Nat) : Int) ∧ wr.rowIs w.heap.size 66 13 (fun j => .int .u8 (if 12 < j + k then ((digit X (12 - j)).toNat : Int) else 0)) ∧ Below w.heap.size w wr) (fun _ i _ => (intOf i + 1).toNat)
  case atStart => exact ⟨0, by omega, rfl, by simp [dv], zero_row w X, (Below.refl _ _).alloc (Nat.le_refl _) _⟩
  case round =>
    obtain ⟨k, hk, rfl, rfl, hrow, hbel⟩ := hrel
    by_cases hlt : k < 13
    · have e31 := and_dv X k h1
      have hm : ((dm X k : Nat) : Int) < 32 := by have := dm_lt X k; omega
      have g0 : wr.cell? ⟨0, dm X k, none⟩ = some (.int .u8 ((digit X k).toNat : Int)) := (hT.below hbel) _ (dm_lt X k)
      have g1 := hrow.cell (i := 12 - k) (by omega)
      have g2 := hrow.frozen (12 - k)
      have eo : ((12 : Int) - (k : Int)).toNat = 12 - k := by omega
      go_wp2
      go_roundw
      case rel => exact ⟨k + 1, by omega, by go_num, by rw [dv_step], word_step hlt hrow, hbel.setCell (Nat.le_refl _) _⟩
      case measure => simp [intOf]; omega
    · obtain rfl : k = 13 := by omega
      have hconv := fun c => Lib.run_convert_whole (P := Tryz.prog) wr 22 5 9 Tryz.underlying22 Tryz.underlying5 Tryz.underlying9 _ _ _ (word_row hrow) c
      rw [wordA_size] at hconv
      go_wp2
      go_ret
      exact ⟨rfl, hbel⟩

theorem and_sh (X k : Nat) (h : X < 18446744073709551616) : bits BinOp.and IntKind.u64 ((X : Int) / 2 ^ (5 * (12 - k))) 31 = ((dm X (12 - k) : Nat) : Int) := by
  rw [← and_dv X (12 - k) h]
  congr 1
  unfold dv
  rw [Int.natCast_ediv, Int.pow_mul]
  norm_cast

theorem info5 : (Tryz.prog.info? 5).map (fun i => (i.zero, i.size, i.bytes)) = some (some (.int .u8 0), 1, 1) := by kernel_rfl

def wordL (X k : Nat) : List UInt8 := (List.range k).map fun j => digit X (12 - j)
theorem wordL_succ (X k : Nat) : wordL X (k + 1) = wordL X k ++ [digit X (12 - k)] := by simp [wordL, List.range_succ]

theorem let_at (n : Nat) (h : n < 32) : (⟨#[48, 49, 50, 51, 52, 53, 54, 55, 56, 57, 97, 98, 99, 100, 102, 103, 104, 105, 106, 107, 108, 109, 110, 112, 113, 114, 115, 118, 119, 120, 121, 122]⟩ : ByteArray)[n]'h = letU n := by
  unfold letU
  have h' : n < LET.length := h
  rw [List.getElem?_eq_getElem h']
  rfl

theorem spec_any (X : Nat) (h1 : X < 18446744073709551616) (w : World) :
    Calls Tryz.prog 121 #[.int .u64 (X : Int)] w fun e w' => e = .returned (.string (wordA X)) ∧ Below w.heap.size w w' := by
  go_enter Tryz.func121, Tryz.ntmps121
  go_wp2
  go_loopw [3, 4] (fun v i wr => ∃ k : Nat, k ≤ 13 ∧ i = .int .i64 (12 - k) ∧ wr.ownsRow w.heap.size 5 1 v k (byteCells (wordL X k)) ∧ Below w.heap.size w wr) (fun _ i _ => (intOf i + 1).toNat)
  case atStart => exact ⟨0, by omega, rfl, World.ownsRow_made w #[] 0 (Nat.le_refl _) (by decide) rfl, (Below.refl _ _).alloc (Nat.le_refl _) _⟩
  case round =>
    obtain ⟨k, hk, rfl, hown, hbel⟩ := hrel
    have hsz := hbel.size
    by_cases hlt : k < 13
    · have e31 := and_sh X k h1
      have hm : ((dm X (12 - k) : Nat) : Int) < 32 := by have := dm_lt X (12 - k); omega
      have hidx := let_at (dm X (12 - k)) (dm_lt X (12 - k))
      go_wp2_with (first
        | (at_builtin; refine app_own _ rfl _ _ 22 rfl w.heap.size 5 (.int .u8 0) 1 Tryz.underlying22 info5 rfl _ _ _ rfl (hown.alloc _) ⟨wr.heap.size, 0, none⟩ 1 1 (byteCells [digit X (12 - k)]) rfl rfl ?c1 (byteCells_oneCell _) ?c3 ?c4 ?c5 ?_)
        | go_in)
      case c1 => exact one_new _ _ _
      case c3 => unfold maxLen; omega
      case c4 => omega
      case c5 => simp; omega
      intro v' w' hown' hg
      have hb' := below_grown (hbel.alloc hsz _) (hown.alloc _) hg (by simp; omega)
      rw [← byteCells_append, ← wordL_succ] at hown'
      clear hidx
      go_wp2
      go_roundw
      case rel => exact ⟨k + 1, by omega, by go_num, hown', hb'⟩
      case measure => simp [intOf]; omega
    · obtain rfl : k = 13 := by omega
      have hconv := own_string (P := Tryz.prog) Tryz.underlying22 Tryz.underlying5 Tryz.underlying9 hown
      go_wp2
      go_ret
      exact ⟨rfl, hbel⟩

end Go.Proofs.YtaoimkjcaienbaaGreatDoor.wd

namespace Go.Proofs.YtaoimkjcaienbaaGreatDoor.sm
open Go.ChangeShapes Go.WideShapes Go.ChangeAt Go.RowKit Go.Deep
set_option linter.unusedVariables false

/-- The first 'n' bytes behind a slice's address are 'l'. -/
def Bs (w : World) (a : Option Addr) (n : Nat) (l : List Int) : Prop :=
  n = 0 ∨ ∃ b off, a = some ⟨b, off, none⟩ ∧ ∀ i, i < n → w.cell? ⟨b, off + i, none⟩ = some (.int .u8 (l[i]?.getD 0))

def stepS (l : List Int) (g : Int) (k : Nat) : Int := IntKind.u64.wrap (bits BinOp.xor IntKind.u64 g (IntKind.u64.wrap (l[k]?.getD 0)) * 1099511628211)
def sumS (l : List Int) (h : Int) : Nat → Int
  | 0 => h
  | k + 1 => stepS l (sumS l h k) k

theorem sumOn_any (h : Int) (a : Option Addr) (n cap : Nat) (l : List Int) (w : World) (hb : Bs w a n l) (hn : n ≤ 1099511627776) :
    Calls Tryz.prog 42 #[.int .u64 h, .slice a n cap] w fun e w' => e = .returned (.int .u64 (sumS l h n)) ∧ w' = w := by
  go_enter Tryz.func42, Tryz.ntmps42
  go_wp2
  go_loop [0, 6, 9] (fun s x i => ∃ k : Nat, k ≤ n ∧ i = .int .i64 k ∧ s = .int .u64 (sumS l h k)) (fun _ _ i => n - (intOf i).toNat)
  case atStart => exact ⟨0, Nat.zero_le _, rfl, rfl⟩
  case round =>
    obtain ⟨k, hk, rfl, rfl⟩ := hrel
    by_cases hlt : k < n
    · rcases hb with rfl | ⟨b, off, rfl, hc⟩
      · omega
      have hck := hc k hlt
      go_wp2
      go_round
      case rel => exact ⟨k + 1, by omega, by go_num, rfl⟩
      case measure => simp [intOf]; omega
    · go_wp2
      go_ret
      obtain rfl : k = n := by omega
      exact ⟨rfl, rfl⟩

def turnS (g : Int) : Nat → Int
  | 0 => g
  | k + 1 => IntKind.u64.wrap (bits BinOp.xor IntKind.u64 (turnS g k) (turnS g k / 536870912) * 11400714819323198485)
def lastS (g : Int) : Int := bits BinOp.xor IntKind.u64 (turnS g 3) (turnS g 3 / 4294967296)

theorem last_any (h : Int) (w : World) :
    Calls Tryz.prog 41 #[.int .u64 h] w fun e w' => e = .returned (.int .u64 (lastS h)) ∧ w' = w := by
  go_enter Tryz.func41, Tryz.ntmps41
  go_wp2
  go_loop [0, 3] (fun s i => ∃ k : Nat, k ≤ 3 ∧ i = .int .u64 k ∧ s = .int .u64 (turnS h k)) (fun _ i => 3 - (intOf i).toNat)
  case atStart => exact ⟨0, Nat.zero_le _, rfl, rfl⟩
  case round =>
    obtain ⟨k, hk, rfl, rfl⟩ := hrel
    by_cases hlt : k < 3
    · go_wp2
      go_round
      case rel => exact ⟨k + 1, by omega, by go_num, rfl⟩
      case measure => simp [intOf]; omega
    · obtain rfl : k = 3 := by omega
      go_wp2
      go_ret
      exact ⟨rfl, rfl⟩

theorem spec_any (a : Option Addr) (n cap : Nat) (l : List Int) (w : World) (hb : Bs w a n l) (hn : n ≤ 1099511627776) :
    Calls Tryz.prog 122 #[.slice a n cap] w fun e w' => e = .returned (.int .u64 (lastS (sumS l 14695981039346656037 n))) ∧ w' = w := by
  go_enter Tryz.func122, Tryz.ntmps122
  go_wp2
  go_loop [3, 4] (fun s i => ∃ k : Nat, k ≤ n ∧ i = .int .i64 k ∧ s = .int .u64 (sumS l 14695981039346656037 k)) (fun _ i => n - (intOf i).toNat)
  case atStart => exact ⟨0, Nat.zero_le _, rfl, rfl⟩
  case round =>
    obtain ⟨k, hk, rfl, rfl⟩ := hrel
    by_cases hlt : k < n
    · rcases hb with rfl | ⟨b, off, rfl, hc⟩
      · omega
      have hck := hc k hlt
      go_wp2
      go_round
      case rel => exact ⟨k + 1, by omega, by go_num, rfl⟩
      case measure => simp [intOf]; omega
    · obtain rfl : k = n := by omega
      go_wp2
      go_loop [3, 5] (fun s i => ∃ j : Nat, j ≤ 3 ∧ i = .int .i64 j ∧ s = .int .u64 (turnS (sumS l 14695981039346656037 k) j)) (fun _ i => 3 - (intOf i).toNat)
      case atStart => exact ⟨0, Nat.zero_le _, rfl, rfl⟩
      case round =>
        obtain ⟨j, hj, rfl, rfl⟩ := hrel
        by_cases hl3 : j < 3
        · go_wp2
          go_round
          case rel => exact ⟨j + 1, by omega, by go_num, rfl⟩
          case measure => simp [intOf]; omega
        · obtain rfl : j = 3 := by omega
          go_wp2
          go_ret
          exact ⟨rfl, rfl⟩

theorem impl_any (a : Option Addr) (n cap : Nat) (l : List Int) (w : World) (hb : Bs w a n l) (hn : n ≤ 1099511627776) :
    Calls Tryz.prog 13 #[.slice a n cap] w fun e w' => e = .returned (.int .u64 (lastS (sumS l 14695981039346656037 n))) ∧ w' = w := by
  go_enter Tryz.func13, Tryz.ntmps13
  go_wp2_with (first
    | (go_at_call 42; refine (sumOn_any _ _ _ _ l _ hb hn).mono ?_; rintro e w' ⟨rfl, rfl⟩)
    | (go_at_call 41; refine (last_any _ _).mono ?_; rintro e w' ⟨rfl, rfl⟩))
  go_ret
  exact ⟨rfl, rfl⟩

theorem info5 : (Tryz.prog.info? 5).map (fun i => (i.zero, i.size, i.bytes)) = some (some (.int .u8 0), 1, 1) := by kernel_rfl

theorem row_step {w : World} {b n k : Nat} {l : List Int} (h : w.rowIs b 5 n (fun j => .int .u8 (if j < k then l[j]?.getD 0 else 0))) :
    (w.setCell ⟨b, k, none⟩ (.int .u8 (l[k]?.getD 0))).rowIs b 5 n (fun j => .int .u8 (if j < k + 1 then l[j]?.getD 0 else 0)) :=
  (h.set k _).congr fun i hi => by
    by_cases h : i = k
    · simp [h]
    · have e : (i < k + 1) ↔ (i < k) := by omega
      simp [h, e]

theorem Bs.row {w : World} {b n : Nat} {l : List Int} (h : w.rowIs b 5 n (fun i => .int .u8 (l[i]?.getD 0))) : Bs w (some ⟨b, 0, none⟩) n l :=
  .inr ⟨b, 0, rfl, fun i hi => by have := h.cell hi; simpa using this⟩

theorem Bs.below {w w' : World} {a : Option Addr} {n : Nat} {l : List Int} (h : Bs w a n l) (hb : Below w.heap.size w w') : Bs w' a n l := by
  rcases h with h | ⟨b, off, e, hc⟩
  · exact .inl h
  · exact .inr ⟨b, off, e, fun i hi => (hb.cell (World.block_lt_of_cell? _ _ (hc i hi))).trans (hc i hi)⟩

end Go.Proofs.YtaoimkjcaienbaaGreatDoor.sm
