import Derived.Test.YtogakignaaoklaaRows
import Derived.Test.YtogakignaaoklaaL
import Derived.Deep.QuietTactic
import Derived.BigQuiet
import Derived.Deep.RegionWith
import Derived.Lib.Hide
import Derived.Laws.Bits128
import Derived.RangeFuncBox
namespace Go.Proofs.Ytogakignaaoklaa.dr
open Go.ChangeShapes Go.WideShapes Go.ChangeAt Go.RowKit Go.Deep
set_option linter.unusedVariables false
set_option linter.unusedSimpArgs false

/-- The bytes that are drawn from can be read. -/
def CodeB (w : World) (a : Option Addr) (n : Nat) : Prop :=
  n = 0 ∨ ∃ b off, a = some ⟨b, off, none⟩ ∧ ∀ i, i < n → ∃ x : Nat, x < 256 ∧ w.cell? ⟨b, off + i, none⟩ = some (.int .u8 (x : Int))

/-- The cursor. -/
def CurC (a : Option Addr) (n cap i : Nat) (h : Int) (j : Nat) : Value := if j = 0 then .slice a n cap else if j = 1 then .int .i64 (i : Int) else .int .i64 h

set_option maxHeartbeats 1000000 in
theorem new_any (a : Option Addr) (n cap : Nat) (w : World) (hb : CodeB w a n) (hn : n ≤ 1048576) :
    Calls Try.prog 14 #[.slice a n cap] w fun e w' => e = .returned (.pointer (some ⟨w.heap.size, 0, none⟩)) ∧ ∃ h : Int, w' = w.alloc (.cells #[.slice a n cap, .int .i64 0, .int .i64 h] 67) := by
  go_enter Try.func14, Try.ntmps14
  go_wp2
  go_loop [3, 4] (fun x i => ∃ (k : Nat) (h : Int), k ≤ n ∧ i = .int .i64 k ∧ x = .int .i64 h) (fun _ i => n - (intOf i).toNat)
  case atStart => exact ⟨0, _, Nat.zero_le _, rfl, rfl⟩
  case round =>
    obtain ⟨k, h, hk, rfl, rfl⟩ := hrel
    by_cases hlt : k < n
    · rcases hb with rfl | ⟨b, off, rfl, hc⟩
      · omega
      obtain ⟨x, hx, hck⟩ := hc k hlt
      have hlt' : (k : Int) < (n : Int) := by omega
      go_wp2
      go_round
      case rel => exact ⟨k + 1, _, by omega, by go_num, rfl⟩
      case measure => simp [intOf]; omega
    · have hlt' : ¬ (k : Int) < (n : Int) := by omega
      go_wp2
      go_ret
      exact ⟨rfl, _, rfl⟩

theorem i64_and255 (n : Int) : bits .and .i64 n 255 = n % 256 := by
  have h255 : (BitVec.ofInt 64 255).toNat = 2 ^ 8 - 1 := by decide
  have key : (BitVec.ofInt 64 n &&& BitVec.ofInt 64 255).toNat = (n % ((2 ^ 64 : Nat) : Int)).toNat % 2 ^ 8 := by
    rw [BitVec.toNat_and, BitVec.toNat_ofInt, h255, Nat.and_two_pow_sub_one_eq_mod]
  show IntKind.i64.wrap ((BitVec.ofInt 64 n &&& BitVec.ofInt 64 255).toNat : Nat) = n % 256
  rw [key, IntKind.wrap_i64]
  omega

def Cur (w : World) (c : Nat) (a : Option Addr) (n cap : Nat) : Prop := ∃ (i : Nat) (h : Int), w.rowIs c 67 3 (CurC a n cap i h) ∧ i ≤ n

theorem grown_set (W : World) (b o : Nat) (v : Value) : W.grownBy (W.setCell ⟨b, o, none⟩ v) (some b) :=
  ⟨rfl, rfl, rfl, by simp, fun k _ hk => blk_setCell_other _ _ _ _ (fun e => hk (by rw [e]))⟩
theorem grown_trans {A B C : World} {c : Nat} (h : A.grownBy B (some c)) (k : B.grownBy C (some c)) : A.grownBy C (some c) :=
  ⟨k.os.trans h.os, k.tape.trans h.tape, k.output.trans h.output, Nat.le_trans h.size k.size, fun j hj hne => (k.block j (Nat.lt_of_lt_of_le hj h.size) hne).trans (h.block j hj hne)⟩
theorem grown_refl (A : World) (c : Nat) : A.grownBy A (some c) := ⟨rfl, rfl, rfl, Nat.le_refl _, fun _ _ _ => rfl⟩
theorem grown_drewN {A B : World} {c q : Nat} (h : A.grownBy B (some c)) : A.grownBy (B.drewN q) (some c) := ⟨h.os, h.tape, h.output, h.size, h.block⟩

theorem row_drewN {w : World} {b n : Nat} {t : TypeId} {f : Nat → Value} (h : w.rowIs b t n f) (q : Nat) : (w.drewN q).rowIs b t n f := h

theorem byte_fin {v : Int} {e : Ending} {w w' : World} {c n cap : Nat} {a : Option Addr} (he : e = .returned (.int .i64 (bits .and .i64 v 255))) (hc : Cur w' c a n cap) (hg : w.grownBy w' (some c)) :
    ∃ x : Nat, e = .returned (.int .i64 (x : Int)) ∧ x < 256 ∧ Cur w' c a n cap ∧ w.grownBy w' (some c) := by
  refine ⟨(v % 256).toNat, ?_, by omega, hc, hg⟩
  rw [he, i64_and255]
  congr 2
  omega

theorem cur_set2 {w : World} {c n cap i : Nat} {a : Option Addr} {h : Int} (hr : w.rowIs c 67 3 (CurC a n cap i h)) (h' : Int) : (w.setCell ⟨c, 2, none⟩ (.int .i64 h')).rowIs c 67 3 (CurC a n cap i h') :=
  (hr.set 2 _).congr fun j hj => by
    match j, hj with
    | 0, _ => rfl
    | 1, _ => rfl
    | 2, _ => rfl
theorem cur_set1 {w : World} {c n cap i : Nat} {a : Option Addr} {h : Int} (hr : w.rowIs c 67 3 (CurC a n cap i h)) {v : Int} (e : v = ((i + 1 : Nat) : Int)) : (w.setCell ⟨c, 1, none⟩ (.int .i64 v)).rowIs c 67 3 (CurC a n cap (i + 1) h) :=
  (hr.set 1 _).congr fun j hj => by
    match j, hj with
    | 0, _ => rfl
    | 1, _ => subst e; rfl
    | 2, _ => rfl

set_option maxHeartbeats 1000000 in
theorem byte_any (a : Option Addr) (n cap c : Nat) (w : World) (hb : CodeB w a n) (hc : Cur w c a n cap) (hn : n ≤ 1048576) (hne : ∀ x, a = some x → 0 < n → x.block ≠ c) :
    Calls Try.prog 38 #[.pointer (some ⟨c, 0, none⟩)] w fun e w' => ∃ x : Nat, e = .returned (.int .i64 (x : Int)) ∧ x < 256 ∧ Cur w' c a n cap ∧ w.grownBy w' (some c) := by
  obtain ⟨i, h, hr, hi⟩ := hc
  have g0 : w.cell? ⟨c, 0, none⟩ = some (.slice a n cap) := hr.cell (i := 0) (by decide)
  have g1 : w.cell? ⟨c, 1, none⟩ = some (.int .i64 (i : Int)) := hr.cell (i := 1) (by decide)
  have g2 : w.cell? ⟨c, 2, none⟩ = some (.int .i64 h) := hr.cell (i := 2) (by decide)
  have f1 := hr.frozen 1
  have f2 := hr.frozen 2
  by_cases hlt : i < n
  · have hlt' : (i : Int) < (n : Int) := by omega
    rcases hb with rfl | ⟨b, off, rfl, hcc⟩
    · omega
    obtain ⟨x, hx, hck⟩ := hcc i hlt
    have hbc : b ≠ c := hne _ rfl (by omega)
    go_enter Try.func38, Try.ntmps38
    go_wp2
    go_quiet (fail)
    go_wp2
    go_quiet (fail)
    go_wp2
    go_quiet (fail)
    go_wp2
    go_ret
    exact byte_fin rfl ⟨i + 1, _, cur_set1 (row_drewN (cur_set2 hr _) _) (by omega), hlt⟩ (grown_trans (grown_drewN (grown_set _ _ _ _)) (grown_set _ _ _ _))
  · have hlt' : ¬ (i : Int) < (n : Int) := by omega
    go_enter Try.func38, Try.ntmps38
    go_wp2
    go_quiet (fail)
    go_wp2
    go_quiet (fail)
    go_wp2
    go_ret
    exact byte_fin rfl ⟨i, _, row_drewN (row_drewN (cur_set2 hr _) _) _, hi⟩ (grown_drewN (grown_drewN (grown_set _ _ _ _)))

theorem CodeB.grown {w w' : World} {a : Option Addr} {n c : Nat} (h : CodeB w a n) (hg : w.grownBy w' (some c)) (hne : ∀ x, a = some x → 0 < n → x.block ≠ c) : CodeB w' a n := by
  rcases h with h | ⟨b, off, rfl, h⟩
  · exact .inl h
  · exact .inr ⟨b, off, rfl, fun i hi => by
      obtain ⟨x, hx, hc⟩ := h i hi
      exact ⟨x, hx, hg.cell hc (fun e => hne _ rfl (by omega) (by cases e; rfl))⟩⟩

/-- What a draw leaves. -/
structure Draws (w w' : World) (c : Nat) (a : Option Addr) (n cap : Nat) : Prop where
  code : CodeB w' a n
  cur : Cur w' c a n cap
  grown : w.grownBy w' (some c)

/-- What a draw asks. -/
structure Can (w : World) (c : Nat) (a : Option Addr) (n cap : Nat) : Prop where
  code : CodeB w a n
  cur : Cur w c a n cap
  small : n ≤ 1048576
  lt : ∀ x, a = some x → 0 < n → x.block < c

theorem Can.ne {w : World} {c : Nat} {a : Option Addr} {n cap : Nat} (h : Can w c a n cap) : ∀ x, a = some x → 0 < n → x.block ≠ c := fun x e h0 => Nat.ne_of_lt (h.lt x e h0)
theorem Can.draws {w w' : World} {c : Nat} {a : Option Addr} {n cap : Nat} (h : Can w c a n cap) (k : Draws w w' c a n cap) : Can w' c a n cap := ⟨k.code, k.cur, h.small, h.lt⟩
theorem Draws.trans {A B C : World} {c : Nat} {a : Option Addr} {n cap : Nat} (h : Draws A B c a n cap) (k : Draws B C c a n cap) : Draws A C c a n cap := ⟨k.code, k.cur, grown_trans h.grown k.grown⟩
theorem Can.refl {w : World} {c : Nat} {a : Option Addr} {n cap : Nat} (h : Can w c a n cap) : Draws w w c a n cap := ⟨h.code, h.cur, grown_refl _ _⟩

theorem byte_can {w : World} {c : Nat} {a : Option Addr} {n cap : Nat} (h : Can w c a n cap) :
    Calls Try.prog 38 #[.pointer (some ⟨c, 0, none⟩)] w fun e w' => ∃ x : Nat, e = .returned (.int .i64 (x : Int)) ∧ x < 256 ∧ Draws w w' c a n cap :=
  (byte_any a n cap c w h.code h.cur h.small h.ne).mono fun e w' ⟨x, he, hx, hc, hg⟩ => ⟨x, he, hx, h.code.grown hg h.ne, hc, hg⟩

set_option maxHeartbeats 1000000 in
theorem below_can {w : World} {c : Nat} {a : Option Addr} {n cap : Nat} (h : Can w c a n cap) (m : Nat) (hm : 1 ≤ m) (hm2 : m ≤ 1000000000) :
    Calls Try.prog 22 #[.pointer (some ⟨c, 0, none⟩), .int .i64 (m : Int)] w fun e w' => ∃ x : Nat, e = .returned (.int .i64 (x : Int)) ∧ x < m ∧ Draws w w' c a n cap := by
  have h0 : ¬ (m : Int) ≤ 0 := by omega
  by_cases hs : m ≤ 256
  · have hs' : (m : Int) ≤ 256 := by omega
    go_enter Try.func22, Try.ntmps22
    go_wp2_with (go_at_call 38; refine (byte_can h).mono ?_; rintro e w1 ⟨x, rfl, hx, d1⟩)
    go_ret
    exact ⟨x % m, ret_int (Int.natCast_emod x m).symm, Nat.mod_lt _ (by omega), d1⟩
  · have hs' : ¬ (m : Int) ≤ 256 := by omega
    go_enter Try.func22, Try.ntmps22
    go_wp2_with (go_at_call 38; refine (byte_can h).mono ?_; rintro e w1 ⟨x, rfl, hx, d1⟩)
    go_wp2_with (go_at_call 38; refine (byte_can (h.draws d1)).mono ?_; rintro e w2 ⟨y, rfl, hy, d2⟩)
    go_wp2_with (go_at_call 38; refine (byte_can ((h.draws d1).draws d2)).mono ?_; rintro e w3 ⟨z, rfl, hz, d3⟩)
    go_wp2_with (go_at_call 38; refine (byte_can (((h.draws d1).draws d2).draws d3)).mono ?_; rintro e w4 ⟨u, rfl, hu, d4⟩)
    go_ret
    refine ⟨(x * 16777216 + y * 65536 + z * 256 + u) % m, ret_int ?_, Nat.mod_lt _ (by omega), ((d1.trans d2).trans d3).trans d4⟩
    rw [Int.natCast_emod]
    congr 1

theorem once_can {w : World} {c : Nat} {a : Option Addr} {n cap : Nat} (h : Can w c a n cap) (m : Nat) (hm : 1 ≤ m) (hm2 : m ≤ 1000000000) :
    Calls Try.prog 33 #[.pointer (some ⟨c, 0, none⟩), .int .i64 (m : Int)] w fun e w' => ∃ x : Bool, e = .returned (.bool x) ∧ Draws w w' c a n cap := by
  go_enter Try.func33, Try.ntmps33
  go_wp2_with (go_at_call 22; refine (below_can h m hm hm2).mono ?_; rintro e w1 ⟨x, rfl, hx, d1⟩)
  go_ret
  exact ⟨_, rfl, d1⟩

theorem Can.below {w w' : World} {c : Nat} {a : Option Addr} {n cap : Nat} (h : Can w c a n cap) (hb : Below (c + 1) w w') : Can w' c a n cap := by
  refine ⟨?_, ?_, h.small, h.lt⟩
  · rcases h.code with h' | ⟨b, off, rfl, h'⟩
    · exact .inl h'
    · refine .inr ⟨b, off, rfl, fun i hi => ?_⟩
      obtain ⟨x, hx, hc⟩ := h' i hi
      have := h.lt _ rfl (by omega)
      exact ⟨x, hx, (hb.cell (p := ⟨b, _, none⟩) (by show b < c + 1; simp at this; omega)).trans hc⟩
  · obtain ⟨i, g, hr, hi⟩ := h.cur
    exact ⟨i, g, hr.of_block (hb.block _ (by omega)), hi⟩

theorem below_of_grown {w w' : World} {c B : Nat} (h : w.grownBy w' (some c)) (hB : B ≤ c) (hs : B ≤ w.heap.size) : Below B w w' :=
  (Below.refl B w).grown h hs (fun k e => by cases e; exact hB)

/-- An append to a row that is new since w. -/
theorem grown_app {w wr wr' : World} {c : Nat} {e : TypeId} {size k : Nat} {v : Value} {xs : List Value} (h : w.grownBy wr (some c)) (ho : wr.ownsRow w.heap.size e size v k xs) (hg : wr.grownBy wr' v.ownBlock) : w.grownBy wr' (some c) :=
  ⟨hg.os.trans h.os, hg.tape.trans h.tape, hg.output.trans h.output, Nat.le_trans h.size hg.size, fun j hj hne => (hg.block j (Nat.lt_of_lt_of_le hj h.size) (fun e => by have := (ho.lt j e.symm).1; omega)).trans (h.block j hj hne)⟩
theorem grown_alloc {w wr : World} {c : Nat} (h : w.grownBy wr (some c)) (o : Obj) : w.grownBy (wr.alloc o) (some c) :=
  ⟨h.os, h.tape, h.output, by simp; have := h.size; omega, fun j hj hne => (Below.heap_alloc wr o j (Nat.lt_of_lt_of_le hj h.size)).trans (h.block j hj hne)⟩
/-- A row that is new since w is not the cursor. -/
theorem own_draws {wr wr' : World} {c : Nat} {a : Option Addr} {n cap : Nat} {e : TypeId} {size k B : Nat} {v : Value} {xs : List Value} (ho : wr.ownsRow B e size v k xs) (hB : c < B) (hd : Draws wr wr' c a n cap) : wr'.ownsRow B e size v k xs :=
  ho.kept hd.grown (.inr fun e => by have := (ho.lt c e).1; omega)

theorem info5 : (Try.prog.info? 5).map (fun i => (i.zero, i.size, i.bytes)) = some (some (.int .u8 0), 1, 1) := by kernel_rfl
theorem own_empty5 (w : World) (b : Nat) (hb : b ≤ w.heap.size) : (w.alloc (.cells #[] 5)).ownsRow b 5 1 (.slice (some ⟨w.heap.size, 0, none⟩) 0 0) 0 (byteCells []) := World.ownsRow_made w #[] 0 hb (by decide) rfl

theorem byte_cell (x : Nat) (hx : x < 256) : [Value.int .u8 (x : Int)] = byteCells [UInt8.ofNat x] := by
  have : (UInt8.ofNat x).toNat = x := by simp [UInt8.toNat_ofNat']; omega
  rw [byteCells_one, this]

end Go.Proofs.Ytogakignaaoklaa.dr
