import Derived.Test.YtifgaaemdojmpaaGreatDoorRows
import Derived.Test.YtifgaaemdojmpaaGreatDoorG01
import Derived.Deep.QuietTactic
import Derived.BigQuiet
import Derived.Deep.RegionWith
import Derived.Lib.Hide
import Derived.Laws.Bits128
import Derived.RangeFuncBox
import Derived.Test.YtifgaaemdojmpaaGreatDoorG23
namespace Go.Proofs.YtifgaaemdojmpaaGreatDoor.dr
open Go.ChangeShapes Go.WideShapes Go.ChangeAt Go.RowKit Go.Deep
set_option linter.unusedVariables false
set_option linter.unusedSimpArgs false

/-- The bytes that are drawn from can be read. -/
def CodeB (w : World) (a : Option Addr) (n : Nat) : Prop :=
  n = 0 ∨ ∃ b off, a = some ⟨b, off, none⟩ ∧ ∀ i, i < n → ∃ x : Nat, x < 256 ∧ w.cell? ⟨b, off + i, none⟩ = some (.int .u8 (x : Int))

/-- The cursor. -/
def CurC (a : Option Addr) (n cap i : Nat) (h : Int) (j : Nat) : Value := if j = 0 then .slice a n cap else if j = 1 then .int .i64 (i : Int) else .int .i64 h

set_option maxHeartbeats 1000000 in
theorem new_any (a : Option Addr) (n cap : Nat) (w : World) (hb : CodeB w a n) (hn : n ≤ 1048576) :
    Calls Tryz.prog 16 #[.slice a n cap] w fun e w' => e = .returned (.pointer (some ⟨w.heap.size, 0, none⟩)) ∧ ∃ h : Int, w' = w.alloc (.cells #[.slice a n cap, .int .i64 0, .int .i64 h] 76) := by
  go_enter Tryz.func16, Tryz.ntmps16
  go_wp2
  go_loop [3, 4] (fun x i => ∃ (k : Nat) (h : Int), k ≤ n ∧ i = .int .i64 k ∧ x = .int .i64 h) (fun _ i => n - (intOf i).toNat)
  case atStart => exact ⟨0, _, Nat.zero_le _, rfl, rfl⟩
  case round =>
    obtain ⟨k, h, hk, rfl, rfl⟩ := hrel
    by_cases hlt : k < n
    · rcases hb with rfl | ⟨b, off, rfl, hc⟩
      · omega
      obtain ⟨x, hx, hck⟩ := hc k hlt
      have hlt' : (k : Int) < (n : Int) := by omega
      go_wp2
      go_round
      case rel => exact ⟨k + 1, _, by omega, by go_num, rfl⟩
      case measure => simp [intOf]; omega
    · have hlt' : ¬ (k : Int) < (n : Int) := by omega
      go_wp2
      go_ret
      exact ⟨rfl, _, rfl⟩

theorem i64_and255 (n : Int) : bits .and .i64 n 255 = n % 256 := by
  have h255 : (BitVec.ofInt 64 255).toNat = 2 ^ 8 - 1 := by decide
  have key : (BitVec.ofInt 64 n &&& BitVec.ofInt 64 255).toNat = (n % ((2 ^ 64 : Nat) : Int)).toNat % 2 ^ 8 := by
    rw [BitVec.toNat_and, BitVec.toNat_ofInt, h255, Nat.and_two_pow_sub_one_eq_mod]
  show IntKind.i64.wrap ((BitVec.ofInt 64 n &&& BitVec.ofInt 64 255).toNat : Nat) = n % 256
  rw [key, IntKind.wrap_i64]
  omega

def Cur (w : World) (c : Nat) (a : Option Addr) (n cap : Nat) : Prop := ∃ (i : Nat) (h : Int), w.rowIs c 76 3 (CurC a n cap i h) ∧ i ≤ n

theorem grown_set (W : World) (b o : Nat) (v : Value) : W.grownBy (W.setCell ⟨b, o, none⟩ v) (some b) :=
  ⟨rfl, rfl, rfl, by simp, fun k _ hk => blk_setCell_other _ _ _ _ (fun e => hk (by rw [e]))⟩
theorem grown_trans {A B C : World} {c : Nat} (h : A.grownBy B (some c)) (k : B.grownBy C (some c)) : A.grownBy C (some c) :=
  ⟨k.os.trans h.os, k.tape.trans h.tape, k.output.trans h.output, Nat.le_trans h.size k.size, fun j hj hne => (k.block j (Nat.lt_of_lt_of_le hj h.size) hne).trans (h.block j hj hne)⟩
theorem grown_refl (A : World) (c : Nat) : A.grownBy A (some c) := ⟨rfl, rfl, rfl, Nat.le_refl _, fun _ _ _ => rfl⟩
theorem grown_drewN {A B : World} {c q : Nat} (h : A.grownBy B (some c)) : A.grownBy (B.drewN q) (some c) := ⟨h.os, h.tape, h.output, h.size, h.block⟩

theorem row_drewN {w : World} {b n : Nat} {t : TypeId} {f : Nat → Value} (h : w.rowIs b t n f) (q : Nat) : (w.drewN q).rowIs b t n f := h

theorem byte_fin {v : Int} {e : Ending} {w w' : World} {c n cap : Nat} {a : Option Addr} (he : e = .returned (.int .i64 (bits .and .i64 v 255))) (hc : Cur w' c a n cap) (hg : w.grownBy w' (some c)) :
    ∃ x : Nat, e = .returned (.int .i64 (x : Int)) ∧ x < 256 ∧ Cur w' c a n cap ∧ w.grownBy w' (some c) := by
  refine ⟨(v % 256).toNat, ?_, by omega, hc, hg⟩
  rw [he, i64_and255]
  congr 2
  omega

theorem cur_set2 {w : World} {c n cap i : Nat} {a : Option Addr} {h : Int} (hr : w.rowIs c 76 3 (CurC a n cap i h)) (h' : Int) : (w.setCell ⟨c, 2, none⟩ (.int .i64 h')).rowIs c 76 3 (CurC a n cap i h') :=
  (hr.set 2 _).congr fun j hj => by
    match j, hj with
    | 0, _ => rfl
    | 1, _ => rfl
    | 2, _ => rfl
theorem cur_set1 {w : World} {c n cap i : Nat} {a : Option Addr} {h : Int} (hr : w.rowIs c 76 3 (CurC a n cap i h)) {v : Int} (e : v = ((i + 1 : Nat) : Int)) : (w.setCell ⟨c, 1, none⟩ (.int .i64 v)).rowIs c 76 3 (CurC a n cap (i + 1) h) :=
  (hr.set 1 _).congr fun j hj => by
    match j, hj with
    | 0, _ => rfl
    | 1, _ => subst e; rfl
    | 2, _ => rfl

set_option maxHeartbeats 1000000 in
theorem byte_any (a : Option Addr) (n cap c : Nat) (w : World) (hb : CodeB w a n) (hc : Cur w c a n cap) (hn : n ≤ 1048576) (hne : ∀ x, a = some x → 0 < n → x.block ≠ c) :
    Calls Tryz.prog 59 #[.pointer (some ⟨c, 0, none⟩)] w fun e w' => ∃ x : Nat, e = .returned (.int .i64 (x : Int)) ∧ x < 256 ∧ Cur w' c a n cap ∧ w.grownBy w' (some c) := by
  obtain ⟨i, h, hr, hi⟩ := hc
  have g0 : w.cell? ⟨c, 0, none⟩ = some (.slice a n cap) := hr.cell (i := 0) (by decide)
  have g1 : w.cell? ⟨c, 1, none⟩ = some (.int .i64 (i : Int)) := hr.cell (i := 1) (by decide)
  have g2 : w.cell? ⟨c, 2, none⟩ = some (.int .i64 h) := hr.cell (i := 2) (by decide)
  have f1 := hr.frozen 1
  have f2 := hr.frozen 2
  by_cases hlt : i < n
  · have hlt' : (i : Int) < (n : Int) := by omega
    rcases hb with rfl | ⟨b, off, rfl, hcc⟩
    · omega
    obtain ⟨x, hx, hck⟩ := hcc i hlt
    have hbc : b ≠ c := hne _ rfl (by omega)
    go_enter Tryz.func59, Tryz.ntmps59
    go_wp2
    go_quiet (fail)
    go_wp2
    go_quiet (fail)
    go_wp2
    go_quiet (fail)
    go_wp2
    go_ret
    exact byte_fin rfl ⟨i + 1, _, cur_set1 (row_drewN (cur_set2 hr _) _) (by omega), hlt⟩ (grown_trans (grown_drewN (grown_set _ _ _ _)) (grown_set _ _ _ _))
  · have hlt' : ¬ (i : Int) < (n : Int) := by omega
    go_enter Tryz.func59, Tryz.ntmps59
    go_wp2
    go_quiet (fail)
    go_wp2
    go_quiet (fail)
    go_wp2
    go_ret
    exact byte_fin rfl ⟨i, _, row_drewN (row_drewN (cur_set2 hr _) _) _, hi⟩ (grown_drewN (grown_drewN (grown_set _ _ _ _)))

theorem CodeB.grown {w w' : World} {a : Option Addr} {n c : Nat} (h : CodeB w a n) (hg : w.grownBy w' (some c)) (hne : ∀ x, a = some x → 0 < n → x.block ≠ c) : CodeB w' a n := by
  rcases h with h | ⟨b, off, rfl, h⟩
  · exact .inl h
  · exact .inr ⟨b, off, rfl, fun i hi => by
      obtain ⟨x, hx, hc⟩ := h i hi
      exact ⟨x, hx, hg.cell hc (fun e => hne _ rfl (by omega) (by cases e; rfl))⟩⟩

/-- What a draw leaves. -/
structure Draws (w w' : World) (c : Nat) (a : Option Addr) (n cap : Nat) : Prop where
  code : CodeB w' a n
  cur : Cur w' c a n cap
  grown : w.grownBy w' (some c)

/-- What a draw asks. -/
structure Can (w : World) (c : Nat) (a : Option Addr) (n cap : Nat) : Prop where
  code : CodeB w a n
  cur : Cur w c a n cap
  small : n ≤ 1048576
  lt : ∀ x, a = some x → 0 < n → x.block < c

theorem Can.ne {w : World} {c : Nat} {a : Option Addr} {n cap : Nat} (h : Can w c a n cap) : ∀ x, a = some x → 0 < n → x.block ≠ c := fun x e h0 => Nat.ne_of_lt (h.lt x e h0)
theorem Can.draws {w w' : World} {c : Nat} {a : Option Addr} {n cap : Nat} (h : Can w c a n cap) (k : Draws w w' c a n cap) : Can w' c a n cap := ⟨k.code, k.cur, h.small, h.lt⟩
theorem Draws.trans {A B C : World} {c : Nat} {a : Option Addr} {n cap : Nat} (h : Draws A B c a n cap) (k : Draws B C c a n cap) : Draws A C c a n cap := ⟨k.code, k.cur, grown_trans h.grown k.grown⟩
theorem Can.refl {w : World} {c : Nat} {a : Option Addr} {n cap : Nat} (h : Can w c a n cap) : Draws w w c a n cap := ⟨h.code, h.cur, grown_refl _ _⟩

theorem byte_can {w : World} {c : Nat} {a : Option Addr} {n cap : Nat} (h : Can w c a n cap) :
    Calls Tryz.prog 59 #[.pointer (some ⟨c, 0, none⟩)] w fun e w' => ∃ x : Nat, e = .returned (.int .i64 (x : Int)) ∧ x < 256 ∧ Draws w w' c a n cap :=
  (byte_any a n cap c w h.code h.cur h.small h.ne).mono fun e w' ⟨x, he, hx, hc, hg⟩ => ⟨x, he, hx, h.code.grown hg h.ne, hc, hg⟩

set_option maxHeartbeats 1000000 in
theorem below_can {w : World} {c : Nat} {a : Option Addr} {n cap : Nat} (h : Can w c a n cap) (m : Nat) (hm : 1 ≤ m) (hm2 : m ≤ 1000000000) :
    Calls Tryz.prog 39 #[.pointer (some ⟨c, 0, none⟩), .int .i64 (m : Int)] w fun e w' => ∃ x : Nat, e = .returned (.int .i64 (x : Int)) ∧ x < m ∧ Draws w w' c a n cap := by
  have h0 : ¬ (m : Int) ≤ 0 := by omega
  by_cases hs : m ≤ 256
  · have hs' : (m : Int) ≤ 256 := by omega
    go_enter Tryz.func39, Tryz.ntmps39
    go_wp2_with (go_at_call 59; refine (byte_can h).mono ?_; rintro e w1 ⟨x, rfl, hx, d1⟩)
    go_ret
    exact ⟨x % m, ret_int (Int.natCast_emod x m).symm, Nat.mod_lt _ (by omega), d1⟩
  · have hs' : ¬ (m : Int) ≤ 256 := by omega
    go_enter Tryz.func39, Tryz.ntmps39
    go_wp2_with (go_at_call 59; refine (byte_can h).mono ?_; rintro e w1 ⟨x, rfl, hx, d1⟩)
    go_wp2_with (go_at_call 59; refine (byte_can (h.draws d1)).mono ?_; rintro e w2 ⟨y, rfl, hy, d2⟩)
    go_wp2_with (go_at_call 59; refine (byte_can ((h.draws d1).draws d2)).mono ?_; rintro e w3 ⟨z, rfl, hz, d3⟩)
    go_wp2_with (go_at_call 59; refine (byte_can (((h.draws d1).draws d2).draws d3)).mono ?_; rintro e w4 ⟨u, rfl, hu, d4⟩)
    go_ret
    refine ⟨(x * 16777216 + y * 65536 + z * 256 + u) % m, ret_int ?_, Nat.mod_lt _ (by omega), ((d1.trans d2).trans d3).trans d4⟩
    rw [Int.natCast_emod]
    congr 1

theorem once_can {w : World} {c : Nat} {a : Option Addr} {n cap : Nat} (h : Can w c a n cap) (m : Nat) (hm : 1 ≤ m) (hm2 : m ≤ 1000000000) :
    Calls Tryz.prog 38 #[.pointer (some ⟨c, 0, none⟩), .int .i64 (m : Int)] w fun e w' => ∃ x : Bool, e = .returned (.bool x) ∧ Draws w w' c a n cap := by
  go_enter Tryz.func38, Tryz.ntmps38
  go_wp2_with (go_at_call 39; refine (below_can h m hm hm2).mono ?_; rintro e w1 ⟨x, rfl, hx, d1⟩)
  go_ret
  exact ⟨_, rfl, d1⟩

theorem Can.below {w w' : World} {c : Nat} {a : Option Addr} {n cap : Nat} (h : Can w c a n cap) (hb : Below (c + 1) w w') : Can w' c a n cap := by
  refine ⟨?_, ?_, h.small, h.lt⟩
  · rcases h.code with h' | ⟨b, off, rfl, h'⟩
    · exact .inl h'
    · refine .inr ⟨b, off, rfl, fun i hi => ?_⟩
      obtain ⟨x, hx, hc⟩ := h' i hi
      have := h.lt _ rfl (by omega)
      exact ⟨x, hx, (hb.cell (p := ⟨b, _, none⟩) (by show b < c + 1; simp at this; omega)).trans hc⟩
  · obtain ⟨i, g, hr, hi⟩ := h.cur
    exact ⟨i, g, hr.of_block (hb.block _ (by omega)), hi⟩

theorem below_of_grown {w w' : World} {c B : Nat} (h : w.grownBy w' (some c)) (hB : B ≤ c) (hs : B ≤ w.heap.size) : Below B w w' :=
  (Below.refl B w).grown h hs (fun k e => by cases e; exact hB)

/-- An append to a row that is new since w. -/
theorem grown_app {w wr wr' : World} {c : Nat} {e : TypeId} {size k : Nat} {v : Value} {xs : List Value} (h : w.grownBy wr (some c)) (ho : wr.ownsRow w.heap.size e size v k xs) (hg : wr.grownBy wr' v.ownBlock) : w.grownBy wr' (some c) :=
  ⟨hg.os.trans h.os, hg.tape.trans h.tape, hg.output.trans h.output, Nat.le_trans h.size hg.size, fun j hj hne => (hg.block j (Nat.lt_of_lt_of_le hj h.size) (fun e => by have := (ho.lt j e.symm).1; omega)).trans (h.block j hj hne)⟩
theorem grown_alloc {w wr : World} {c : Nat} (h : w.grownBy wr (some c)) (o : Obj) : w.grownBy (wr.alloc o) (some c) :=
  ⟨h.os, h.tape, h.output, by simp; have := h.size; omega, fun j hj hne => (Below.heap_alloc wr o j (Nat.lt_of_lt_of_le hj h.size)).trans (h.block j hj hne)⟩
/-- A row that is new since w is not the cursor. -/
theorem own_draws {wr wr' : World} {c : Nat} {a : Option Addr} {n cap : Nat} {e : TypeId} {size k B : Nat} {v : Value} {xs : List Value} (ho : wr.ownsRow B e size v k xs) (hB : c < B) (hd : Draws wr wr' c a n cap) : wr'.ownsRow B e size v k xs :=
  ho.kept hd.grown (.inr fun e => by have := (ho.lt c e).1; omega)

theorem info5 : (Tryz.prog.info? 5).map (fun i => (i.zero, i.size, i.bytes)) = some (some (.int .u8 0), 1, 1) := by kernel_rfl
theorem own_empty5 (w : World) (b : Nat) (hb : b ≤ w.heap.size) : (w.alloc (.cells #[] 5)).ownsRow b 5 1 (.slice (some ⟨w.heap.size, 0, none⟩) 0 0) 0 (byteCells []) := World.ownsRow_made w #[] 0 hb (by decide) rfl

theorem byte_cell (x : Nat) (hx : x < 256) : [Value.int .u8 (x : Int)] = byteCells [UInt8.ofNat x] := by
  have : (UInt8.ofNat x).toNat = x := by simp [UInt8.toNat_ofNat']; omega
  rw [byteCells_one, this]

end Go.Proofs.YtifgaaemdojmpaaGreatDoor.dr

namespace Go.Proofs.YtifgaaemdojmpaaGreatDoor.dr
open Go.ChangeShapes Go.WideShapes Go.ChangeAt Go.RowKit Go.Deep
set_option linter.unusedVariables false
set_option linter.unusedSimpArgs false

theorem can_app {w1 w2 : World} {c : Nat} {a : Option Addr} {n cap : Nat} {o : Obj} {B size k : Nat} {e : TypeId} {v : Value} {xs : List Value} (h : Can w1 c a n cap) (ho : (w1.alloc o).ownsRow B e size v k xs) (hB : c < B) (hw : B ≤ w1.heap.size) (hg : (w1.alloc o).grownBy w2 v.ownBlock) : Can w2 c a n cap :=
  h.below (((Below.refl (c + 1) w1).alloc (by omega) o).grown hg (by simp; omega) (fun k e => by have := (ho.lt k e).1; omega))

end Go.Proofs.YtifgaaemdojmpaaGreatDoor.dr

namespace Go.Proofs.YtifgaaemdojmpaaGreatDoor.dr
open Go.ChangeShapes Go.WideShapes Go.ChangeAt Go.RowKit Go.Deep
set_option linter.unusedVariables false
set_option linter.unusedSimpArgs false

/-- Between two draws: the cursor was the first block laid since w; a row of bytes of one's own lies behind it. -/
structure St (w wr : World) (a : Option Addr) (n cap : Nat) (v : Value) (k : Nat) : Prop where
  can : Can wr w.heap.size a n cap
  row : ∃ l : List UInt8, wr.ownsRow (w.heap.size + 1) 5 1 v k (byteCells l)
  bel : Below w.heap.size w wr
  sz : w.heap.size + 1 ≤ wr.heap.size

theorem new_can {w : World} {a : Option Addr} {n cap : Nat} (hb : CodeB w a n) (hn : n ≤ 1048576) (hlt : ∀ x, a = some x → 0 < n → x.block < w.heap.size) (h : Int) : Can (w.alloc (.cells #[.slice a n cap, .int .i64 0, .int .i64 h] 76)) w.heap.size a n cap := by
  refine ⟨hb.grown (World.grownBy_alloc w _ (some w.heap.size)) (fun x e h0 => Nat.ne_of_lt (hlt x e h0)), ⟨0, h, ?_, Nat.zero_le _⟩, hn, hlt⟩
  exact World.rowIs_alloc w _ _ _ (fun i hi => by
    match i, hi with
    | 0, _ => rfl
    | 1, _ => rfl
    | 2, _ => rfl)

theorem St.draws {w wr w' : World} {a : Option Addr} {n cap k : Nat} {v : Value} (h : St w wr a n cap v k) (d : Draws wr w' w.heap.size a n cap) : St w w' a n cap v k := by
  obtain ⟨l, hl⟩ := h.row
  have hs := d.grown.size
  exact ⟨h.can.draws d, ⟨l, own_draws hl (by omega) d⟩, h.bel.trans (below_of_grown d.grown (Nat.le_refl _) (by have := h.sz; omega)), by have := h.sz; omega⟩
theorem St.alloc {w wr : World} {a : Option Addr} {n cap k : Nat} {v : Value} (h : St w wr a n cap v k) (o : Obj) : St w (wr.alloc o) a n cap v k := by
  obtain ⟨l, hl⟩ := h.row
  exact ⟨h.can.below ((Below.refl _ wr).alloc h.sz _), ⟨l, hl.alloc _⟩, h.bel.alloc h.bel.size _, by simp; have := h.sz; omega⟩
theorem St.app {w wr w' : World} {a : Option Addr} {n cap k x : Nat} {v v' : Value} {o : Obj} {l : List UInt8} (h : St w wr a n cap v k) (hx : x < 256)
    (ho : wr.ownsRow (w.heap.size + 1) 5 1 v k (byteCells l)) (hown : w'.ownsRow (w.heap.size + 1) 5 1 v' (k + 1) (byteCells l ++ [.int .u8 (x : Int)])) (hg : (wr.alloc o).grownBy w' v.ownBlock) : St w w' a n cap v' (k + 1) := by
  have hs := h.sz
  have hs2 := hg.size
  simp at hs2
  refine ⟨can_app h.can (ho.alloc o) (by omega) h.sz hg, ⟨l ++ [UInt8.ofNat x], ?_⟩, ?_, by omega⟩
  · rw [byteCells_append, ← byte_cell x hx]; exact hown
  · exact (h.bel.alloc h.bel.size o).grown hg (by simp; omega) (fun j e => by have := ((ho.alloc o).lt j e).1; omega)

/-- 'b = append(b, byte)': the arm's premises, of a state. -/
theorem St.at {w wr : World} {a : Option Addr} {n cap k : Nat} {v : Value} (h : St w wr a n cap v k) : ∃ l : List UInt8, wr.ownsRow (w.heap.size + 1) 5 1 v k (byteCells l) := h.row

theorem st_start {w : World} {a : Option Addr} {n cap : Nat} (hb : CodeB w a n) (hn : n ≤ 1048576) (hlt : ∀ x, a = some x → 0 < n → x.block < w.heap.size) (h : Int) :
    St w ((w.alloc (.cells #[.slice a n cap, .int .i64 0, .int .i64 h] 76)).alloc (.cells #[] 5)) a n cap (.slice (some ⟨w.heap.size + 1, 0, none⟩) 0 0) 0 := by
  have h1 := own_empty5 (w.alloc (.cells #[.slice a n cap, .int .i64 0, .int .i64 h] 76)) (w.heap.size + 1) (by simp)
  rw [World.size_alloc] at h1
  exact ⟨(new_can hb hn hlt h).below ((Below.refl _ _).alloc (by simp) _), ⟨[], h1⟩, ((Below.refl _ w).alloc (Nat.le_refl _) _).alloc (by simp) _, by simp⟩

theorem one5 (x : Nat) : ∀ u ∈ [Value.int .u8 (x : Int)], u.oneCell' = true := fun u hu => by
  simp at hu
  subst hu
  rfl

/-- 'b = append(b, byte)', of a state. -/
theorem app_st {w wr : World} {a : Option Addr} {n cap k : Nat} {v : Value} {ops : Array Oper} {rest : List Oper} {o : Oper} {act : Act} {Q : Exit → Act → World → Prop} (hgd : o.guard = none) (s x : Operand)
    (ho : o.op = .call { callee := .builtin .append, args := #[s, x], argTypes := #[22, 22] }) (S : St w wr a n cap v k) (hs : act.eval s = v) (z : Int) (hx : act.eval x = .slice (some ⟨wr.heap.size, 0, none⟩) 1 1) (h0 : 0 ≤ z) (h1 : z < 256) (hk : k ≤ 1000000)
    (h : ∀ v' w', St w w' a n cap v' (k + 1) → wpList Tryz.prog ops Q rest (act.put o.dst v') w') : wpList Tryz.prog ops Q (o :: rest) act (wr.alloc (.cells #[.int .u8 z] 5)) := by
  obtain ⟨y, rfl⟩ : ∃ y : Nat, z = (y : Int) := ⟨z.toNat, by omega⟩
  obtain ⟨l, hl⟩ := S.row
  refine app_own _ hgd s x 22 ho (w.heap.size + 1) 5 (.int .u8 0) 1 Tryz.underlying22 info5 rfl v k (byteCells l) hs (hl.alloc _) ⟨wr.heap.size, 0, none⟩ 1 1 [.int .u8 (y : Int)] hx rfl (one_new _ _ _) (one5 y) (by unfold maxLen; omega) (by omega) (by have := S.sz; simp; omega) ?_
  intro v' w' hown hg
  exact h v' w' (S.app (by omega) hl hown hg)

theorem cell4 {w w' : World} {c x : Nat} (h : (w.alloc (.cells #[.int .u8 10, .int .u8 9, .int .u8 34, .int .u8 92] 5)).grownBy w' (some c)) (hc : c < w.heap.size) (hx : x < 4) : ∃ y : Nat, y < 256 ∧ w'.cell? ⟨w.heap.size, x, none⟩ = some (.int .u8 (y : Int)) := by
  have key : ∀ v, (w.alloc (.cells #[.int .u8 10, .int .u8 9, .int .u8 34, .int .u8 92] 5)).cell? ⟨w.heap.size, x, none⟩ = some v → w'.cell? ⟨w.heap.size, x, none⟩ = some v := fun v hv => h.cell hv (fun e => by have e2 := Option.some.inj e; simp at e2; omega)
  match x, hx with
  | 0, _ => exact ⟨10, by decide, key _ (by simp)⟩
  | 1, _ => exact ⟨9, by decide, key _ (by simp)⟩
  | 2, _ => exact ⟨34, by decide, key _ (by simp)⟩
  | 3, _ => exact ⟨92, by decide, key _ (by simp)⟩

theorem made4 (x : Nat) (hx : x < 2) (w : World) : (Instr.makeSlice 22 (.int .i64 (4000 + (x : Int))) (.int .i64 (4000 + (x : Int)))).run Tryz.prog w = .ok (.slice (some ⟨w.heap.size, 0, none⟩) (4000 + x) (4000 + x)) (w.alloc (.cells (madeCells #[.int .u8 0] (4000 + x)) 5)) := by
  have h := run_make_row' (P := Tryz.prog) 22 5 (.int .u8 0) 1 Tryz.underlying22 info5 rfl .i64 .i64 (4000 + x) (by omega) (by omega) w
  rw [Int.natCast_add] at h
  exact h

theorem a_step {w : World} {b n k : Nat} (h : w.rowIs b 5 n (fun j => .int .u8 (if j < k then 97 else 0))) :
    (w.setCell ⟨b, k, none⟩ (.int .u8 97)).rowIs b 5 n (fun j => .int .u8 (if j < k + 1 then 97 else 0)) :=
  (h.set k _).congr fun i hi => by
    by_cases h : i = k
    · simp [h]
    · have e : (i < k + 1) ↔ (i < k) := by omega
      simp [h, e]

theorem own_of_row {w : World} {b N : Nat} (h : w.rowIs b 5 N (fun _ => .int .u8 97)) (hN : N ≤ maxLen) : w.ownsRow 0 5 1 (.slice (some ⟨b, 0, none⟩) N N) N (byteCells (List.replicate N 97)) := by
  obtain ⟨c, hb, hc, hi⟩ := h
  refine ⟨by simp [byteCells], .inr ⟨b, N, c, rfl, Nat.zero_le _, hb, Nat.le_refl _, hN, by simpa using hc, ?_⟩⟩
  rw [Nat.mul_one, ← hc, ← Array.length_toList, List.take_length]
  apply List.ext_getElem?
  intro i
  rcases Nat.lt_or_ge i N with h | h
  · rw [Array.getElem?_toList, hi i h]
    simp [byteCells, hc, h]
  · rw [Array.getElem?_toList, Array.getElem?_eq_none (by omega)]
    simp [byteCells, hc]
    omega

end Go.Proofs.YtifgaaemdojmpaaGreatDoor.dr

namespace Go.Proofs.YtifgaaemdojmpaaGreatDoor.dr
open Go.ChangeShapes Go.WideShapes Go.ChangeAt Go.RowKit Go.Deep
set_option linter.unusedVariables false
set_option linter.unusedSimpArgs false

theorem size_app (a b : ByteArray) : (a ++ b).size = a.size + b.size := by simp
theorem size_one (b : UInt8) : (⟨#[b]⟩ : ByteArray).size = 1 := rfl

def dg (k : Nat) : UInt8 := UInt8.ofNat (48 + k % 10)
theorem digit_nat (k : Nat) : ((dg k).toNat : Int) = 48 + ((k % 10 : Nat) : Int) := by
  have : (48 + k % 10) % 256 = 48 + k % 10 := Nat.mod_eq_of_lt (by omega)
  simp [dg, UInt8.toNat_ofNat', this]

theorem digit_conv (k : Nat) (wr : World) (z : Int) (hz : z = 48 + ((k % 10 : Nat) : Int)) : (convert 22 9 (.slice (some ⟨wr.heap.size, 0, none⟩) 1 1)).run Tryz.prog (wr.alloc (.cells #[.int .u8 z] 5)) = .ok (.string ⟨[dg k].toArray⟩) (wr.alloc (.cells #[.int .u8 z] 5)) := by
  subst hz
  refine own_string (base := wr.heap.size) (n := 1) Tryz.underlying22 Tryz.underlying5 Tryz.underlying9 ?_
  rw [byteCells_one, digit_nat]
  exact ⟨rfl, .inr ⟨wr.heap.size, 1, #[.int .u8 (48 + ((k % 10 : Nat) : Int))], rfl, Nat.le_refl _, World.alloc_heap_new wr _, by decide, by decide, rfl, rfl⟩⟩

def strOk (v : Value) : Bool := match v with
  | .string y => decide (y.size ≤ 64)
  | _ => false
/-- A table of short texts. -/
def Tab (w : World) (b m : Nat) : Prop := ∀ x, x < m → ∃ y : ByteArray, y.size ≤ 64 ∧ w.cell? ⟨b, x, none⟩ = some (.string y)

theorem tab_new (w : World) (arr : Array Value) (m : Nat) (hm : m = arr.size) (hok : arr.all strOk = true) : Tab (w.alloc (.cells arr 9)) w.heap.size m := by
  subst hm
  intro x hx
  have h := (Array.all_eq_true.1 hok) x hx
  have hc := World.cell?_alloc_new w arr 9 x
  rw [Array.getElem?_eq_getElem hx] at hc
  generalize arr[x] = v at h hc
  cases v <;> simp [strOk] at h
  exact ⟨_, h, hc⟩

theorem Tab.draws {wr w' : World} {b m c : Nat} {a : Option Addr} {n cap : Nat} (h : Tab wr b m) (d : Draws wr w' c a n cap) (hb : b ≠ c) : Tab w' b m := fun x hx => by
  obtain ⟨y, hy, hc⟩ := h x hx
  exact ⟨y, hy, d.grown.cell hc (fun e => hb (by have := Option.some.inj e; simpa using this))⟩
theorem Tab.below {wr w' : World} {b m : Nat} (h : Tab wr b m) (hb : Below wr.heap.size wr w') : Tab w' b m := fun x hx => by
  obtain ⟨y, hy, hc⟩ := h x hx
  exact ⟨y, hy, (hb.cell (p := ⟨b, x, none⟩) (World.block_lt_of_cell? _ _ hc)).trans hc⟩
theorem Draws.alloc {w wr : World} {c : Nat} {a : Option Addr} {n cap : Nat} (h : Draws w wr c a n cap) (hc : Can w c a n cap) (hw : c < w.heap.size) (o : Obj) : Draws w (wr.alloc o) c a n cap := by
  have h1 := (hc.draws h).below ((Below.refl _ wr).alloc (by have := h.grown.size; omega) o)
  exact ⟨h1.code, h1.cur, grown_alloc h.grown o⟩
theorem Draws.below {w wr w' : World} {c : Nat} {a : Option Addr} {n cap : Nat} (h : Draws w wr c a n cap) (hc : Can w c a n cap) (hw : c < w.heap.size) (hb : Below wr.heap.size wr w') : Draws w w' c a n cap := by
  have h1 := (hc.draws h).below (hb.mono (by have := h.grown.size; omega))
  exact ⟨h1.code, h1.cur, ⟨hb.os.trans h.grown.os, hb.tape.trans h.grown.tape, hb.output.trans h.grown.output, Nat.le_trans h.grown.size hb.size, fun j hj hne => (hb.block j (Nat.lt_of_lt_of_le hj h.grown.size)).trans (h.grown.block j hj hne)⟩⟩

theorem signs_any (w : World) : Calls Tryz.prog 105 #[] w fun e w' => e = .returned (.slice (some ⟨w.heap.size, 0, none⟩) 29 29) ∧ Tab w' w.heap.size 29 ∧ Below w.heap.size w w' ∧ w'.heap.size = w.heap.size + 1 := by
  go_enter Tryz.func105, Tryz.ntmps105
  go_wp2
  go_ret
  exact ⟨rfl, tab_new w _ 29 rfl (by kernel_rfl), (Below.refl _ _).alloc (Nat.le_refl _) _, by simp⟩

end Go.Proofs.YtifgaaemdojmpaaGreatDoor.dr

namespace Go.Proofs.YtifgaaemdojmpaaGreatDoor.pr
open Go.ChangeShapes Go.WideShapes Go.ChangeAt Go.RowKit Go.Deep
open lx (Lx)
open ex (Tr Ex infoE)
open dr (Draws below_can once_can tab_new Tab)
set_option linter.unusedVariables false
set_option linter.unusedSimpArgs false

/-! ### What the specification draws: a text -/

section
variable {a : Option Addr} {n cap : Nat}
set_option maxRecDepth 100000 in
theorem name_can {w : World} {c : Nat} (h : dr.Can w c a n cap) (hcw : c < w.heap.size) :
    Calls Tryz.prog 58 #[.pointer (some ⟨c, 0, none⟩)] w fun e w' => ∃ s : ByteArray, e = .returned (.string s) ∧ s.size ≤ 64 ∧ Draws w w' c a n cap := by
  go_enter Tryz.func58, Tryz.ntmps58
  go_wp2_with (go_at_call 39; refine (below_can (h.draws (h.refl.alloc h hcw _)) 9 (by decide) (by decide)).mono ?_; rintro e w2 ⟨x, rfl, hx, d2⟩; have D2 := (h.refl.alloc h hcw _).trans d2; obtain ⟨y, hy, hcy⟩ := (tab_new w _ 9 rfl (by kernel_rfl)).draws d2 (by omega) x hx; clear d2; have hx' : (x : Int) < 9 := (by omega))
  go_ret
  exact ⟨y, rfl, hy, D2⟩
set_option maxRecDepth 100000 in
theorem dleaf {w : World} {c : Nat} (h : dr.Can w c a n cap) (hcw : c < w.heap.size) :
    Calls Tryz.prog 37 #[.pointer (some ⟨c, 0, none⟩), .int .i64 0] w fun e w' => ∃ s : ByteArray, e = .returned (.string s) ∧ s.size ≤ 64 ∧ Draws w w' c a n cap := by
  go_enter Tryz.func37, Tryz.ntmps37
  go_wp2_with (go_at_call 39; refine (below_can (h.draws (h.refl.alloc h hcw _)) 9 (by decide) (by decide)).mono ?_; rintro e w2 ⟨x, rfl, hx, d2⟩; have D2 := (h.refl.alloc h hcw _).trans d2; obtain ⟨y, hy, hcy⟩ := (tab_new w _ 9 rfl (by kernel_rfl)).draws d2 (by omega) x hx; clear d2; have hx' : (x : Int) < 9 := (by omega))
  go_ret
  exact ⟨y, rfl, hy, D2⟩
theorem pow4 (d : Nat) : 4 ^ (d + 1) = 4 * 4 ^ d ∧ 1 ≤ 4 ^ d := ⟨by rw [Nat.pow_succ]; omega, Nat.one_le_pow _ _ (by decide)⟩
theorem sz_cat (a b : ByteArray) : (a ++ b).size = a.size + b.size := by simp

set_option maxRecDepth 100000 in
set_option maxHeartbeats 16000000 in
theorem draw_can : ∀ d : Nat, d ≤ 4 → ∀ {w : World} {c : Nat}, dr.Can w c a n cap → c < w.heap.size → ∀ D : Int, (d : Int) = D →
    Calls Tryz.prog 37 #[.pointer (some ⟨c, 0, none⟩), .int .i64 D] w fun e w' => ∃ s : ByteArray, e = .returned (.string s) ∧ s.size ≤ 200 * 4 ^ d ∧ Draws w w' c a n cap := by
  intro d
  induction d with
  | zero =>
    intro _ w c hc hcw D hD
    subst hD
    refine (dleaf hc hcw).mono ?_
    rintro e w' ⟨s, h1, h2, h3⟩
    exact ⟨s, h1, by omega, h3⟩
  | succ d ih =>
    intro hd w c hc hcw D hD
    have h0 : ¬ D = 0 := by omega
    have hs1 : IntKind.i64.wrap (D - 1) = (d : Int) := by rw [IntKind.wrap_i64]; omega
    have hs2 : wrap64 (D - 1) = (d : Int) := by unfold wrap64; omega
    obtain ⟨X, hX⟩ : ∃ X, 4 ^ d = X := ⟨_, rfl⟩
    have hX4 : 4 ^ (d + 1) = 4 * X := by rw [← hX]; exact (pow4 d).1
    have hX1 : 1 ≤ X := by rw [← hX]; exact (pow4 d).2
    have hX2 : X ≤ 64 := by
      rw [← hX]
      have h9 : d ≤ 3 := by omega
      have : ∀ d, d ≤ 3 → 4 ^ d ≤ 64 := by decide
      exact this d h9
    have HIH : Hid (∀ {w : World}, dr.Can w c a n cap → c < w.heap.size → Calls Tryz.prog 37 #[.pointer (some ⟨c, 0, none⟩), .int .i64 (d : Int)] w fun e w' => ∃ s : ByteArray, e = .returned (.string s) ∧ s.size ≤ 200 * X ∧ Draws w w' c a n cap) := fun h1 h2 => by
      have := ih (by omega) h1 h2 _ rfl
      rw [hX] at this
      exact this
    rw [hX4]
    obtain ⟨E, hE⟩ : ∃ E, (d : Int) = E := ⟨_, rfl⟩
    rw [hE] at hs1 hs2 HIH
    have HX : Hid (1 ≤ X ∧ X ≤ 64) := ⟨hX1, hX2⟩
    clear hD ih hE hd hX hX4 hX1 hX2
    go_enter Tryz.func37, Tryz.ntmps37
    go_wp2_with (go_at_call 38; refine (once_can hc 6 (by decide) (by decide)).mono ?_; rintro e w1 ⟨b, rfl, d1⟩; refine Hid.out ?_)
    refine Lib.hid ?_
    have hcw1 : c < w1.heap.size := Nat.lt_of_lt_of_le hcw d1.grown.size
    have hc1 := hc.draws d1
    cases b with
    | true =>
      go_wp2_with (go_at_call 39; refine (below_can (hc1.draws (hc1.refl.alloc hc1 hcw1 _)) 9 (by decide) (by decide)).mono ?_; rintro e w2 ⟨x, rfl, hx, d2⟩; have D2 := d1.trans ((hc1.refl.alloc hc1 hcw1 _).trans d2); obtain ⟨y, hy, hcy⟩ := (tab_new w1 _ 9 rfl (by kernel_rfl)).draws d2 (by omega) x hx; clear d2; have hx' : (x : Int) < 9 := (by omega))
      go_ret
      exact ⟨y, rfl, by have := HX.out; omega, D2⟩
    | false =>
      have HD1 := Lib.hid d1
      clear d1
      go_wp2_with (go_at_call 37; refine (HIH.out hc1 hcw1).mono ?_; rintro e w2 ⟨p, rfl, hp, d2⟩; refine Hid.out ?_)
      refine Lib.hid ?_
      have hcw2 : c < w2.heap.size := Nat.lt_of_lt_of_le hcw1 d2.grown.size
      have hc2 := hc1.draws d2
      have HD2 := Lib.hid (HD1.out.trans d2)
      clear d2
      go_wp2_with (go_at_call 37; refine (HIH.out hc2 hcw2).mono ?_; rintro e w3 ⟨q, rfl, hq, d3⟩; refine Hid.out ?_)
      refine Lib.hid ?_
      have hcw3 : c < w3.heap.size := Nat.lt_of_lt_of_le hcw2 d3.grown.size
      have hc3 := hc2.draws d3
      have HD3 := Lib.hid (HD2.out.trans d3)
      clear d3
      go_wp2_with (go_at_call 58; refine (name_can hc3 hcw3).mono ?_; rintro e w4 ⟨n, rfl, hn, d4⟩; refine Hid.out ?_)
      refine Lib.hid ?_
      have hcw4 : c < w4.heap.size := Nat.lt_of_lt_of_le hcw3 d4.grown.size
      have hc4 := hc3.draws d4
      have HD4 := Lib.hid (HD3.out.trans d4)
      clear d4
      go_wp2_with (go_at_call 39; refine (below_can hc4 26 (by decide) (by decide)).mono ?_; rintro e w5 ⟨x, rfl, hx, d5⟩; refine Hid.out ?_)
      refine Lib.hid ?_
      have hcw5 : c < w5.heap.size := Nat.lt_of_lt_of_le hcw4 d5.grown.size
      have hc5 := hc4.draws d5
      have HD5 := Lib.hid (HD4.out.trans d5)
      have HP : Hid (p.size ≤ 200 * X ∧ q.size ≤ 200 * X ∧ n.size ≤ 64 ∧ 1 ≤ X ∧ X ≤ 64) := ⟨hp, hq, hn, HX.out⟩
      clear d5 hp hq hn HIH hs1 hs2 h0 hc hcw hc1 hcw1 hc2 hcw2 hc3 hcw3 hc4 hcw4 HD1 HD2 HD3 HD4 HX
      obtain hx0 | hx0 | hx0 | hx0 | hx0 | hx0 | hx0 | hx0 | hx0 | hx0 | hx0 | hx0 | hx0 | hx0 | hx0 | hx0 | hx0 | hx0 | hx0 | hx0 | hx0 | hx0 | hx0 | hx0 | hx0 | hx0 : x = 0 ∨ x = 1 ∨ x = 2 ∨ x = 3 ∨ x = 4 ∨ x = 5 ∨ x = 6 ∨ x = 7 ∨ x = 8 ∨ x = 9 ∨ x = 10 ∨ x = 11 ∨ x = 12 ∨ x = 13 ∨ x = 14 ∨ x = 15 ∨ x = 16 ∨ x = 17 ∨ x = 18 ∨ x = 19 ∨ x = 20 ∨ x = 21 ∨ x = 22 ∨ x = 23 ∨ x = 24 ∨ x = 25 := by omega

      · subst hx0
        obtain ⟨b1, b2, b3, b4, b5⟩ := HP.out
        have hz1 : ¬ 9223372036854775807 < 1 + p.size := by omega
        have hz2 : ¬ 9223372036854775807 < 1 + p.size + 2 := by omega
        have hz3 : ¬ 9223372036854775807 < 1 + p.size + 2 + q.size := by omega
        have hz4 : ¬ 9223372036854775807 < 1 + p.size + 2 + q.size + 2 := by omega
        have HF : Hid ((((((⟨#[91]⟩ ++ p : ByteArray) ++ ⟨#[32, 40]⟩ : ByteArray) ++ q : ByteArray) ++ ⟨#[41, 93]⟩ : ByteArray) : ByteArray).size ≤ 200 * (4 * X)) := by
          show _ ≤ _
          simp only [sz_cat, show (⟨#[91]⟩ : ByteArray).size = 1 from rfl, show (⟨#[32, 40]⟩ : ByteArray).size = 2 from rfl, show (⟨#[41, 93]⟩ : ByteArray).size = 2 from rfl]
          omega
        clear HP b1 b2 b3 b4 b5
        go_wp2
        go_ret
        exact ⟨_, rfl, HF.out, HD5.out⟩
      · subst hx0
        obtain ⟨b1, b2, b3, b4, b5⟩ := HP.out
        have hz1 : ¬ 9223372036854775807 < 2 + n.size := by omega
        have hz2 : ¬ 9223372036854775807 < 2 + n.size + 3 := by omega
        have hz3 : ¬ 9223372036854775807 < 2 + n.size + 3 + p.size := by omega
        have hz4 : ¬ 9223372036854775807 < 2 + n.size + 3 + p.size + 6 := by omega
        have hz5 : ¬ 9223372036854775807 < 2 + n.size + 3 + p.size + 6 + q.size := by omega
        have hz6 : ¬ 9223372036854775807 < 2 + n.size + 3 + p.size + 6 + q.size + 14 := by omega
        have HF : Hid ((((((((⟨#[123, 32]⟩ ++ n : ByteArray) ++ ⟨#[32, 61, 32]⟩ : ByteArray) ++ p : ByteArray) ++ ⟨#[59, 32, 122, 32, 61, 32]⟩ : ByteArray) ++ q : ByteArray) ++ ⟨#[59, 32, 105, 110, 104, 101, 114, 105, 116, 32, 97, 59, 32, 125]⟩ : ByteArray) : ByteArray).size ≤ 200 * (4 * X)) := by
          show _ ≤ _
          simp only [sz_cat, show (⟨#[123, 32]⟩ : ByteArray).size = 2 from rfl, show (⟨#[32, 61, 32]⟩ : ByteArray).size = 3 from rfl, show (⟨#[59, 32, 122, 32, 61, 32]⟩ : ByteArray).size = 6 from rfl, show (⟨#[59, 32, 105, 110, 104, 101, 114, 105, 116, 32, 97, 59, 32, 125]⟩ : ByteArray).size = 14 from rfl]
          omega
        clear HP b1 b2 b3 b4 b5
        go_wp2
        go_ret
        exact ⟨_, rfl, HF.out, HD5.out⟩
      · subst hx0
        obtain ⟨b1, b2, b3, b4, b5⟩ := HP.out
        have hz1 : ¬ 9223372036854775807 < 6 + n.size := by omega
        have hz2 : ¬ 9223372036854775807 < 6 + n.size + 3 := by omega
        have hz3 : ¬ 9223372036854775807 < 6 + n.size + 3 + p.size := by omega
        have hz4 : ¬ 9223372036854775807 < 6 + n.size + 3 + p.size + 6 := by omega
        have hz5 : ¬ 9223372036854775807 < 6 + n.size + 3 + p.size + 6 + n.size := by omega
        have hz6 : ¬ 9223372036854775807 < 6 + n.size + 3 + p.size + 6 + n.size + 3 := by omega
        have HF : Hid ((((((((⟨#[114, 101, 99, 32, 123, 32]⟩ ++ n : ByteArray) ++ ⟨#[32, 61, 32]⟩ : ByteArray) ++ p : ByteArray) ++ ⟨#[59, 32, 119, 32, 61, 32]⟩ : ByteArray) ++ n : ByteArray) ++ ⟨#[59, 32, 125]⟩ : ByteArray) : ByteArray).size ≤ 200 * (4 * X)) := by
          show _ ≤ _
          simp only [sz_cat, show (⟨#[114, 101, 99, 32, 123, 32]⟩ : ByteArray).size = 6 from rfl, show (⟨#[32, 61, 32]⟩ : ByteArray).size = 3 from rfl, show (⟨#[59, 32, 119, 32, 61, 32]⟩ : ByteArray).size = 6 from rfl, show (⟨#[59, 32, 125]⟩ : ByteArray).size = 3 from rfl]
          omega
        clear HP b1 b2 b3 b4 b5
        go_wp2
        go_ret
        exact ⟨_, rfl, HF.out, HD5.out⟩
      · subst hx0
        obtain ⟨b1, b2, b3, b4, b5⟩ := HP.out
        have hz1 : ¬ 9223372036854775807 < 4 + n.size := by omega
        have hz2 : ¬ 9223372036854775807 < 4 + n.size + 3 := by omega
        have hz3 : ¬ 9223372036854775807 < 4 + n.size + 3 + p.size := by omega
        have hz4 : ¬ 9223372036854775807 < 4 + n.size + 3 + p.size + 12 := by omega
        have hz5 : ¬ 9223372036854775807 < 4 + n.size + 3 + p.size + 12 + q.size := by omega
        have HF : Hid (((((((⟨#[108, 101, 116, 32]⟩ ++ n : ByteArray) ++ ⟨#[32, 61, 32]⟩ : ByteArray) ++ p : ByteArray) ++ ⟨#[59, 32, 107, 32, 61, 32, 50, 59, 32, 105, 110, 32]⟩ : ByteArray) ++ q : ByteArray) : ByteArray).size ≤ 200 * (4 * X)) := by
          show _ ≤ _
          simp only [sz_cat, show (⟨#[108, 101, 116, 32]⟩ : ByteArray).size = 4 from rfl, show (⟨#[32, 61, 32]⟩ : ByteArray).size = 3 from rfl, show (⟨#[59, 32, 107, 32, 61, 32, 50, 59, 32, 105, 110, 32]⟩ : ByteArray).size = 12 from rfl]
          omega
        clear HP b1 b2 b3 b4 b5
        go_wp2
        go_ret
        exact ⟨_, rfl, HF.out, HD5.out⟩
      · subst hx0
        obtain ⟨b1, b2, b3, b4, b5⟩ := HP.out
        have hz1 : ¬ 9223372036854775807 < 1 + n.size := by omega
        have hz2 : ¬ 9223372036854775807 < 1 + n.size + 2 := by omega
        have hz3 : ¬ 9223372036854775807 < 1 + n.size + 2 + p.size := by omega
        have hz4 : ¬ 9223372036854775807 < 1 + n.size + 2 + p.size + 3 := by omega
        have hz5 : ¬ 9223372036854775807 < 1 + n.size + 2 + p.size + 3 + q.size := by omega
        have hz6 : ¬ 9223372036854775807 < 1 + n.size + 2 + p.size + 3 + q.size + 1 := by omega
        have HF : Hid ((((((((⟨#[40]⟩ ++ n : ByteArray) ++ ⟨#[58, 32]⟩ : ByteArray) ++ p : ByteArray) ++ ⟨#[41, 32, 40]⟩ : ByteArray) ++ q : ByteArray) ++ ⟨#[41]⟩ : ByteArray) : ByteArray).size ≤ 200 * (4 * X)) := by
          show _ ≤ _
          simp only [sz_cat, show (⟨#[40]⟩ : ByteArray).size = 1 from rfl, show (⟨#[58, 32]⟩ : ByteArray).size = 2 from rfl, show (⟨#[41, 32, 40]⟩ : ByteArray).size = 3 from rfl, show (⟨#[41]⟩ : ByteArray).size = 1 from rfl]
          omega
        clear HP b1 b2 b3 b4 b5
        go_wp2
        go_ret
        exact ⟨_, rfl, HF.out, HD5.out⟩
      · subst hx0
        obtain ⟨b1, b2, b3, b4, b5⟩ := HP.out
        have hz1 : ¬ 9223372036854775807 < 2 + n.size := by omega
        have hz2 : ¬ 9223372036854775807 < 2 + n.size + 3 := by omega
        have hz3 : ¬ 9223372036854775807 < 2 + n.size + 3 + p.size := by omega
        have hz4 : ¬ 9223372036854775807 < 2 + n.size + 3 + p.size + 8 := by omega
        have hz5 : ¬ 9223372036854775807 < 2 + n.size + 3 + p.size + 8 + q.size := by omega
        have hz6 : ¬ 9223372036854775807 < 2 + n.size + 3 + p.size + 8 + q.size + 1 := by omega
        have HF : Hid ((((((((⟨#[40, 123]⟩ ++ n : ByteArray) ++ ⟨#[32, 63, 32]⟩ : ByteArray) ++ p : ByteArray) ++ ⟨#[44, 32, 46, 46, 46, 125, 58, 32]⟩ : ByteArray) ++ q : ByteArray) ++ ⟨#[41]⟩ : ByteArray) : ByteArray).size ≤ 200 * (4 * X)) := by
          show _ ≤ _
          simp only [sz_cat, show (⟨#[40, 123]⟩ : ByteArray).size = 2 from rfl, show (⟨#[32, 63, 32]⟩ : ByteArray).size = 3 from rfl, show (⟨#[44, 32, 46, 46, 46, 125, 58, 32]⟩ : ByteArray).size = 8 from rfl, show (⟨#[41]⟩ : ByteArray).size = 1 from rfl]
          omega
        clear HP b1 b2 b3 b4 b5
        go_wp2
        go_ret
        exact ⟨_, rfl, HF.out, HD5.out⟩
      · subst hx0
        obtain ⟨b1, b2, b3, b4, b5⟩ := HP.out
        have hz1 : ¬ 9223372036854775807 < 3 + p.size := by omega
        have hz2 : ¬ 9223372036854775807 < 3 + p.size + 4 := by omega
        have hz3 : ¬ 9223372036854775807 < 3 + p.size + 4 + q.size := by omega
        have hz4 : ¬ 9223372036854775807 < 3 + p.size + 4 + q.size + 13 := by omega
        have hz5 : ¬ 9223372036854775807 < 3 + p.size + 4 + q.size + 13 + q.size := by omega
        have HF : Hid (((((((⟨#[105, 102, 32]⟩ ++ p : ByteArray) ++ ⟨#[32, 61, 61, 32]⟩ : ByteArray) ++ q : ByteArray) ++ ⟨#[32, 116, 104, 101, 110, 32, 49, 32, 101, 108, 115, 101, 32]⟩ : ByteArray) ++ q : ByteArray) : ByteArray).size ≤ 200 * (4 * X)) := by
          show _ ≤ _
          simp only [sz_cat, show (⟨#[105, 102, 32]⟩ : ByteArray).size = 3 from rfl, show (⟨#[32, 61, 61, 32]⟩ : ByteArray).size = 4 from rfl, show (⟨#[32, 116, 104, 101, 110, 32, 49, 32, 101, 108, 115, 101, 32]⟩ : ByteArray).size = 13 from rfl]
          omega
        clear HP b1 b2 b3 b4 b5
        go_wp2
        go_ret
        exact ⟨_, rfl, HF.out, HD5.out⟩
      · subst hx0
        obtain ⟨b1, b2, b3, b4, b5⟩ := HP.out
        have hz1 : ¬ 9223372036854775807 < 1 + p.size := by omega
        have hz2 : ¬ 9223372036854775807 < 1 + p.size + 2 := by omega
        have hz3 : ¬ 9223372036854775807 < 1 + p.size + 2 + n.size := by omega
        have HF : Hid (((((⟨#[40]⟩ ++ p : ByteArray) ++ ⟨#[41, 46]⟩ : ByteArray) ++ n : ByteArray) : ByteArray).size ≤ 200 * (4 * X)) := by
          show _ ≤ _
          simp only [sz_cat, show (⟨#[40]⟩ : ByteArray).size = 1 from rfl, show (⟨#[41, 46]⟩ : ByteArray).size = 2 from rfl]
          omega
        clear HP b1 b2 b3 b4 b5
        go_wp2
        go_ret
        exact ⟨_, rfl, HF.out, HD5.out⟩
      · subst hx0
        obtain ⟨b1, b2, b3, b4, b5⟩ := HP.out
        have hz1 : ¬ 9223372036854775807 < 1 + p.size := by omega
        have hz2 : ¬ 9223372036854775807 < 1 + p.size + 2 := by omega
        have hz3 : ¬ 9223372036854775807 < 1 + p.size + 2 + n.size := by omega
        have hz4 : ¬ 9223372036854775807 < 1 + p.size + 2 + n.size + 5 := by omega
        have HF : Hid ((((((⟨#[40]⟩ ++ p : ByteArray) ++ ⟨#[41, 46]⟩ : ByteArray) ++ n : ByteArray) ++ ⟨#[32, 111, 114, 32, 51]⟩ : ByteArray) : ByteArray).size ≤ 200 * (4 * X)) := by
          show _ ≤ _
          simp only [sz_cat, show (⟨#[40]⟩ : ByteArray).size = 1 from rfl, show (⟨#[41, 46]⟩ : ByteArray).size = 2 from rfl, show (⟨#[32, 111, 114, 32, 51]⟩ : ByteArray).size = 5 from rfl]
          omega
        clear HP b1 b2 b3 b4 b5
        go_wp2
        go_ret
        exact ⟨_, rfl, HF.out, HD5.out⟩
      · subst hx0
        obtain ⟨b1, b2, b3, b4, b5⟩ := HP.out
        have hz1 : ¬ 9223372036854775807 < 1 + p.size := by omega
        have hz2 : ¬ 9223372036854775807 < 1 + p.size + 4 := by omega
        have hz3 : ¬ 9223372036854775807 < 1 + p.size + 4 + n.size := by omega
        have HF : Hid (((((⟨#[40]⟩ ++ p : ByteArray) ++ ⟨#[41, 32, 63, 32]⟩ : ByteArray) ++ n : ByteArray) : ByteArray).size ≤ 200 * (4 * X)) := by
          show _ ≤ _
          simp only [sz_cat, show (⟨#[40]⟩ : ByteArray).size = 1 from rfl, show (⟨#[41, 32, 63, 32]⟩ : ByteArray).size = 4 from rfl]
          omega
        clear HP b1 b2 b3 b4 b5
        go_wp2
        go_ret
        exact ⟨_, rfl, HF.out, HD5.out⟩
      · subst hx0
        obtain ⟨b1, b2, b3, b4, b5⟩ := HP.out
        have hz1 : ¬ 9223372036854775807 < 1 + p.size := by omega
        have hz2 : ¬ 9223372036854775807 < 1 + p.size + 2 := by omega
        go_wp2_with (go_at_call 39; refine (below_can (hc5.draws (hc5.refl.alloc hc5 hcw5 _)) 12 (by decide) (by decide)).mono ?_; rintro e w6 ⟨x6, rfl, hx6, d6⟩; have D6 := Lib.hid (HD5.out.trans ((hc5.refl.alloc hc5 hcw5 _).trans d6)); obtain ⟨y, hy, hcy⟩ := (tab_new w5 _ 12 rfl (by kernel_rfl)).draws d6 (by omega) x6 hx6; clear d6; have hx6' : (x6 : Int) < 12 := (by omega); have hz3 : ¬ 9223372036854775807 < 1 + p.size + 2 + y.size := (by omega); have hz4 : ¬ 9223372036854775807 < 1 + p.size + 2 + y.size + 2 := (by omega); have hz5 : ¬ 9223372036854775807 < 1 + p.size + 2 + y.size + 2 + q.size := (by omega); have hz6 : ¬ 9223372036854775807 < 1 + p.size + 2 + y.size + 2 + q.size + 1 := (by omega))
        go_ret
        exact ⟨_, rfl, by simp only [sz_cat, show (⟨#[40]⟩ : ByteArray).size = 1 from rfl, show (⟨#[41, 32]⟩ : ByteArray).size = 2 from rfl, show (⟨#[32, 40]⟩ : ByteArray).size = 2 from rfl, show (⟨#[41]⟩ : ByteArray).size = 1 from rfl]; omega, D6.out⟩
      · subst hx0
        obtain ⟨b1, b2, b3, b4, b5⟩ := HP.out
        have hz1 : ¬ 9223372036854775807 < 1 + p.size := by omega
        have hz2 : ¬ 9223372036854775807 < 1 + p.size + 2 := by omega
        go_wp2_with (go_at_call 39; refine (below_can (hc5.draws (hc5.refl.alloc hc5 hcw5 _)) 12 (by decide) (by decide)).mono ?_; rintro e w6 ⟨x6, rfl, hx6, d6⟩; have D6 := Lib.hid (HD5.out.trans ((hc5.refl.alloc hc5 hcw5 _).trans d6)); obtain ⟨y, hy, hcy⟩ := (tab_new w5 _ 12 rfl (by kernel_rfl)).draws d6 (by omega) x6 hx6; clear d6; have hx6' : (x6 : Int) < 12 := (by omega); have hz3 : ¬ 9223372036854775807 < 1 + p.size + 2 + y.size := (by omega); have hz4 : ¬ 9223372036854775807 < 1 + p.size + 2 + y.size + 2 := (by omega); have hz5 : ¬ 9223372036854775807 < 1 + p.size + 2 + y.size + 2 + q.size := (by omega); have hz6 : ¬ 9223372036854775807 < 1 + p.size + 2 + y.size + 2 + q.size + 1 := (by omega))
        go_ret
        exact ⟨_, rfl, by simp only [sz_cat, show (⟨#[40]⟩ : ByteArray).size = 1 from rfl, show (⟨#[41, 32]⟩ : ByteArray).size = 2 from rfl, show (⟨#[32, 40]⟩ : ByteArray).size = 2 from rfl, show (⟨#[41]⟩ : ByteArray).size = 1 from rfl]; omega, D6.out⟩
      · subst hx0
        obtain ⟨b1, b2, b3, b4, b5⟩ := HP.out
        have hz1 : ¬ 9223372036854775807 < 1 + p.size := by omega
        have hz2 : ¬ 9223372036854775807 < 1 + p.size + 2 := by omega
        go_wp2_with (go_at_call 39; refine (below_can (hc5.draws (hc5.refl.alloc hc5 hcw5 _)) 12 (by decide) (by decide)).mono ?_; rintro e w6 ⟨x6, rfl, hx6, d6⟩; have D6 := Lib.hid (HD5.out.trans ((hc5.refl.alloc hc5 hcw5 _).trans d6)); obtain ⟨y, hy, hcy⟩ := (tab_new w5 _ 12 rfl (by kernel_rfl)).draws d6 (by omega) x6 hx6; clear d6; have hx6' : (x6 : Int) < 12 := (by omega); have hz3 : ¬ 9223372036854775807 < 1 + p.size + 2 + y.size := (by omega); have hz4 : ¬ 9223372036854775807 < 1 + p.size + 2 + y.size + 2 := (by omega); have hz5 : ¬ 9223372036854775807 < 1 + p.size + 2 + y.size + 2 + q.size := (by omega); have hz6 : ¬ 9223372036854775807 < 1 + p.size + 2 + y.size + 2 + q.size + 1 := (by omega))
        go_ret
        exact ⟨_, rfl, by simp only [sz_cat, show (⟨#[40]⟩ : ByteArray).size = 1 from rfl, show (⟨#[41, 32]⟩ : ByteArray).size = 2 from rfl, show (⟨#[32, 40]⟩ : ByteArray).size = 2 from rfl, show (⟨#[41]⟩ : ByteArray).size = 1 from rfl]; omega, D6.out⟩
      · subst hx0
        obtain ⟨b1, b2, b3, b4, b5⟩ := HP.out
        have hz1 : ¬ 9223372036854775807 < p.size + 1 := by omega
        go_wp2_with (go_at_call 39; refine (below_can (hc5.draws (hc5.refl.alloc hc5 hcw5 _)) 12 (by decide) (by decide)).mono ?_; rintro e w6 ⟨x6, rfl, hx6, d6⟩; have D6 := Lib.hid (HD5.out.trans ((hc5.refl.alloc hc5 hcw5 _).trans d6)); obtain ⟨y, hy, hcy⟩ := (tab_new w5 _ 12 rfl (by kernel_rfl)).draws d6 (by omega) x6 hx6; clear d6; have hx6' : (x6 : Int) < 12 := (by omega); have hz2 : ¬ 9223372036854775807 < p.size + 1 + y.size := (by omega); have hz3 : ¬ 9223372036854775807 < p.size + 1 + y.size + 1 := (by omega); have hz4 : ¬ 9223372036854775807 < p.size + 1 + y.size + 1 + q.size := (by omega))
        go_ret
        exact ⟨_, rfl, by simp only [sz_cat, show (⟨#[32]⟩ : ByteArray).size = 1 from rfl]; omega, D6.out⟩
      · subst hx0
        obtain ⟨b1, b2, b3, b4, b5⟩ := HP.out
        have hz1 : ¬ 9223372036854775807 < 1 + p.size := by omega
        have hz2 : ¬ 9223372036854775807 < 1 + p.size + 4 := by omega
        have hz3 : ¬ 9223372036854775807 < 1 + p.size + 4 + q.size := by omega
        have HF : Hid (((((⟨#[45]⟩ ++ p : ByteArray) ++ ⟨#[32, 45, 32, 33]⟩ : ByteArray) ++ q : ByteArray) : ByteArray).size ≤ 200 * (4 * X)) := by
          show _ ≤ _
          simp only [sz_cat, show (⟨#[45]⟩ : ByteArray).size = 1 from rfl, show (⟨#[32, 45, 32, 33]⟩ : ByteArray).size = 4 from rfl]
          omega
        clear HP b1 b2 b3 b4 b5
        go_wp2
        go_ret
        exact ⟨_, rfl, HF.out, HD5.out⟩
      · subst hx0
        obtain ⟨b1, b2, b3, b4, b5⟩ := HP.out
        have hz1 : ¬ 9223372036854775807 < 7 + n.size := by omega
        have hz2 : ¬ 9223372036854775807 < 7 + n.size + 3 := by omega
        have hz3 : ¬ 9223372036854775807 < 7 + n.size + 3 + p.size := by omega
        have hz4 : ¬ 9223372036854775807 < 7 + n.size + 3 + p.size + 5 := by omega
        have hz5 : ¬ 9223372036854775807 < 7 + n.size + 3 + p.size + 5 + q.size := by omega
        have HF : Hid (((((((⟨#[119, 105, 116, 104, 32, 123, 32]⟩ ++ n : ByteArray) ++ ⟨#[32, 61, 32]⟩ : ByteArray) ++ p : ByteArray) ++ ⟨#[59, 32, 125, 59, 32]⟩ : ByteArray) ++ q : ByteArray) : ByteArray).size ≤ 200 * (4 * X)) := by
          show _ ≤ _
          simp only [sz_cat, show (⟨#[119, 105, 116, 104, 32, 123, 32]⟩ : ByteArray).size = 7 from rfl, show (⟨#[32, 61, 32]⟩ : ByteArray).size = 3 from rfl, show (⟨#[59, 32, 125, 59, 32]⟩ : ByteArray).size = 5 from rfl]
          omega
        clear HP b1 b2 b3 b4 b5
        go_wp2
        go_ret
        exact ⟨_, rfl, HF.out, HD5.out⟩
      · subst hx0
        obtain ⟨b1, b2, b3, b4, b5⟩ := HP.out
        have hz1 : ¬ 9223372036854775807 < 7 + p.size := by omega
        have hz2 : ¬ 9223372036854775807 < 7 + p.size + 2 := by omega
        have hz3 : ¬ 9223372036854775807 < 7 + p.size + 2 + q.size := by omega
        have HF : Hid (((((⟨#[97, 115, 115, 101, 114, 116, 32]⟩ ++ p : ByteArray) ++ ⟨#[59, 32]⟩ : ByteArray) ++ q : ByteArray) : ByteArray).size ≤ 200 * (4 * X)) := by
          show _ ≤ _
          simp only [sz_cat, show (⟨#[97, 115, 115, 101, 114, 116, 32]⟩ : ByteArray).size = 7 from rfl, show (⟨#[59, 32]⟩ : ByteArray).size = 2 from rfl]
          omega
        clear HP b1 b2 b3 b4 b5
        go_wp2
        go_ret
        exact ⟨_, rfl, HF.out, HD5.out⟩
      · subst hx0
        obtain ⟨b1, b2, b3, b4, b5⟩ := HP.out
        have hz1 : ¬ 9223372036854775807 < 5 + n.size := by omega
        have hz2 : ¬ 9223372036854775807 < 5 + n.size + 1 := by omega
        have HF : Hid ((((⟨#[102, 32, 120, 32, 91]⟩ ++ n : ByteArray) ++ ⟨#[93]⟩ : ByteArray) : ByteArray).size ≤ 200 * (4 * X)) := by
          show _ ≤ _
          simp only [sz_cat, show (⟨#[102, 32, 120, 32, 91]⟩ : ByteArray).size = 5 from rfl, show (⟨#[93]⟩ : ByteArray).size = 1 from rfl]
          omega
        clear HP b1 b2 b3 b4 b5
        go_wp2
        go_ret
        exact ⟨_, rfl, HF.out, HD5.out⟩
      · subst hx0
        obtain ⟨b1, b2, b3, b4, b5⟩ := HP.out
        have hz1 : ¬ 9223372036854775807 < 1 + n.size := by omega
        have hz2 : ¬ 9223372036854775807 < 1 + n.size + 6 := by omega
        have hz3 : ¬ 9223372036854775807 < 1 + n.size + 6 + p.size := by omega
        have HF : Hid (((((⟨#[123]⟩ ++ n : ByteArray) ++ ⟨#[44, 32, 98, 125, 58, 32]⟩ : ByteArray) ++ p : ByteArray) : ByteArray).size ≤ 200 * (4 * X)) := by
          show _ ≤ _
          simp only [sz_cat, show (⟨#[123]⟩ : ByteArray).size = 1 from rfl, show (⟨#[44, 32, 98, 125, 58, 32]⟩ : ByteArray).size = 6 from rfl]
          omega
        clear HP b1 b2 b3 b4 b5
        go_wp2
        go_ret
        exact ⟨_, rfl, HF.out, HD5.out⟩
      · subst hx0
        obtain ⟨b1, b2, b3, b4, b5⟩ := HP.out
        have hz1 : ¬ 9223372036854775807 < n.size + 2 := by omega
        have hz2 : ¬ 9223372036854775807 < n.size + 2 + p.size := by omega
        have HF : Hid ((((n ++ ⟨#[58, 32]⟩ : ByteArray) ++ p : ByteArray) : ByteArray).size ≤ 200 * (4 * X)) := by
          show _ ≤ _
          simp only [sz_cat, show (⟨#[58, 32]⟩ : ByteArray).size = 2 from rfl]
          omega
        clear HP b1 b2 b3 b4 b5
        go_wp2
        go_ret
        exact ⟨_, rfl, HF.out, HD5.out⟩
      · subst hx0
        obtain ⟨b1, b2, b3, b4, b5⟩ := HP.out
        have hz1 : ¬ 9223372036854775807 < 1 + p.size := by omega
        have hz2 : ¬ 9223372036854775807 < 1 + p.size + 1 := by omega
        have HF : Hid ((((⟨#[40]⟩ ++ p : ByteArray) ++ ⟨#[41]⟩ : ByteArray) : ByteArray).size ≤ 200 * (4 * X)) := by
          show _ ≤ _
          simp only [sz_cat, show (⟨#[40]⟩ : ByteArray).size = 1 from rfl, show (⟨#[41]⟩ : ByteArray).size = 1 from rfl]
          omega
        clear HP b1 b2 b3 b4 b5
        go_wp2
        go_ret
        exact ⟨_, rfl, HF.out, HD5.out⟩
      · subst hx0
        obtain ⟨b1, b2, b3, b4, b5⟩ := HP.out
        have hz1 : ¬ 9223372036854775807 < 1 + p.size := by omega
        have hz2 : ¬ 9223372036854775807 < 1 + p.size + 1 := by omega
        have HF : Hid ((((⟨#[40]⟩ ++ p : ByteArray) ++ ⟨#[41]⟩ : ByteArray) : ByteArray).size ≤ 200 * (4 * X)) := by
          show _ ≤ _
          simp only [sz_cat, show (⟨#[40]⟩ : ByteArray).size = 1 from rfl, show (⟨#[41]⟩ : ByteArray).size = 1 from rfl]
          omega
        clear HP b1 b2 b3 b4 b5
        go_wp2
        go_ret
        exact ⟨_, rfl, HF.out, HD5.out⟩
      · subst hx0
        obtain ⟨b1, b2, b3, b4, b5⟩ := HP.out
        have hz1 : ¬ 9223372036854775807 < 1 + p.size := by omega
        have hz2 : ¬ 9223372036854775807 < 1 + p.size + 1 := by omega
        have HF : Hid ((((⟨#[40]⟩ ++ p : ByteArray) ++ ⟨#[41]⟩ : ByteArray) : ByteArray).size ≤ 200 * (4 * X)) := by
          show _ ≤ _
          simp only [sz_cat, show (⟨#[40]⟩ : ByteArray).size = 1 from rfl, show (⟨#[41]⟩ : ByteArray).size = 1 from rfl]
          omega
        clear HP b1 b2 b3 b4 b5
        go_wp2
        go_ret
        exact ⟨_, rfl, HF.out, HD5.out⟩
      · subst hx0
        obtain ⟨b1, b2, b3, b4, b5⟩ := HP.out
        have hz1 : ¬ 9223372036854775807 < 1 + p.size := by omega
        have hz2 : ¬ 9223372036854775807 < 1 + p.size + 1 := by omega
        have HF : Hid ((((⟨#[40]⟩ ++ p : ByteArray) ++ ⟨#[41]⟩ : ByteArray) : ByteArray).size ≤ 200 * (4 * X)) := by
          show _ ≤ _
          simp only [sz_cat, show (⟨#[40]⟩ : ByteArray).size = 1 from rfl, show (⟨#[41]⟩ : ByteArray).size = 1 from rfl]
          omega
        clear HP b1 b2 b3 b4 b5
        go_wp2
        go_ret
        exact ⟨_, rfl, HF.out, HD5.out⟩
      · subst hx0
        obtain ⟨b1, b2, b3, b4, b5⟩ := HP.out
        have hz1 : ¬ 9223372036854775807 < 1 + p.size := by omega
        have hz2 : ¬ 9223372036854775807 < 1 + p.size + 1 := by omega
        have HF : Hid ((((⟨#[40]⟩ ++ p : ByteArray) ++ ⟨#[41]⟩ : ByteArray) : ByteArray).size ≤ 200 * (4 * X)) := by
          show _ ≤ _
          simp only [sz_cat, show (⟨#[40]⟩ : ByteArray).size = 1 from rfl, show (⟨#[41]⟩ : ByteArray).size = 1 from rfl]
          omega
        clear HP b1 b2 b3 b4 b5
        go_wp2
        go_ret
        exact ⟨_, rfl, HF.out, HD5.out⟩
      · subst hx0
        obtain ⟨b1, b2, b3, b4, b5⟩ := HP.out
        have hz1 : ¬ 9223372036854775807 < 1 + p.size := by omega
        have hz2 : ¬ 9223372036854775807 < 1 + p.size + 1 := by omega
        have HF : Hid ((((⟨#[40]⟩ ++ p : ByteArray) ++ ⟨#[41]⟩ : ByteArray) : ByteArray).size ≤ 200 * (4 * X)) := by
          show _ ≤ _
          simp only [sz_cat, show (⟨#[40]⟩ : ByteArray).size = 1 from rfl, show (⟨#[41]⟩ : ByteArray).size = 1 from rfl]
          omega
        clear HP b1 b2 b3 b4 b5
        go_wp2
        go_ret
        exact ⟨_, rfl, HF.out, HD5.out⟩
end
end Go.Proofs.YtifgaaemdojmpaaGreatDoor.pr
