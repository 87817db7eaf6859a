import Derived.Test.YtajpfidgepebgaaRows
import Derived.Test.YtajpfidgepebgaaG01
import Derived.Deep.QuietTactic
import Derived.BigQuiet
import Derived.Deep.RegionWith
import Derived.Lib.Hide
import Derived.Laws.Bits128
import Derived.RangeFuncBox
import Derived.Test.YtajpfidgepebgaaG04
import Derived.Test.YtajpfidgepebgaaG05
import Derived.Maps.AppendAt
namespace Go.Proofs.Ytajpfidgepebgaa.dr
open Go.ChangeShapes Go.WideShapes Go.ChangeAt Go.RowKit Go.Deep
set_option linter.unusedVariables false
set_option linter.unusedSimpArgs false

/-- The bytes that are drawn from can be read. -/
def CodeB (w : World) (a : Option Addr) (n : Nat) : Prop :=
  n = 0 ∨ ∃ b off, a = some ⟨b, off, none⟩ ∧ ∀ i, i < n → ∃ x : Nat, x < 256 ∧ w.cell? ⟨b, off + i, none⟩ = some (.int .u8 (x : Int))

/-- The cursor. -/
def CurC (a : Option Addr) (n cap i : Nat) (h : Int) (j : Nat) : Value := if j = 0 then .slice a n cap else if j = 1 then .int .i64 (i : Int) else .int .i64 h

set_option maxHeartbeats 1000000 in
theorem new_any (a : Option Addr) (n cap : Nat) (w : World) (hb : CodeB w a n) (hn : n ≤ 1048576) :
    Calls Try.prog 13 #[.slice a n cap] w fun e w' => e = .returned (.pointer (some ⟨w.heap.size, 0, none⟩)) ∧ ∃ h : Int, w' = w.alloc (.cells #[.slice a n cap, .int .i64 0, .int .i64 h] 56) := by
  go_enter Try.func13, Try.ntmps13
  go_wp2
  go_loop [3, 4] (fun x i => ∃ (k : Nat) (h : Int), k ≤ n ∧ i = .int .i64 k ∧ x = .int .i64 h) (fun _ i => n - (intOf i).toNat)
  case atStart => exact ⟨0, _, Nat.zero_le _, rfl, rfl⟩
  case round =>
    obtain ⟨k, h, hk, rfl, rfl⟩ := hrel
    by_cases hlt : k < n
    · rcases hb with rfl | ⟨b, off, rfl, hc⟩
      · omega
      obtain ⟨x, hx, hck⟩ := hc k hlt
      have hlt' : (k : Int) < (n : Int) := by omega
      go_wp2
      go_round
      case rel => exact ⟨k + 1, _, by omega, by go_num, rfl⟩
      case measure => simp [intOf]; omega
    · have hlt' : ¬ (k : Int) < (n : Int) := by omega
      go_wp2
      go_ret
      exact ⟨rfl, _, rfl⟩

theorem i64_and255 (n : Int) : bits .and .i64 n 255 = n % 256 := by
  have h255 : (BitVec.ofInt 64 255).toNat = 2 ^ 8 - 1 := by decide
  have key : (BitVec.ofInt 64 n &&& BitVec.ofInt 64 255).toNat = (n % ((2 ^ 64 : Nat) : Int)).toNat % 2 ^ 8 := by
    rw [BitVec.toNat_and, BitVec.toNat_ofInt, h255, Nat.and_two_pow_sub_one_eq_mod]
  show IntKind.i64.wrap ((BitVec.ofInt 64 n &&& BitVec.ofInt 64 255).toNat : Nat) = n % 256
  rw [key, IntKind.wrap_i64]
  omega

def Cur (w : World) (c : Nat) (a : Option Addr) (n cap : Nat) : Prop := ∃ (i : Nat) (h : Int), w.rowIs c 56 3 (CurC a n cap i h) ∧ i ≤ n

theorem grown_set (W : World) (b o : Nat) (v : Value) : W.grownBy (W.setCell ⟨b, o, none⟩ v) (some b) :=
  ⟨rfl, rfl, rfl, by simp, fun k _ hk => blk_setCell_other _ _ _ _ (fun e => hk (by rw [e]))⟩
theorem grown_trans {A B C : World} {c : Nat} (h : A.grownBy B (some c)) (k : B.grownBy C (some c)) : A.grownBy C (some c) :=
  ⟨k.os.trans h.os, k.tape.trans h.tape, k.output.trans h.output, Nat.le_trans h.size k.size, fun j hj hne => (k.block j (Nat.lt_of_lt_of_le hj h.size) hne).trans (h.block j hj hne)⟩
theorem grown_refl (A : World) (c : Nat) : A.grownBy A (some c) := ⟨rfl, rfl, rfl, Nat.le_refl _, fun _ _ _ => rfl⟩
theorem grown_drewN {A B : World} {c q : Nat} (h : A.grownBy B (some c)) : A.grownBy (B.drewN q) (some c) := ⟨h.os, h.tape, h.output, h.size, h.block⟩

theorem row_drewN {w : World} {b n : Nat} {t : TypeId} {f : Nat → Value} (h : w.rowIs b t n f) (q : Nat) : (w.drewN q).rowIs b t n f := h

theorem byte_fin {v : Int} {e : Ending} {w w' : World} {c n cap : Nat} {a : Option Addr} (he : e = .returned (.int .i64 (bits .and .i64 v 255))) (hc : Cur w' c a n cap) (hg : w.grownBy w' (some c)) :
    ∃ x : Nat, e = .returned (.int .i64 (x : Int)) ∧ x < 256 ∧ Cur w' c a n cap ∧ w.grownBy w' (some c) := by
  refine ⟨(v % 256).toNat, ?_, by omega, hc, hg⟩
  rw [he, i64_and255]
  congr 2
  omega

theorem cur_set2 {w : World} {c n cap i : Nat} {a : Option Addr} {h : Int} (hr : w.rowIs c 56 3 (CurC a n cap i h)) (h' : Int) : (w.setCell ⟨c, 2, none⟩ (.int .i64 h')).rowIs c 56 3 (CurC a n cap i h') :=
  (hr.set 2 _).congr fun j hj => by
    match j, hj with
    | 0, _ => rfl
    | 1, _ => rfl
    | 2, _ => rfl
theorem cur_set1 {w : World} {c n cap i : Nat} {a : Option Addr} {h : Int} (hr : w.rowIs c 56 3 (CurC a n cap i h)) {v : Int} (e : v = ((i + 1 : Nat) : Int)) : (w.setCell ⟨c, 1, none⟩ (.int .i64 v)).rowIs c 56 3 (CurC a n cap (i + 1) h) :=
  (hr.set 1 _).congr fun j hj => by
    match j, hj with
    | 0, _ => rfl
    | 1, _ => subst e; rfl
    | 2, _ => rfl

set_option maxHeartbeats 1000000 in
theorem byte_any (a : Option Addr) (n cap c : Nat) (w : World) (hb : CodeB w a n) (hc : Cur w c a n cap) (hn : n ≤ 1048576) (hne : ∀ x, a = some x → 0 < n → x.block ≠ c) :
    Calls Try.prog 30 #[.pointer (some ⟨c, 0, none⟩)] w fun e w' => ∃ x : Nat, e = .returned (.int .i64 (x : Int)) ∧ x < 256 ∧ Cur w' c a n cap ∧ w.grownBy w' (some c) := by
  obtain ⟨i, h, hr, hi⟩ := hc
  have g0 : w.cell? ⟨c, 0, none⟩ = some (.slice a n cap) := hr.cell (i := 0) (by decide)
  have g1 : w.cell? ⟨c, 1, none⟩ = some (.int .i64 (i : Int)) := hr.cell (i := 1) (by decide)
  have g2 : w.cell? ⟨c, 2, none⟩ = some (.int .i64 h) := hr.cell (i := 2) (by decide)
  have f1 := hr.frozen 1
  have f2 := hr.frozen 2
  by_cases hlt : i < n
  · have hlt' : (i : Int) < (n : Int) := by omega
    rcases hb with rfl | ⟨b, off, rfl, hcc⟩
    · omega
    obtain ⟨x, hx, hck⟩ := hcc i hlt
    have hbc : b ≠ c := hne _ rfl (by omega)
    go_enter Try.func30, Try.ntmps30
    go_wp2
    go_quiet (fail)
    go_wp2
    go_quiet (fail)
    go_wp2
    go_quiet (fail)
    go_wp2
    go_ret
    exact byte_fin rfl ⟨i + 1, _, cur_set1 (row_drewN (cur_set2 hr _) _) (by omega), hlt⟩ (grown_trans (grown_drewN (grown_set _ _ _ _)) (grown_set _ _ _ _))
  · have hlt' : ¬ (i : Int) < (n : Int) := by omega
    go_enter Try.func30, Try.ntmps30
    go_wp2
    go_quiet (fail)
    go_wp2
    go_quiet (fail)
    go_wp2
    go_ret
    exact byte_fin rfl ⟨i, _, row_drewN (row_drewN (cur_set2 hr _) _) _, hi⟩ (grown_drewN (grown_drewN (grown_set _ _ _ _)))

theorem CodeB.grown {w w' : World} {a : Option Addr} {n c : Nat} (h : CodeB w a n) (hg : w.grownBy w' (some c)) (hne : ∀ x, a = some x → 0 < n → x.block ≠ c) : CodeB w' a n := by
  rcases h with h | ⟨b, off, rfl, h⟩
  · exact .inl h
  · exact .inr ⟨b, off, rfl, fun i hi => by
      obtain ⟨x, hx, hc⟩ := h i hi
      exact ⟨x, hx, hg.cell hc (fun e => hne _ rfl (by omega) (by cases e; rfl))⟩⟩

/-- What a draw leaves. -/
structure Draws (w w' : World) (c : Nat) (a : Option Addr) (n cap : Nat) : Prop where
  code : CodeB w' a n
  cur : Cur w' c a n cap
  grown : w.grownBy w' (some c)

/-- What a draw asks. -/
structure Can (w : World) (c : Nat) (a : Option Addr) (n cap : Nat) : Prop where
  code : CodeB w a n
  cur : Cur w c a n cap
  small : n ≤ 1048576
  lt : ∀ x, a = some x → 0 < n → x.block < c

theorem Can.ne {w : World} {c : Nat} {a : Option Addr} {n cap : Nat} (h : Can w c a n cap) : ∀ x, a = some x → 0 < n → x.block ≠ c := fun x e h0 => Nat.ne_of_lt (h.lt x e h0)
theorem Can.draws {w w' : World} {c : Nat} {a : Option Addr} {n cap : Nat} (h : Can w c a n cap) (k : Draws w w' c a n cap) : Can w' c a n cap := ⟨k.code, k.cur, h.small, h.lt⟩
theorem Draws.trans {A B C : World} {c : Nat} {a : Option Addr} {n cap : Nat} (h : Draws A B c a n cap) (k : Draws B C c a n cap) : Draws A C c a n cap := ⟨k.code, k.cur, grown_trans h.grown k.grown⟩
theorem Can.refl {w : World} {c : Nat} {a : Option Addr} {n cap : Nat} (h : Can w c a n cap) : Draws w w c a n cap := ⟨h.code, h.cur, grown_refl _ _⟩

theorem byte_can {w : World} {c : Nat} {a : Option Addr} {n cap : Nat} (h : Can w c a n cap) :
    Calls Try.prog 30 #[.pointer (some ⟨c, 0, none⟩)] w fun e w' => ∃ x : Nat, e = .returned (.int .i64 (x : Int)) ∧ x < 256 ∧ Draws w w' c a n cap :=
  (byte_any a n cap c w h.code h.cur h.small h.ne).mono fun e w' ⟨x, he, hx, hc, hg⟩ => ⟨x, he, hx, h.code.grown hg h.ne, hc, hg⟩

set_option maxHeartbeats 1000000 in
theorem below_can {w : World} {c : Nat} {a : Option Addr} {n cap : Nat} (h : Can w c a n cap) (m : Nat) (hm : 1 ≤ m) (hm2 : m ≤ 1000000000) :
    Calls Try.prog 16 #[.pointer (some ⟨c, 0, none⟩), .int .i64 (m : Int)] w fun e w' => ∃ x : Nat, e = .returned (.int .i64 (x : Int)) ∧ x < m ∧ Draws w w' c a n cap := by
  have h0 : ¬ (m : Int) ≤ 0 := by omega
  by_cases hs : m ≤ 256
  · have hs' : (m : Int) ≤ 256 := by omega
    go_enter Try.func16, Try.ntmps16
    go_wp2_with (go_at_call 30; refine (byte_can h).mono ?_; rintro e w1 ⟨x, rfl, hx, d1⟩)
    go_ret
    exact ⟨x % m, ret_int (Int.natCast_emod x m).symm, Nat.mod_lt _ (by omega), d1⟩
  · have hs' : ¬ (m : Int) ≤ 256 := by omega
    go_enter Try.func16, Try.ntmps16
    go_wp2_with (go_at_call 30; refine (byte_can h).mono ?_; rintro e w1 ⟨x, rfl, hx, d1⟩)
    go_wp2_with (go_at_call 30; refine (byte_can (h.draws d1)).mono ?_; rintro e w2 ⟨y, rfl, hy, d2⟩)
    go_wp2_with (go_at_call 30; refine (byte_can ((h.draws d1).draws d2)).mono ?_; rintro e w3 ⟨z, rfl, hz, d3⟩)
    go_wp2_with (go_at_call 30; refine (byte_can (((h.draws d1).draws d2).draws d3)).mono ?_; rintro e w4 ⟨u, rfl, hu, d4⟩)
    go_ret
    refine ⟨(x * 16777216 + y * 65536 + z * 256 + u) % m, ret_int ?_, Nat.mod_lt _ (by omega), ((d1.trans d2).trans d3).trans d4⟩
    rw [Int.natCast_emod]
    congr 1

theorem once_can {w : World} {c : Nat} {a : Option Addr} {n cap : Nat} (h : Can w c a n cap) (m : Nat) (hm : 1 ≤ m) (hm2 : m ≤ 1000000000) :
    Calls Try.prog 15 #[.pointer (some ⟨c, 0, none⟩), .int .i64 (m : Int)] w fun e w' => ∃ x : Bool, e = .returned (.bool x) ∧ Draws w w' c a n cap := by
  go_enter Try.func15, Try.ntmps15
  go_wp2_with (go_at_call 16; refine (below_can h m hm hm2).mono ?_; rintro e w1 ⟨x, rfl, hx, d1⟩)
  go_ret
  exact ⟨_, rfl, d1⟩

theorem Can.below {w w' : World} {c : Nat} {a : Option Addr} {n cap : Nat} (h : Can w c a n cap) (hb : Below (c + 1) w w') : Can w' c a n cap := by
  refine ⟨?_, ?_, h.small, h.lt⟩
  · rcases h.code with h' | ⟨b, off, rfl, h'⟩
    · exact .inl h'
    · refine .inr ⟨b, off, rfl, fun i hi => ?_⟩
      obtain ⟨x, hx, hc⟩ := h' i hi
      have := h.lt _ rfl (by omega)
      exact ⟨x, hx, (hb.cell (p := ⟨b, _, none⟩) (by show b < c + 1; simp at this; omega)).trans hc⟩
  · obtain ⟨i, g, hr, hi⟩ := h.cur
    exact ⟨i, g, hr.of_block (hb.block _ (by omega)), hi⟩

theorem below_of_grown {w w' : World} {c B : Nat} (h : w.grownBy w' (some c)) (hB : B ≤ c) (hs : B ≤ w.heap.size) : Below B w w' :=
  (Below.refl B w).grown h hs (fun k e => by cases e; exact hB)

/-- An append to a row that is new since w. -/
theorem grown_app {w wr wr' : World} {c : Nat} {e : TypeId} {size k : Nat} {v : Value} {xs : List Value} (h : w.grownBy wr (some c)) (ho : wr.ownsRow w.heap.size e size v k xs) (hg : wr.grownBy wr' v.ownBlock) : w.grownBy wr' (some c) :=
  ⟨hg.os.trans h.os, hg.tape.trans h.tape, hg.output.trans h.output, Nat.le_trans h.size hg.size, fun j hj hne => (hg.block j (Nat.lt_of_lt_of_le hj h.size) (fun e => by have := (ho.lt j e.symm).1; omega)).trans (h.block j hj hne)⟩
theorem grown_alloc {w wr : World} {c : Nat} (h : w.grownBy wr (some c)) (o : Obj) : w.grownBy (wr.alloc o) (some c) :=
  ⟨h.os, h.tape, h.output, by simp; have := h.size; omega, fun j hj hne => (Below.heap_alloc wr o j (Nat.lt_of_lt_of_le hj h.size)).trans (h.block j hj hne)⟩
/-- A row that is new since w is not the cursor. -/
theorem own_draws {wr wr' : World} {c : Nat} {a : Option Addr} {n cap : Nat} {e : TypeId} {size k B : Nat} {v : Value} {xs : List Value} (ho : wr.ownsRow B e size v k xs) (hB : c < B) (hd : Draws wr wr' c a n cap) : wr'.ownsRow B e size v k xs :=
  ho.kept hd.grown (.inr fun e => by have := (ho.lt c e).1; omega)

theorem info5 : (Try.prog.info? 5).map (fun i => (i.zero, i.size, i.bytes)) = some (some (.int .u8 0), 1, 1) := by kernel_rfl
theorem own_empty5 (w : World) (b : Nat) (hb : b ≤ w.heap.size) : (w.alloc (.cells #[] 5)).ownsRow b 5 1 (.slice (some ⟨w.heap.size, 0, none⟩) 0 0) 0 (byteCells []) := World.ownsRow_made w #[] 0 hb (by decide) rfl

theorem byte_cell (x : Nat) (hx : x < 256) : [Value.int .u8 (x : Int)] = byteCells [UInt8.ofNat x] := by
  have : (UInt8.ofNat x).toNat = x := by simp [UInt8.toNat_ofNat']; omega
  rw [byteCells_one, this]

end Go.Proofs.Ytajpfidgepebgaa.dr

namespace Go.Proofs.Ytajpfidgepebgaa.dr
open Go.ChangeShapes Go.WideShapes Go.ChangeAt Go.RowKit Go.Deep
set_option linter.unusedVariables false
set_option linter.unusedSimpArgs false

theorem can_app {w1 w2 : World} {c : Nat} {a : Option Addr} {n cap : Nat} {o : Obj} {B size k : Nat} {e : TypeId} {v : Value} {xs : List Value} (h : Can w1 c a n cap) (ho : (w1.alloc o).ownsRow B e size v k xs) (hB : c < B) (hw : B ≤ w1.heap.size) (hg : (w1.alloc o).grownBy w2 v.ownBlock) : Can w2 c a n cap :=
  h.below (((Below.refl (c + 1) w1).alloc (by omega) o).grown hg (by simp; omega) (fun k e => by have := (ho.lt k e).1; omega))

end Go.Proofs.Ytajpfidgepebgaa.dr

namespace Go.Proofs.Ytajpfidgepebgaa.dr
open Go.ChangeShapes Go.WideShapes Go.ChangeAt Go.RowKit Go.Deep
set_option linter.unusedVariables false
set_option linter.unusedSimpArgs false

/-- Between two draws: the cursor was the first block laid since w; a row of bytes of one's own lies behind it. -/
structure St (w wr : World) (a : Option Addr) (n cap : Nat) (v : Value) (k : Nat) : Prop where
  can : Can wr w.heap.size a n cap
  row : ∃ l : List UInt8, wr.ownsRow (w.heap.size + 1) 5 1 v k (byteCells l)
  bel : Below w.heap.size w wr
  sz : w.heap.size + 1 ≤ wr.heap.size

theorem new_can {w : World} {a : Option Addr} {n cap : Nat} (hb : CodeB w a n) (hn : n ≤ 1048576) (hlt : ∀ x, a = some x → 0 < n → x.block < w.heap.size) (h : Int) : Can (w.alloc (.cells #[.slice a n cap, .int .i64 0, .int .i64 h] 56)) w.heap.size a n cap := by
  refine ⟨hb.grown (World.grownBy_alloc w _ (some w.heap.size)) (fun x e h0 => Nat.ne_of_lt (hlt x e h0)), ⟨0, h, ?_, Nat.zero_le _⟩, hn, hlt⟩
  exact World.rowIs_alloc w _ _ _ (fun i hi => by
    match i, hi with
    | 0, _ => rfl
    | 1, _ => rfl
    | 2, _ => rfl)

theorem St.draws {w wr w' : World} {a : Option Addr} {n cap k : Nat} {v : Value} (h : St w wr a n cap v k) (d : Draws wr w' w.heap.size a n cap) : St w w' a n cap v k := by
  obtain ⟨l, hl⟩ := h.row
  have hs := d.grown.size
  exact ⟨h.can.draws d, ⟨l, own_draws hl (by omega) d⟩, h.bel.trans (below_of_grown d.grown (Nat.le_refl _) (by have := h.sz; omega)), by have := h.sz; omega⟩
theorem St.alloc {w wr : World} {a : Option Addr} {n cap k : Nat} {v : Value} (h : St w wr a n cap v k) (o : Obj) : St w (wr.alloc o) a n cap v k := by
  obtain ⟨l, hl⟩ := h.row
  exact ⟨h.can.below ((Below.refl _ wr).alloc h.sz _), ⟨l, hl.alloc _⟩, h.bel.alloc h.bel.size _, by simp; have := h.sz; omega⟩
theorem St.app {w wr w' : World} {a : Option Addr} {n cap k x : Nat} {v v' : Value} {o : Obj} {l : List UInt8} (h : St w wr a n cap v k) (hx : x < 256)
    (ho : wr.ownsRow (w.heap.size + 1) 5 1 v k (byteCells l)) (hown : w'.ownsRow (w.heap.size + 1) 5 1 v' (k + 1) (byteCells l ++ [.int .u8 (x : Int)])) (hg : (wr.alloc o).grownBy w' v.ownBlock) : St w w' a n cap v' (k + 1) := by
  have hs := h.sz
  have hs2 := hg.size
  simp at hs2
  refine ⟨can_app h.can (ho.alloc o) (by omega) h.sz hg, ⟨l ++ [UInt8.ofNat x], ?_⟩, ?_, by omega⟩
  · rw [byteCells_append, ← byte_cell x hx]; exact hown
  · exact (h.bel.alloc h.bel.size o).grown hg (by simp; omega) (fun j e => by have := ((ho.alloc o).lt j e).1; omega)

/-- 'b = append(b, byte)': the arm's premises, of a state. -/
theorem St.at {w wr : World} {a : Option Addr} {n cap k : Nat} {v : Value} (h : St w wr a n cap v k) : ∃ l : List UInt8, wr.ownsRow (w.heap.size + 1) 5 1 v k (byteCells l) := h.row

theorem st_start {w : World} {a : Option Addr} {n cap : Nat} (hb : CodeB w a n) (hn : n ≤ 1048576) (hlt : ∀ x, a = some x → 0 < n → x.block < w.heap.size) (h : Int) :
    St w ((w.alloc (.cells #[.slice a n cap, .int .i64 0, .int .i64 h] 56)).alloc (.cells #[] 5)) a n cap (.slice (some ⟨w.heap.size + 1, 0, none⟩) 0 0) 0 := by
  have h1 := own_empty5 (w.alloc (.cells #[.slice a n cap, .int .i64 0, .int .i64 h] 56)) (w.heap.size + 1) (by simp)
  rw [World.size_alloc] at h1
  exact ⟨(new_can hb hn hlt h).below ((Below.refl _ _).alloc (by simp) _), ⟨[], h1⟩, ((Below.refl _ w).alloc (Nat.le_refl _) _).alloc (by simp) _, by simp⟩

theorem one5 (x : Nat) : ∀ u ∈ [Value.int .u8 (x : Int)], u.oneCell' = true := fun u hu => by
  simp at hu
  subst hu
  rfl

/-- 'b = append(b, byte)', of a state. -/
theorem app_st {w wr : World} {a : Option Addr} {n cap k : Nat} {v : Value} {ops : Array Oper} {rest : List Oper} {o : Oper} {act : Act} {Q : Exit → Act → World → Prop} (hgd : o.guard = none) (s x : Operand)
    (ho : o.op = .call { callee := .builtin .append, args := #[s, x], argTypes := #[22, 22] }) (S : St w wr a n cap v k) (hs : act.eval s = v) (z : Int) (hx : act.eval x = .slice (some ⟨wr.heap.size, 0, none⟩) 1 1) (h0 : 0 ≤ z) (h1 : z < 256) (hk : k ≤ 1000000)
    (h : ∀ v' w', St w w' a n cap v' (k + 1) → wpList Try.prog ops Q rest (act.put o.dst v') w') : wpList Try.prog ops Q (o :: rest) act (wr.alloc (.cells #[.int .u8 z] 5)) := by
  obtain ⟨y, rfl⟩ : ∃ y : Nat, z = (y : Int) := ⟨z.toNat, by omega⟩
  obtain ⟨l, hl⟩ := S.row
  refine app_own _ hgd s x 22 ho (w.heap.size + 1) 5 (.int .u8 0) 1 Try.underlying22 info5 rfl v k (byteCells l) hs (hl.alloc _) ⟨wr.heap.size, 0, none⟩ 1 1 [.int .u8 (y : Int)] hx rfl (one_new _ _ _) (one5 y) (by unfold maxLen; omega) (by omega) (by have := S.sz; simp; omega) ?_
  intro v' w' hown hg
  exact h v' w' (S.app (by omega) hl hown hg)

theorem cell4 {w w' : World} {c x : Nat} (h : (w.alloc (.cells #[.int .u8 10, .int .u8 9, .int .u8 34, .int .u8 92] 5)).grownBy w' (some c)) (hc : c < w.heap.size) (hx : x < 4) : ∃ y : Nat, y < 256 ∧ w'.cell? ⟨w.heap.size, x, none⟩ = some (.int .u8 (y : Int)) := by
  have key : ∀ v, (w.alloc (.cells #[.int .u8 10, .int .u8 9, .int .u8 34, .int .u8 92] 5)).cell? ⟨w.heap.size, x, none⟩ = some v → w'.cell? ⟨w.heap.size, x, none⟩ = some v := fun v hv => h.cell hv (fun e => by have e2 := Option.some.inj e; simp at e2; omega)
  match x, hx with
  | 0, _ => exact ⟨10, by decide, key _ (by simp)⟩
  | 1, _ => exact ⟨9, by decide, key _ (by simp)⟩
  | 2, _ => exact ⟨34, by decide, key _ (by simp)⟩
  | 3, _ => exact ⟨92, by decide, key _ (by simp)⟩

theorem made4 (x : Nat) (hx : x < 2) (w : World) : (Instr.makeSlice 22 (.int .i64 (4000 + (x : Int))) (.int .i64 (4000 + (x : Int)))).run Try.prog w = .ok (.slice (some ⟨w.heap.size, 0, none⟩) (4000 + x) (4000 + x)) (w.alloc (.cells (madeCells #[.int .u8 0] (4000 + x)) 5)) := by
  have h := run_make_row' (P := Try.prog) 22 5 (.int .u8 0) 1 Try.underlying22 info5 rfl .i64 .i64 (4000 + x) (by omega) (by omega) w
  rw [Int.natCast_add] at h
  exact h

theorem a_step {w : World} {b n k : Nat} (h : w.rowIs b 5 n (fun j => .int .u8 (if j < k then 97 else 0))) :
    (w.setCell ⟨b, k, none⟩ (.int .u8 97)).rowIs b 5 n (fun j => .int .u8 (if j < k + 1 then 97 else 0)) :=
  (h.set k _).congr fun i hi => by
    by_cases h : i = k
    · simp [h]
    · have e : (i < k + 1) ↔ (i < k) := by omega
      simp [h, e]

theorem own_of_row {w : World} {b N : Nat} (h : w.rowIs b 5 N (fun _ => .int .u8 97)) (hN : N ≤ maxLen) : w.ownsRow 0 5 1 (.slice (some ⟨b, 0, none⟩) N N) N (byteCells (List.replicate N 97)) := by
  obtain ⟨c, hb, hc, hi⟩ := h
  refine ⟨by simp [byteCells], .inr ⟨b, N, c, rfl, Nat.zero_le _, hb, Nat.le_refl _, hN, by simpa using hc, ?_⟩⟩
  rw [Nat.mul_one, ← hc, ← Array.length_toList, List.take_length]
  apply List.ext_getElem?
  intro i
  rcases Nat.lt_or_ge i N with h | h
  · rw [Array.getElem?_toList, hi i h]
    simp [byteCells, hc, h]
  · rw [Array.getElem?_toList, Array.getElem?_eq_none (by omega)]
    simp [byteCells, hc]
    omega

end Go.Proofs.Ytajpfidgepebgaa.dr

namespace Go.Proofs.Ytajpfidgepebgaa.dr
open Go.ChangeShapes Go.WideShapes Go.ChangeAt Go.RowKit Go.Deep
set_option linter.unusedVariables false
set_option linter.unusedSimpArgs false

theorem size_app (a b : ByteArray) : (a ++ b).size = a.size + b.size := by simp
theorem size_one (b : UInt8) : (⟨#[b]⟩ : ByteArray).size = 1 := rfl

def dg (k : Nat) : UInt8 := UInt8.ofNat (48 + k % 10)
theorem digit_nat (k : Nat) : ((dg k).toNat : Int) = 48 + ((k % 10 : Nat) : Int) := by
  have : (48 + k % 10) % 256 = 48 + k % 10 := Nat.mod_eq_of_lt (by omega)
  simp [dg, UInt8.toNat_ofNat', this]

theorem digit_conv (k : Nat) (wr : World) (z : Int) (hz : z = 48 + ((k % 10 : Nat) : Int)) : (convert 22 9 (.slice (some ⟨wr.heap.size, 0, none⟩) 1 1)).run Try.prog (wr.alloc (.cells #[.int .u8 z] 5)) = .ok (.string ⟨[dg k].toArray⟩) (wr.alloc (.cells #[.int .u8 z] 5)) := by
  subst hz
  refine own_string (base := wr.heap.size) (n := 1) Try.underlying22 Try.underlying5 Try.underlying9 ?_
  rw [byteCells_one, digit_nat]
  exact ⟨rfl, .inr ⟨wr.heap.size, 1, #[.int .u8 (48 + ((k % 10 : Nat) : Int))], rfl, Nat.le_refl _, World.alloc_heap_new wr _, by decide, by decide, rfl, rfl⟩⟩

set_option maxHeartbeats 1000000 in
theorem int_any (k0 : Nat) (h1 : k0 < 100000) (w : World) :
    Calls Try.prog 29 #[.int .i64 (k0 : Int)] w fun e w' => ∃ s : ByteArray, e = .returned (.string s) ∧ s.size ≤ 6 ∧ Below w.heap.size w w' := by
  go_enter Try.func29, Try.ntmps29
  go_wp2
  go_loopw [0, 3] (fun a b wr => ∃ (k : Nat) (s : ByteArray), a = .int .i64 (k : Int) ∧ b = .string s ∧ ((s.size = 0 ∧ k < 100000) ∨ (s.size = 1 ∧ k < 10000) ∨ (s.size = 2 ∧ k < 1000) ∨ (s.size = 3 ∧ k < 100) ∨ (s.size = 4 ∧ k < 10)) ∧ Below w.heap.size w wr) (fun a _ _ => (intOf a).toNat)
  case atStart => exact ⟨k0, ⟨#[]⟩, rfl, rfl, .inl ⟨rfl, h1⟩, Below.refl _ _⟩
  case round =>
    obtain ⟨k, s, rfl, rfl, hk, hbel⟩ := hrel
    have HK : Hid ((s.size = 0 ∧ k < 100000) ∨ (s.size = 1 ∧ k < 10000) ∨ (s.size = 2 ∧ k < 1000) ∨ (s.size = 3 ∧ k < 100) ∨ (s.size = 4 ∧ k < 10)) := hk
    have hs4 : s.size ≤ 4 := by omega
    have hk5 : k < 100000 := by omega
    clear hk
    have hcat : ¬ 9223372036854775807 < 1 + s.size := by omega
    by_cases hlt : 9 < k
    · have hlti : 9 < (k : Int) := by omega
      have hconv := digit_conv k wr (48 + (k : Int) % 10) (by omega)
      go_wp2
      go_roundw
      case rel => exact ⟨k / 10, ⟨#[dg k]⟩ ++ s, by go_num, rfl, by rw [size_app, size_one]; have := HK.out; omega, hbel.alloc hbel.size _⟩
      case measure => simp [intOf]; omega
    · have hlti : ¬ 9 < (k : Int) := by omega
      have hconv := digit_conv k wr (48 + (k : Int)) (by omega)
      go_wp2
      go_ret
      exact ⟨⟨#[dg k]⟩ ++ s, rfl, by rw [size_app, size_one]; omega, hbel.alloc hbel.size _⟩

def strOk (v : Value) : Bool := match v with
  | .string y => decide (y.size ≤ 64)
  | _ => false
/-- A table of short texts. -/
def Tab (w : World) (b m : Nat) : Prop := ∀ x, x < m → ∃ y : ByteArray, y.size ≤ 64 ∧ w.cell? ⟨b, x, none⟩ = some (.string y)

theorem tab_new (w : World) (arr : Array Value) (m : Nat) (hm : m = arr.size) (hok : arr.all strOk = true) : Tab (w.alloc (.cells arr 9)) w.heap.size m := by
  subst hm
  intro x hx
  have h := (Array.all_eq_true.1 hok) x hx
  have hc := World.cell?_alloc_new w arr 9 x
  rw [Array.getElem?_eq_getElem hx] at hc
  generalize arr[x] = v at h hc
  cases v <;> simp [strOk] at h
  exact ⟨_, h, hc⟩

theorem Tab.draws {wr w' : World} {b m c : Nat} {a : Option Addr} {n cap : Nat} (h : Tab wr b m) (d : Draws wr w' c a n cap) (hb : b ≠ c) : Tab w' b m := fun x hx => by
  obtain ⟨y, hy, hc⟩ := h x hx
  exact ⟨y, hy, d.grown.cell hc (fun e => hb (by have := Option.some.inj e; simpa using this))⟩
theorem Tab.below {wr w' : World} {b m : Nat} (h : Tab wr b m) (hb : Below wr.heap.size wr w') : Tab w' b m := fun x hx => by
  obtain ⟨y, hy, hc⟩ := h x hx
  exact ⟨y, hy, (hb.cell (p := ⟨b, x, none⟩) (World.block_lt_of_cell? _ _ hc)).trans hc⟩
theorem Draws.alloc {w wr : World} {c : Nat} {a : Option Addr} {n cap : Nat} (h : Draws w wr c a n cap) (hc : Can w c a n cap) (hw : c < w.heap.size) (o : Obj) : Draws w (wr.alloc o) c a n cap := by
  have h1 := (hc.draws h).below ((Below.refl _ wr).alloc (by have := h.grown.size; omega) o)
  exact ⟨h1.code, h1.cur, grown_alloc h.grown o⟩
theorem Draws.below {w wr w' : World} {c : Nat} {a : Option Addr} {n cap : Nat} (h : Draws w wr c a n cap) (hc : Can w c a n cap) (hw : c < w.heap.size) (hb : Below wr.heap.size wr w') : Draws w w' c a n cap := by
  have h1 := (hc.draws h).below (hb.mono (by have := h.grown.size; omega))
  exact ⟨h1.code, h1.cur, ⟨hb.os.trans h.grown.os, hb.tape.trans h.grown.tape, hb.output.trans h.grown.output, Nat.le_trans h.grown.size hb.size, fun j hj hne => (hb.block j (Nat.lt_of_lt_of_le hj h.grown.size)).trans (h.grown.block j hj hne)⟩⟩

end Go.Proofs.Ytajpfidgepebgaa.dr

namespace Go.Proofs.Ytajpfidgepebgaa.du
open Go.ChangeShapes Go.WideShapes Go.ChangeAt Go.RowKit Go.Deep
open Go.Proofs.Ytajpfidgepebgaa.dr (Draws Tab below_can once_can int_any tab_new)
set_option linter.unusedVariables false
set_option linter.unusedSimpArgs false

/-! ### Units as they are drawn -/

theorem blk_oth {w : World} {b c i : Nat} {v : Value} (h : c ≠ b) : (w.setCell ⟨b, i, none⟩ v).heap[c]? = w.heap[c]? := by
  simp only [World.setCell]
  rw [Array.getElem?_modify, if_neg (fun e => h e.symm)]
theorem oth {X : World} {b i j : Nat} {v : Value} (h : i ≠ j) : (X.setCell ⟨b, i, none⟩ v).cell? ⟨b, j, none⟩ = X.cell? ⟨b, j, none⟩ := World.cell?_setCell_other X ⟨b, i, none⟩ ⟨b, j, none⟩ v (by simp [h])
theorem draws_mid {w W W' : World} {c : Nat} {a : Option Addr} {n cap : Nat} (h : Draws w W c a n cap) (hc : dr.Can w c a n cap) (hcw : c < w.heap.size) (hb : Below w.heap.size W W') : Draws w W' c a n cap := by
  have h1 := (hc.draws h).below (hb.mono (by omega))
  exact ⟨h1.code, h1.cur, ⟨hb.os.trans h.grown.os, hb.tape.trans h.grown.tape, hb.output.trans h.grown.output, Nat.le_trans h.grown.size hb.size, fun j hj hne => (hb.block j hj).trans (h.grown.block j hj hne)⟩⟩

def sv (l : List ByteArray) : List Value := l.map Value.string
theorem sv_app (l : List ByteArray) (x : ByteArray) : sv (l ++ [x]) = sv l ++ [.string x] := by simp [sv]
theorem sv_one (l : List ByteArray) : ∀ u ∈ sv l, u.oneCell' = true := by
  intro u hu
  obtain ⟨x, _, rfl⟩ := List.mem_map.1 hu
  rfl
/-- A row of texts that can be appended to. -/
def TR (lo : Nat) (W : World) (v : Value) (l : List ByteArray) : Prop := W.ownsRow lo 9 1 v l.length (sv l)
theorem TR.kept {lo : Nat} {W W' : World} {v : Value} {l : List ByteArray} {r : Option Nat} (h : TR lo W v l) (hg : W.grownBy W' r) (hne : v.ownBlock = none ∨ v.ownBlock ≠ r) : TR lo W' v l := World.ownsRow.kept h hg hne
theorem TR.below {lo : Nat} {W W' : World} {v : Value} {l : List ByteArray} (h : TR lo W v l) (hb : Below W.heap.size W W') : TR lo W' v l :=
  h.kept (r := none) ⟨hb.os, hb.tape, hb.output, hb.size, fun j hj _ => hb.block j hj⟩ (by cases v.ownBlock <;> simp)
theorem TR.set {lo : Nat} {W : World} {v u : Value} {l : List ByteArray} {b o : Nat} (h : TR lo W v l) (hne : v.ownBlock ≠ some b) : TR lo (W.setCell ⟨b, o, none⟩ u) v l :=
  h.kept (r := some b) ⟨rfl, rfl, rfl, by simp, fun j hj h => blk_oth fun e => h (by rw [e])⟩ (.inr hne)
theorem TR.shape {lo : Nat} {W : World} {v : Value} {l : List ByteArray} (h : TR lo W v l) : ∃ a e, v = .slice a l.length e ∧ (l = [] ∨ ∃ g, a = some ⟨g, 0, none⟩ ∧ lo ≤ g ∧ g < W.heap.size ∧ ∀ (i : Nat) (x : ByteArray), l[i]? = some x → W.cell? ⟨g, i, none⟩ = some (.string x)) := by
  have h0 := h
  rcases h.2 with ⟨h1, h2⟩ | ⟨g, cap, cur, h1, hb, hg, hnc, hcm, hcs, htk⟩
  · exact ⟨none, 0, by rw [h1, h2], .inl (List.length_eq_zero_iff.1 h2)⟩
  · refine ⟨_, cap, h1, .inr ⟨g, rfl, hb, (Array.getElem?_eq_some_iff.1 hg).1, fun i x hx => ?_⟩⟩
    have := World.ownsRow.cells h0 (g := g) (by rw [h1]; rfl) i (.string x) (by unfold sv; rw [List.getElem?_map, hx]; rfl)
    rw [addr_add, Nat.zero_add] at this
    exact this
theorem TR.low {lo : Nat} {W : World} {v : Value} {l : List ByteArray} (h : TR lo W v l) {g : Nat} (hg : g < lo) : v.ownBlock ≠ some g := fun e => by
  have := (World.ownsRow.lt h g e).1
  omega
theorem run_tx {lo : Nat} {W : World} {v : Value} {l : List ByteArray} (h : TR lo W v l) (hlo : lo ≤ W.heap.size) (hl : l.length ≤ 1000000) (ty : TypeId) (ad : Addr) (c : Nat) (x : ByteArray) (hnews : ∀ j u, [Value.string x][j]? = some u → W.cell? (ad.add j) = some u) :
    ∃ v' W', (Builtin.append_ #[26, 26] ty #[v, .slice (some ad) 1 c]).run Try.prog W = .ok v' W' ∧ TR lo W' v' (l ++ [x]) ∧ W.grownBy W' v.ownBlock ∧ (v'.ownBlock = v.ownBlock ∨ v'.ownBlock = some W.heap.size) := by
  obtain ⟨i, hi, hzz⟩ := Option.map_eq_some_iff.1 st.info9
  simp only [Prod.mk.injEq] at hzz
  obtain ⟨hz, hsi, hb⟩ := hzz
  obtain ⟨v', W', r1, r2, r3, _, r4⟩ := run_append_own_at (P := Try.prog) W lo 26 ty 9 i _ 1 16 Try.underlying26 hi hz hsi hb rfl (by decide) v l.length (sv l) h ad 1 c [.string x] rfl hnews (fun u hu => by simp only [List.mem_singleton] at hu; subst hu; rfl) (by unfold maxLen; omega) (by omega) hlo
  refine ⟨v', W', r1, ?_, r3, r4⟩
  unfold TR
  rw [sv_app, List.length_append]
  exact r2
theorem tx_step {lo : Nat} {W : World} {v : Value} {l : List ByteArray} {ops : Array Oper} {o : Oper} {a : Act} {K : Act → World → Prop} {Q : Exit → Act → World → Prop} {Ex : Prop} (hgd : o.guard = none) (s y : Operand)
    (ho : o.op = .call { callee := .builtin .append, args := #[s, y], argTypes := #[26, 26] }) (h : TR lo W v l) (hlo : lo ≤ W.heap.size) (hl : l.length ≤ 1000000) (hs : a.eval s = v)
    (ad : Addr) (x : ByteArray) (hx : a.eval y = .slice (some ad) 1 1) (hnews : ∀ j u, [Value.string x][j]? = some u → W.cell? (ad.add j) = some u)
    (k : ∀ v' W', TR lo W' v' (l ++ [x]) → W.grownBy W' v.ownBlock → (v'.ownBlock = v.ownBlock ∨ v'.ownBlock = some W.heap.size) → K (a.put o.dst v') W') :
    if Region.wanted o (yielded ops a.tmps) = true then Oper.wp Try.prog o a W K Q else Ex := by
  have hw : Region.wanted o (yielded ops a.tmps) = true := by simp [Region.wanted, hgd]
  rw [if_pos hw]
  obtain ⟨v', W', hr, h1, h2, h3⟩ := run_tx h hlo hl o.type ad 1 x hnews
  unfold Oper.wp
  simp [execOp, ho, resolve, invoke, builtin, hs, hx, hr, Result.andThen]
  exact k v' W' h1 h2 h3
theorem tx_list (W : World) {lo : Nat} {v : Value} {l : List ByteArray} {ops : Array Oper} {rest : List Oper} {o : Oper} {a : Act} {Q : Exit → Act → World → Prop} (hgd : o.guard = none) (s y : Operand)
    (ho : o.op = .call { callee := .builtin .append, args := #[s, y], argTypes := #[26, 26] }) (h : TR lo W v l) (hlo : lo ≤ W.heap.size) (hl : l.length ≤ 1000000) (hs : a.eval s = v)
    (ad : Addr) (x : ByteArray) (hx : a.eval y = .slice (some ad) 1 1) (hnews : ∀ j u, [Value.string x][j]? = some u → W.cell? (ad.add j) = some u)
    (k : ∀ v' W', TR lo W' v' (l ++ [x]) → W.grownBy W' v.ownBlock → (v'.ownBlock = v.ownBlock ∨ v'.ownBlock = some W.heap.size) → wpList Try.prog ops Q rest (a.put o.dst v') W') : wpList Try.prog ops Q (o :: rest) a W := by
  obtain ⟨v', W', hr, h1, h2, h3⟩ := run_tx h hlo hl o.type ad 1 x hnews
  exact wpList_plain hgd fun _ hK => by
    unfold Oper.wp execOp
    simp only [ho, resolve, invoke, builtin, Sem.run_bind, Sem.run_pure, Result.andThen_ok, List.map_toArray, List.map_cons, List.map_nil, hs, hx, hr]
    exact hK _ _ (k v' W' h1 h2 h3)

/-- One unit, while it is drawn: its own five cells, and its two rows. -/
structure UR (lo : Nat) (W : World) (ub : Nat) (nm ex : ByteArray) (kp : Bool) (v1 v2 : Value) (l1 l2 : List ByteArray) : Prop where
  row : ∃ f, W.rowIs ub 31 5 f
  c0 : W.cell? ⟨ub, 0, none⟩ = some (.string nm)
  c1 : W.cell? ⟨ub, 1, none⟩ = some v1
  c2 : W.cell? ⟨ub, 2, none⟩ = some v2
  c3 : W.cell? ⟨ub, 3, none⟩ = some (.string ex)
  c4 : W.cell? ⟨ub, 4, none⟩ = some (.bool kp)
  ge : lo ≤ ub
  r1 : TR lo W v1 l1
  r2 : TR lo W v2 l2
  n1 : v1.ownBlock ≠ some ub
  n2 : v2.ownBlock ≠ some ub
  n12 : v1.ownBlock = none ∨ v1.ownBlock ≠ v2.ownBlock
theorem UR.lt {lo : Nat} {W : World} {ub : Nat} {nm ex : ByteArray} {kp : Bool} {v1 v2 : Value} {l1 l2 : List ByteArray} (h : UR lo W ub nm ex kp v1 v2 l1 l2) : ub < W.heap.size := World.block_lt_of_cell? _ _ h.c0
theorem UR.kept {lo : Nat} {W W' : World} {ub : Nat} {nm ex : ByteArray} {kp : Bool} {v1 v2 : Value} {l1 l2 : List ByteArray} (h : UR lo W ub nm ex kp v1 v2 l1 l2) {r : Option Nat} (hg : W.grownBy W' r) (hr : ∀ k, r = some k → k < lo) : UR lo W' ub nm ex kp v1 v2 l1 l2 := by
  have hb : W'.heap[ub]? = W.heap[ub]? := hg.block ub h.lt (fun e => by have := hr ub e.symm; have := h.ge; omega)
  have k : ∀ o, W'.cell? ⟨ub, o, none⟩ = W.cell? ⟨ub, o, none⟩ := fun o => World.cell?_of_block (a := ⟨ub, o, none⟩) hb
  have q : ∀ {v : Value} {l : List ByteArray}, TR lo W v l → TR lo W' v l := fun {v l} ht => ht.kept hg (Classical.or_iff_not_imp_left.2 fun _ e => by
    cases r with
    | none => exact absurd e ‹_›
    | some k => exact ht.low (hr k rfl) e)
  obtain ⟨f, hf⟩ := h.row
  exact ⟨⟨f, hf.of_block hb⟩, (k 0).trans h.c0, (k 1).trans h.c1, (k 2).trans h.c2, (k 3).trans h.c3, (k 4).trans h.c4, h.ge, q h.r1, q h.r2, h.n1, h.n2, h.n12⟩
theorem UR.below {lo : Nat} {W W' : World} {ub : Nat} {nm ex : ByteArray} {kp : Bool} {v1 v2 : Value} {l1 l2 : List ByteArray} (h : UR lo W ub nm ex kp v1 v2 l1 l2) (hb : Below W.heap.size W W') : UR lo W' ub nm ex kp v1 v2 l1 l2 :=
  h.kept (r := none) ⟨hb.os, hb.tape, hb.output, hb.size, fun j hj _ => hb.block j hj⟩ (fun k e => by cases e)
theorem UR.draws {lo : Nat} {W W' : World} {ub : Nat} {nm ex : ByteArray} {kp : Bool} {v1 v2 : Value} {l1 l2 : List ByteArray} {c : Nat} {a : Option Addr} {n cap : Nat} (h : UR lo W ub nm ex kp v1 v2 l1 l2) (d : Draws W W' c a n cap) (hc : c < lo) : UR lo W' ub nm ex kp v1 v2 l1 l2 :=
  h.kept d.grown (fun k e => by cases e; exact hc)
theorem below_of_own {lo : Nat} {W W' : World} {v v' : Value} {l : List ByteArray} {ub o : Nat} (h : TR lo W v l) (hg : W.grownBy W' v.ownBlock) (hub : lo ≤ ub) (hlo : lo ≤ W.heap.size) : Below lo W (W'.setCell ⟨ub, o, none⟩ v') :=
  ⟨hg.os, hg.tape, hg.output, by simp; exact hg.size, fun k hk => by
    rw [blk_oth (by omega)]
    exact hg.block k (by omega) (fun e => by have := (World.ownsRow.lt h k e.symm).1; omega)⟩
/-- One more text behind After. -/
theorem UR.app1 {lo : Nat} {W W' : World} {ub : Nat} {nm ex : ByteArray} {kp : Bool} {v1 v2 v' : Value} {l1 l2 l' : List ByteArray} (h : UR lo W ub nm ex kp v1 v2 l1 l2) (hg : W.grownBy W' v1.ownBlock) (ht : TR lo W' v' l') (hv : v'.ownBlock = v1.ownBlock ∨ v'.ownBlock = some W.heap.size) : UR lo (W'.setCell ⟨ub, 1, none⟩ v') ub nm ex kp v' v2 l' l2 := by
  have hlt := h.lt
  have hb : W'.heap[ub]? = W.heap[ub]? := hg.block ub hlt (fun e => h.n1 e.symm)
  have k : ∀ o, W'.cell? ⟨ub, o, none⟩ = W.cell? ⟨ub, o, none⟩ := fun o => World.cell?_of_block (a := ⟨ub, o, none⟩) hb
  have hn1 : v'.ownBlock ≠ some ub := by
    rcases hv with e | e
    · rw [e]; exact h.n1
    · rw [e]; intro e2; cases e2; omega
  obtain ⟨f, hf⟩ := h.row
  refine ⟨⟨_, (hf.of_block hb).set 1 _⟩, (oth (by omega)).trans ((k 0).trans h.c0), World.cell?_setCell_same _ _ _ ((k 1).trans h.c1), (oth (by omega)).trans ((k 2).trans h.c2), (oth (by omega)).trans ((k 3).trans h.c3), (oth (by omega)).trans ((k 4).trans h.c4), h.ge, ht.set hn1, ?_, hn1, h.n2, ?_⟩
  · exact (h.r2.kept hg (h.n12.elim (fun e => by rw [e]; cases v2.ownBlock <;> simp) fun e => .inr fun e2 => e e2.symm)).set h.n2
  · rcases hv with e | e
    · rw [e]; exact h.n12
    · right
      rw [e]
      intro e2
      have := (World.ownsRow.lt h.r2 _ e2.symm).2
      omega
/-- One more text behind Needs. -/
theorem UR.app2 {lo : Nat} {W W' : World} {ub : Nat} {nm ex : ByteArray} {kp : Bool} {v1 v2 v' : Value} {l1 l2 l' : List ByteArray} (h : UR lo W ub nm ex kp v1 v2 l1 l2) (hg : W.grownBy W' v2.ownBlock) (ht : TR lo W' v' l') (hv : v'.ownBlock = v2.ownBlock ∨ v'.ownBlock = some W.heap.size) : UR lo (W'.setCell ⟨ub, 2, none⟩ v') ub nm ex kp v1 v' l1 l' := by
  have hlt := h.lt
  have hb : W'.heap[ub]? = W.heap[ub]? := hg.block ub hlt (fun e => h.n2 e.symm)
  have k : ∀ o, W'.cell? ⟨ub, o, none⟩ = W.cell? ⟨ub, o, none⟩ := fun o => World.cell?_of_block (a := ⟨ub, o, none⟩) hb
  have hn2 : v'.ownBlock ≠ some ub := by
    rcases hv with e | e
    · rw [e]; exact h.n2
    · rw [e]; intro e2; cases e2; omega
  obtain ⟨f, hf⟩ := h.row
  refine ⟨⟨_, (hf.of_block hb).set 2 _⟩, (oth (by omega)).trans ((k 0).trans h.c0), (oth (by omega)).trans ((k 1).trans h.c1), World.cell?_setCell_same _ _ _ ((k 2).trans h.c2), (oth (by omega)).trans ((k 3).trans h.c3), (oth (by omega)).trans ((k 4).trans h.c4), h.ge, ?_, ht.set hn2, h.n1, hn2, ?_⟩
  · exact (h.r1.kept hg h.n12).set h.n1
  · rcases hv with e | e
    · rw [e]; exact h.n12
    · right
      rw [e]
      intro e2
      have := (World.ownsRow.lt h.r1 _ e2).2
      omega

/-- A row of texts that can be read, apart from the units' own row. -/
def Tx (lo : Nat) (W : World) (g : Nat) (a : Option Addr) (l : List ByteArray) : Prop := l = [] ∨ ∃ q, a = some ⟨q, 0, none⟩ ∧ lo ≤ q ∧ q < W.heap.size ∧ q ≠ g ∧ ∀ (i : Nat) (x : ByteArray), l[i]? = some x → W.cell? ⟨q, i, none⟩ = some (.string x)
theorem Tx.kept {lo : Nat} {W W' : World} {g g' : Nat} {a : Option Addr} {l : List ByteArray} (h : Tx lo W g a l) (hs : W.heap.size ≤ W'.heap.size) (hb : ∀ q, lo ≤ q → q < W.heap.size → q ≠ g → W'.heap[q]? = W.heap[q]?) (hg : g' = g ∨ W.heap.size ≤ g') : Tx lo W' g' a l := by
  rcases h with h | ⟨q, h1, h2, h3, h4, h5⟩
  · exact .inl h
  · exact .inr ⟨q, h1, h2, by omega, by rcases hg with e | e <;> omega, fun i x hx => (World.cell?_of_block (a := ⟨q, i, none⟩) (hb q h2 h3 h4)).trans (h5 i x hx)⟩
theorem Tx.src {lo : Nat} {W : World} {g : Nat} {a : Option Addr} {l : List ByteArray} (h : Tx lo W g a l) : ty.SrcS none W a l := by
  rcases h with h | ⟨q, h1, h2, h3, h4, h5⟩
  · exact .inl ⟨rfl, h⟩
  · exact .inr ⟨q, 0, h1, ty.Okb.free _ _, fun i x hx => by rw [Nat.zero_add]; exact h5 i x hx⟩
/-- Units in a row of their own. -/
structure OU (lo : Nat) (W : World) (g : Nat) (us : List ty.Un) : Prop where
  ent : ∀ (i : Nat) (u : ty.Un), us[i]? = some u → ∃ a1 e1 a2 e2, W.cell? ⟨g, i * 5, none⟩ = some (.string u.fName) ∧ W.cell? ⟨g, i * 5 + 1, none⟩ = some (.slice a1 u.fAfter.length e1) ∧ W.cell? ⟨g, i * 5 + 2, none⟩ = some (.slice a2 u.fNeeds.length e2) ∧ W.cell? ⟨g, i * 5 + 3, none⟩ = some (.string u.fExec) ∧ W.cell? ⟨g, i * 5 + 4, none⟩ = some (.bool u.fKeep) ∧ Tx lo W g a1 u.fAfter ∧ Tx lo W g a2 u.fNeeds
theorem OU.kept {lo : Nat} {W W' : World} {g : Nat} {us : List ty.Un} (h : OU lo W g us) (hs : W.heap.size ≤ W'.heap.size) (hb : ∀ q, lo ≤ q → q < W.heap.size → W'.heap[q]? = W.heap[q]?) (hg : lo ≤ g) (hgl : g < W.heap.size) : OU lo W' g us := ⟨fun i u hu => by
  obtain ⟨a1, e1, a2, e2, q0, q1, q2, q3, q4, t1, t2⟩ := h.ent i u hu
  have k : ∀ o, W'.cell? ⟨g, o, none⟩ = W.cell? ⟨g, o, none⟩ := fun o => World.cell?_of_block (a := ⟨g, o, none⟩) (hb g hg hgl)
  exact ⟨a1, e1, a2, e2, (k _).trans q0, (k _).trans q1, (k _).trans q2, (k _).trans q3, (k _).trans q4, t1.kept hs (fun q h1 h2 _ => hb q h1 h2) (.inl rfl), t2.kept hs (fun q h1 h2 _ => hb q h1 h2) (.inl rfl)⟩⟩
theorem OU.src {lo : Nat} {W : World} {g : Nat} {us : List ty.Un} (h : OU lo W g us) : ty.SrcUn none W (some ⟨g, 0, none⟩) us :=
  .inr ⟨g, 0, rfl, ty.Okb.free _ _, fun i u hu => by
    obtain ⟨a1, e1, a2, e2, q0, q1, q2, q3, q4, t1, t2⟩ := h.ent i u hu
    rw [Nat.zero_add]
    exact ⟨a1, e1, a2, e2, q0, q1, q2, q3, q4, t1.src, t2.src, (fun lo e => by cases e), (fun lo e => by cases e)⟩⟩
/-- Another unit in one's place. -/
theorem OU.upd {lo : Nat} {W W' : World} {g k : Nat} {us : List ty.Un} {u' : ty.Un} (h : OU lo W g us) (hs : W.heap.size ≤ W'.heap.size) (hb : ∀ q, lo ≤ q → q < W.heap.size → q ≠ g → W'.heap[q]? = W.heap[q]?)
    (ho : ∀ o, o < k * 5 ∨ k * 5 + 5 ≤ o → W'.cell? ⟨g, o, none⟩ = W.cell? ⟨g, o, none⟩)
    (hk : ∃ a1 e1 a2 e2, W'.cell? ⟨g, k * 5, none⟩ = some (.string u'.fName) ∧ W'.cell? ⟨g, k * 5 + 1, none⟩ = some (.slice a1 u'.fAfter.length e1) ∧ W'.cell? ⟨g, k * 5 + 2, none⟩ = some (.slice a2 u'.fNeeds.length e2) ∧ W'.cell? ⟨g, k * 5 + 3, none⟩ = some (.string u'.fExec) ∧ W'.cell? ⟨g, k * 5 + 4, none⟩ = some (.bool u'.fKeep) ∧ Tx lo W' g a1 u'.fAfter ∧ Tx lo W' g a2 u'.fNeeds) : OU lo W' g (us.set k u') := ⟨fun i u hu => by
  by_cases hik : i = k
  · subst hik
    have hlt : i < us.length := by have := (List.getElem?_eq_some_iff.1 hu).1; simpa using this
    rw [List.getElem?_set_self hlt] at hu
    cases hu
    exact hk
  · rw [List.getElem?_set_ne (Ne.symm hik)] at hu
    obtain ⟨a1, e1, a2, e2, q0, q1, q2, q3, q4, t1, t2⟩ := h.ent i u hu
    have hd : i < k ∨ k < i := by omega
    exact ⟨a1, e1, a2, e2, (ho _ (by omega)).trans q0, (ho _ (by omega)).trans q1, (ho _ (by omega)).trans q2, (ho _ (by omega)).trans q3, (ho _ (by omega)).trans q4, t1.kept hs hb (.inl rfl), t2.kept hs hb (.inl rfl)⟩⟩
def unV (u : ty.Un) (a1 : Option Addr) (e1 : Nat) (a2 : Option Addr) (e2 : Nat) : List Value := [.string u.fName, .slice a1 u.fAfter.length e1, .slice a2 u.fNeeds.length e2, .string u.fExec, .bool u.fKeep]
/-- Units in a row that can be appended to. -/
structure AU (lo : Nat) (W : World) (v : Value) (us : List ty.Un) : Prop where
  own : ∃ xs, W.ownsRow lo 31 5 v us.length xs
  at' : ∃ g c, v = .slice (some ⟨g, 0, none⟩) us.length c ∧ lo ≤ g ∧ g < W.heap.size ∧ OU lo W g us
theorem AU.kept {lo : Nat} {W W' : World} {v : Value} {us : List ty.Un} {r : Option Nat} (h : AU lo W v us) (hg : W.grownBy W' r) (hr : ∀ k, r = some k → k < lo) : AU lo W' v us := by
  obtain ⟨xs, hx⟩ := h.own
  obtain ⟨g, c, rfl, h1, h2, h3⟩ := h.at'
  exact ⟨⟨xs, hx.kept hg (.inr fun e => by cases r with
    | none => cases e
    | some k => have := hr k rfl; simp [Value.ownBlock] at e; omega)⟩, g, c, rfl, h1, Nat.lt_of_lt_of_le h2 hg.size, h3.kept hg.size (fun q k1 k2 => hg.block q k2 (fun e => by have := hr q e.symm; omega)) h1 h2⟩
theorem AU.below {lo : Nat} {W W' : World} {v : Value} {us : List ty.Un} (h : AU lo W v us) (hb : Below W.heap.size W W') : AU lo W' v us :=
  h.kept (r := none) ⟨hb.os, hb.tape, hb.output, hb.size, fun j hj _ => hb.block j hj⟩ (fun k e => by cases e)
theorem AU.draws {lo : Nat} {W W' : World} {v : Value} {us : List ty.Un} {c : Nat} {a : Option Addr} {n cap : Nat} (h : AU lo W v us) (d : Draws W W' c a n cap) (hc : c < lo) : AU lo W' v us :=
  h.kept d.grown (fun k e => by cases e; exact hc)
theorem AU.frz {lo : Nat} {W : World} {g c : Nat} {us : List ty.Un} (h : AU lo W (.slice (some ⟨g, 0, none⟩) us.length c) us) (o : Nat) : W.frozen? ⟨g, o, none⟩ = false := by
  obtain ⟨xs, hx⟩ := h.own
  rcases hx.2 with ⟨h1, _⟩ | ⟨g', c', cur, h1, _, hg, _⟩
  · cases h1
  · cases h1
    simp [World.frozen?, hg]
theorem AU.nil (w : World) : AU w.heap.size (w.alloc (.cells #[] 31)) (.slice (some ⟨w.heap.size, 0, none⟩) 0 0) [] :=
  ⟨⟨[], World.ownsRow_made w #[] 0 (Nat.le_refl _) (Nat.zero_le _) rfl⟩, w.heap.size, 0, rfl, Nat.le_refl _, by simp, ⟨fun i u hu => by simp at hu⟩⟩
theorem AU.app {lo hi : Nat} {W W' : World} {v v' : Value} {us : List ty.Un} {u : ty.Un} {xs : List Value} {a1 a2 : Option Addr} {e1 e2 : Nat} (h : AU lo W v us) (ho : W.ownsRow lo 31 5 v us.length xs)
    (hn : W'.ownsRow lo 31 5 v' (us.length + 1) (xs ++ unV u a1 e1 a2 e2)) (hg : W.grownBy W' v.ownBlock) (hv : v'.ownBlock = v.ownBlock ∨ v'.ownBlock = some W.heap.size)
    (t1 : TR hi W (.slice a1 u.fAfter.length e1) u.fAfter) (t2 : TR hi W (.slice a2 u.fNeeds.length e2) u.fNeeds) (hlo : lo ≤ hi) (hh : ∀ k, v.ownBlock = some k → k < hi) : AU lo W' v' (us ++ [u]) := by
  obtain ⟨g, c, rfl, h1, h2, h3⟩ := h.at'
  obtain ⟨g', c', rfl⟩ : ∃ g' c', v' = .slice (some ⟨g', 0, none⟩) (us.length + 1) c' := by
    rcases hn.2 with ⟨_, k⟩ | ⟨g', c', _, k, _⟩
    · omega
    · exact ⟨g', c', k⟩
  have hg' : g' = g ∨ g' = W.heap.size := by rcases hv with e | e <;> simp [Value.ownBlock] at e <;> omega
  have hb : ∀ q, lo ≤ q → q < W.heap.size → q ≠ g → W'.heap[q]? = W.heap[q]? := fun q _ k1 k2 => hg.block q k1 (by simp [Value.ownBlock]; exact k2)
  have hlt := World.ownsRow.lt hn g' rfl
  have co := World.ownsRow.cells ho (g := g) rfl
  have cn := World.ownsRow.cells hn (g := g') rfl
  have hxl := ho.1
  have hgh := hh g rfl
  have tx : ∀ {a : Option Addr} {e : Nat} {l : List ByteArray}, TR hi W (.slice a l.length e) l → Tx lo W g a l := fun {a e l} ht => by
    obtain ⟨a', e', k1, k2⟩ := ht.shape
    cases k1
    rcases k2 with k2 | ⟨q, k2, k3, k4, k5⟩
    · exact .inl k2
    · exact .inr ⟨q, k2, by omega, k4, by omega, k5⟩
  have kt : ∀ {a : Option Addr} {l : List ByteArray}, Tx lo W g a l → Tx lo W' g' a l := fun {a l} ht => ht.kept hg.size hb (by rcases hg' with e | e; exact .inl e; exact .inr (by omega))
  have hlen : (us ++ [u]).length = us.length + 1 := by simp
  refine ⟨⟨_, by rw [hlen]; exact hn⟩, g', c', by rw [hlen], hlt.1, hlt.2, ⟨fun i x hx => ?_⟩⟩
  rcases Nat.lt_or_ge i us.length with hi | hi
  · rw [List.getElem?_append_left hi] at hx
    obtain ⟨b1, f1, b2, f2, q0, q1, q2, q3, q4, s1, s2⟩ := h3.ent i x hx
    have k : ∀ o, o < us.length * 5 → ∀ z, W.cell? ⟨g, o, none⟩ = some z → W'.cell? ⟨g', o, none⟩ = some z := fun o hol z hz => by
      obtain ⟨y, hy⟩ : ∃ y, xs[o]? = some y := ⟨_, List.getElem?_eq_getElem (by omega)⟩
      have c1 := co o y hy
      have c2 := cn o y (by rw [List.getElem?_append_left (by omega)]; exact hy)
      rw [addr_add, Nat.zero_add] at c1 c2
      rw [c1] at hz
      cases hz
      exact c2
    exact ⟨b1, f1, b2, f2, k _ (by omega) _ q0, k _ (by omega) _ q1, k _ (by omega) _ q2, k _ (by omega) _ q3, k _ (by omega) _ q4, kt s1, kt s2⟩
  · have hi' : i = us.length := by have := (List.getElem?_eq_some_iff.1 hx).1; simp at this; omega
    subst hi'
    rw [List.getElem?_append_right (Nat.le_refl _), Nat.sub_self] at hx
    cases hx
    have k : ∀ r z, (unV u a1 e1 a2 e2)[r]? = some z → W'.cell? ⟨g', us.length * 5 + r, none⟩ = some z := fun r z hz => by
      have c2 := cn (us.length * 5 + r) z (by rw [List.getElem?_append_right (by omega), hxl, Nat.add_sub_cancel_left]; exact hz)
      rw [addr_add, Nat.zero_add] at c2
      exact c2
    exact ⟨a1, e1, a2, e2, k 0 _ rfl, k 1 _ rfl, k 2 _ rfl, k 3 _ rfl, k 4 _ rfl, kt (tx t1), kt (tx t2)⟩
theorem un_list (W : World) {lo : Nat} {v : Value} {us : List ty.Un} {ops : Array Oper} {rest : List Oper} {o : Oper} {a : Act} {Q : Exit → Act → World → Prop} (hgd : o.guard = none) (s y : Operand)
    (ho : o.op = .call { callee := .builtin .append, args := #[s, y], argTypes := #[24, 24] }) (h : AU lo W v us) (hlo : lo ≤ W.heap.size) (hl : us.length ≤ 1000000) (hs : a.eval s = v)
    (ad : Addr) (u : ty.Un) (a1 a2 : Option Addr) (e1 e2 : Nat) (hx : a.eval y = .slice (some ad) 1 1) (hnews : ∀ j z, (unV u a1 e1 a2 e2)[j]? = some z → W.cell? (ad.add j) = some z)
    {hi : Nat} (t1 : TR hi W (.slice a1 u.fAfter.length e1) u.fAfter) (t2 : TR hi W (.slice a2 u.fNeeds.length e2) u.fNeeds) (hlh : lo ≤ hi) (hh : ∀ k, v.ownBlock = some k → k < hi)
    (k : ∀ v' W', AU lo W' v' (us ++ [u]) → Below lo W W' → W.grownBy W' v.ownBlock → (v'.ownBlock = v.ownBlock ∨ v'.ownBlock = some W.heap.size) → wpList Try.prog ops Q rest (a.put o.dst v') W') : wpList Try.prog ops Q (o :: rest) a W := by
  obtain ⟨i, hi', hzz⟩ := Option.map_eq_some_iff.1 ty.infoUn
  simp only [Prod.mk.injEq] at hzz
  obtain ⟨hz, hsi, hb⟩ := hzz
  obtain ⟨xs, hxs⟩ := h.own
  refine wpList_append_own_at W hgd s y 24 ho lo 31 i _ 5 88 Try.underlying24 hi' hz hsi hb rfl (by decide) v us.length xs hs hxs ad 1 1 (unV u a1 e1 a2 e2) hx rfl hnews (fun z hz => by
    simp only [unV, List.mem_cons, List.not_mem_nil, or_false] at hz
    rcases hz with rfl | rfl | rfl | rfl | rfl <;> rfl) (by unfold maxLen; omega) (by omega) hlo (fun v' w' p q r r2 => k v' w' (h.app hxs p q r2 t1 t2 hlh hh) ?_ q r2)
  exact ⟨q.os, q.tape, q.output, q.size, fun j hj => q.block j (by omega) (fun e => by have := (World.ownsRow.lt hxs j e.symm).1; omega)⟩

end Go.Proofs.Ytajpfidgepebgaa.du

namespace Go.Proofs.Ytajpfidgepebgaa.du
open Go.ChangeShapes Go.WideShapes Go.ChangeAt Go.RowKit Go.Deep
open Go.Proofs.Ytajpfidgepebgaa.dr (Draws Tab below_can once_can int_any tab_new)
set_option linter.unusedVariables false
set_option linter.unusedSimpArgs false

theorem tab_grown {W W' : World} {b m : Nat} {r : Option Nat} (h : Tab W b m) (hg : W.grownBy W' r) (hne : r ≠ some b) : Tab W' b m := fun x hx => by
  obtain ⟨y, h1, h2⟩ := h x hx
  exact ⟨y, h1, hg.cell h2 (fun e => hne e.symm)⟩
theorem wtS_le {l : List ByteArray} (h : ∀ x ∈ l, x.size ≤ 64) : ty.wtS l ≤ 65 * l.length := by
  unfold ty.wtS ty.wtkS
  rw [List.take_length]
  induction l with
  | nil => simp
  | cons x l ih =>
    have h1 := h x (by simp)
    have h2 := ih fun y hy => h y (by simp [hy])
    simp only [List.map_cons, List.sum_cons, List.length_cons] at h2 ⊢
    omega
theorem mem_app1 {l : List ByteArray} {x : ByteArray} (h : ∀ y ∈ l, y.size ≤ 64) (hx : x.size ≤ 64) : ∀ y ∈ l ++ [x], y.size ≤ 64 := fun y hy => by
  rcases List.mem_append.1 hy with k | k
  · exact h y k
  · simp only [List.mem_singleton] at k; subst k; exact hx
theorem tr_nil (lo : Nat) (w : World) (h : lo ≤ w.heap.size) : TR lo (w.alloc (.cells #[] 9)) (.slice (some ⟨w.heap.size, 0, none⟩) 0 0) [] := World.ownsRow_made w #[] 0 h (Nat.zero_le _) rfl

/-- Names as they are drawn. -/
structure DN (w wr : World) (c : Nat) (a : Option Addr) (n cap : Nat) (v : Value) (br : List ByteArray) : Prop where
  row : TR w.heap.size wr v br
  nn : ∃ g e, v = .slice (some ⟨g, 0, none⟩) br.length e
  sm : ∀ x ∈ br, x.size ≤ 64
  dr : Draws w wr c a n cap
  tab : Tab wr (w.heap.size + 1) 7
  ne : v.ownBlock ≠ some (w.heap.size + 1)
theorem DN.draws {w wr w' : World} {c : Nat} {a : Option Addr} {n cap : Nat} {v : Value} {br : List ByteArray} (h : DN w wr c a n cap v br) (hcw : c < w.heap.size) (d : Draws wr w' c a n cap) : DN w w' c a n cap v br :=
  ⟨h.row.kept d.grown (.inr (h.row.low hcw)), h.nn, h.sm, h.dr.trans d, h.tab.draws d (by omega), h.ne⟩
theorem DN.below {w wr w' : World} {c : Nat} {a : Option Addr} {n cap : Nat} {v : Value} {br : List ByteArray} (h : DN w wr c a n cap v br) (hc : dr.Can w c a n cap) (hcw : c < w.heap.size) (d : Below wr.heap.size wr w') : DN w w' c a n cap v br :=
  ⟨h.row.below d, h.nn, h.sm, h.dr.below hc hcw d, h.tab.below d, h.ne⟩
theorem DN.app {w wr w' : World} {c : Nat} {a : Option Addr} {n cap : Nat} {v v' : Value} {br : List ByteArray} {x : ByteArray} (h : DN w wr c a n cap v br) (hc : dr.Can w c a n cap) (hcw : c < w.heap.size) (ht : TR w.heap.size w' v' (br ++ [x])) (hx : x.size ≤ 64) (hg : wr.grownBy w' v.ownBlock) (hv : v'.ownBlock = v.ownBlock ∨ v'.ownBlock = some wr.heap.size) : DN w w' c a n cap v' (br ++ [x]) := by
  have hws := h.dr.grown.size
  have hlt : w.heap.size + 1 < wr.heap.size := by
    obtain ⟨y, _, hy⟩ := h.tab 0 (by omega)
    exact World.block_lt_of_cell? _ _ hy
  refine ⟨ht, ?_, mem_app1 h.sm hx, draws_mid h.dr hc hcw ⟨hg.os, hg.tape, hg.output, hg.size, fun j hj => hg.block j (by omega) fun e => by have := (World.ownsRow.lt h.row j e.symm).1; omega⟩, tab_grown h.tab hg h.ne, ?_⟩
  · rcases ht.2 with ⟨_, k⟩ | ⟨g', c', _, k, _⟩
    · simp at k
    · exact ⟨g', c', k⟩
  · rcases hv with e | e
    · rw [e]; exact h.ne
    · rw [e]; intro e2; have := Option.some.inj e2; omega

end Go.Proofs.Ytajpfidgepebgaa.du
