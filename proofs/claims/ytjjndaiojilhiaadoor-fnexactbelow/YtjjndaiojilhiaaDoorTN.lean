import Derived.Test.YtjjndaiojilhiaaDoorTC
import Derived.LaidLaws
import Derived.ChangeArms
import Derived.ChangeSame
import Derived.Deep.Slices
import Derived.Deep.RegionWith
namespace Go.Proofs.YtjjndaiojilhiaaDoor.tt
open Go.ChangeShapes Go.WideShapes Go.ChangeAt Go.RowKit Go.Deep
set_option linter.unusedVariables false
set_option linter.unusedSimpArgs false

/-! ### The law's helpers over a list of entries -/

/-- The entries behind a slice's address. -/
def SrcE (w : World) (a : Option Addr) (n : Nat) (E : Nat → En) : Prop := n = 0 ∨ ∃ b o, a = some ⟨b, o, none⟩ ∧ EnR w b o n E

theorem SrcE.below {w w' : World} {a : Option Addr} {n : Nat} {E : Nat → En} (h : SrcE w a n E) (hb : Below w.heap.size w w') : SrcE w' a n E := by
  rcases h with h | ⟨b, o, e, h⟩
  · exact .inl h
  · exact .inr ⟨b, o, e, h.below hb⟩

set_option maxRecDepth 100000 in
theorem sz1_any (p d : ByteArray) (k : Int) (x : Bool) (left : Int) (hp : p.size ≤ maxLen) (hd : d.size ≤ maxLen) (hl : 0 ≤ left ∧ left ≤ 1048576) (w : World) :
    Calls Tryd.prog 14 #[.agg #[.string p, .int .i64 k, .string d, .bool x], .int .i64 left] w fun e w' => (∃ r : Int, e = .returned (.int .i64 r) ∧ (r = -1 ∨ 0 ≤ r ∧ r = left - (p.size : Int) - (d.size : Int))) ∧ Below w.heap.size w w' := by
  unfold maxLen at hp hd
  by_cases h1 : left - (p.size : Int) < 0
  · go_enter Tryd.func14, Tryd.ntmps14
    go_wp2
    go_ret
    exact ⟨⟨-1, rfl, .inl rfl⟩, (Below.refl _ _).alloc (Nat.le_refl _) _⟩
  · by_cases h2 : left - (p.size : Int) - (d.size : Int) < 0
    · go_enter Tryd.func14, Tryd.ntmps14
      go_wp2
      go_ret
      exact ⟨⟨-1, rfl, .inl rfl⟩, (Below.refl _ _).alloc (Nat.le_refl _) _⟩
    · go_enter Tryd.func14, Tryd.ntmps14
      go_wp2
      go_ret
      exact ⟨⟨_, rfl, .inr ⟨by omega, rfl⟩⟩, (Below.refl _ _).alloc (Nat.le_refl _) _⟩

set_option maxRecDepth 100000 in
set_option maxHeartbeats 1000000 in
theorem szS_any (a : Option Addr) (n cap : Nat) (E : Nat → En) (w : World) (hb : SrcE w a n E) (hn : n ≤ maxLen) (hs : ∀ i, i < n → (E i).path.size ≤ maxLen ∧ (E i).data.size ≤ maxLen) :
    Calls Tryd.prog 5 #[.slice a n cap, .int .i64 1048576] w fun e w' => (∃ r : Int, e = .returned (.int .i64 r) ∧ (r = -1 ∨ 0 ≤ r ∧ n ≤ 1048576 ∧ SmE n E)) ∧ Below w.heap.size w w' := by
  unfold maxLen at hn
  have HS : Hid (∀ i, i < n → (E i).path.size ≤ maxLen ∧ (E i).data.size ≤ maxLen) := hs
  clear hs
  by_cases hbig : 1048576 - (n : Int) < 0
  · go_enter Tryd.func5, Tryd.ntmps5
    go_wp2
    go_ret
    exact ⟨⟨-1, rfl, .inl rfl⟩, Below.refl _ _⟩
  · go_enter Tryd.func5, Tryd.ntmps5
    go_wp2
    go_loopw [1, 5] (fun x i wr => ∃ k : Nat, ∃ r : Int, k ≤ n ∧ i = .int .i64 (k : Int) ∧ x = .int .i64 r ∧ 0 ≤ r ∧ r ≤ 1048576 ∧ SmE k E ∧ Below w.heap.size w wr) (fun _ i _ => n - (intOf i).toNat)
    case atStart => exact ⟨0, 1048576 - (n : Int), Nat.zero_le _, rfl, rfl, by omega, by omega, fun i hi => by omega, Below.refl _ _⟩
    case round =>
      obtain ⟨k, r, hk, rfl, rfl, h0, hr, hall, hbel⟩ := hrel
      have HA : Hid (SmE k E) := hall
      have HBE : Hid (Below w.heap.size w wr) := hbel
      clear hall
      by_cases hlt : k < n
      · rcases hb with rfl | ⟨b, off, rfl, hc⟩
        · omega
        obtain ⟨g0, g1, g2, g3⟩ := (hc k hlt).below hbel
        have hki : (k : Int) < (n : Int) := by omega
        have hsk := HS.out k hlt
        have HSZ : Hid (∀ W, Calls Tryd.prog 14 #[.agg #[.string (E k).path, .int .i64 (E k).kind, .string (E k).data, .bool (E k).exec], .int .i64 r] W fun e w' => (∃ q : Int, e = .returned (.int .i64 q) ∧ (q = -1 ∨ 0 ≤ q ∧ q = r - ((E k).path.size : Int) - ((E k).data.size : Int))) ∧ Below W.heap.size W w') := fun W => sz1_any _ _ _ _ r hsk.1 hsk.2 ⟨h0, hr⟩ W
        have HST : Hid (∀ q : Int, 0 ≤ q → q = r - ((E k).path.size : Int) - ((E k).data.size : Int) → q ≤ 1048576 ∧ SmE (k + 1) E) := fun q hq e => ⟨by omega, fun i hi => by
          rcases Nat.lt_or_ge i k with h | h
          · exact HA.out i h
          · obtain rfl : i = k := by omega
            omega⟩
        generalize (E k).path = p at *
        generalize (E k).kind = kd at *
        generalize (E k).data = d at *
        generalize (E k).exec = x at *
        clear hbel hc hsk
        go_wp2_with (go_at_call 14; refine (HSZ.out _).mono ?_; rintro e w1 ⟨⟨q, rfl, hq⟩, hl1⟩)
        · go_ret
          exact ⟨⟨-1, rfl, .inl rfl⟩, HBE.out.trans (hl1.mono HBE.out.size)⟩
        · have hq0 : 0 ≤ q := by omega
          have hqe : q = r - (p.size : Int) - (d.size : Int) := by omega
          obtain ⟨hq1, hq2⟩ := HST.out q hq0 hqe
          go_roundw
          case rel => exact ⟨k + 1, q, by omega, by go_num, rfl, hq0, hq1, hq2, HBE.out.trans (hl1.mono HBE.out.size)⟩
          case measure => simp [intOf]; omega
      · have hki : ¬ (k : Int) < (n : Int) := by omega
        obtain rfl : k = n := by omega
        go_wp2
        go_ret
        exact ⟨⟨r, rfl, .inr ⟨h0, by omega, HA.out⟩⟩, HBE.out⟩

set_option maxRecDepth 100000 in
theorem eq1_any (p d : ByteArray) (k : Int) (x : Bool) (w : World) :
    Calls Tryd.prog 24 #[.agg #[.string p, .int .i64 k, .string d, .bool x], .agg #[.string p, .int .i64 k, .string d, .bool x]] w fun e w' => e = .returned (.bool true) ∧ Below w.heap.size w w' := by
  go_enter Tryd.func24, Tryd.ntmps24
  go_wp2
  go_ret
  exact ⟨by first | rfl | simp, ((Below.refl _ _).alloc (Nat.le_refl _) _).alloc (by simp) _⟩

set_option maxRecDepth 100000 in
set_option maxHeartbeats 2000000 in
theorem eqS_any (b b' n c c' : Nat) (E : Nat → En) (w : World) (hb : EnR w b 0 n E) (hb' : EnR w b' 0 n E) (hn : n ≤ 1048576) :
    Calls Tryd.prog 9 #[.slice (some ⟨b, 0, none⟩) n c, .slice (some ⟨b', 0, none⟩) n c'] w fun e w' => e = .returned (.bool true) ∧ Below w.heap.size w w' := by
  have HB : Hid (EnR w b 0 n E) := hb
  have HB' : Hid (EnR w b' 0 n E) := hb'
  clear hb hb'
  go_enter Tryd.func9, Tryd.ntmps9
  go_wp2
  go_loopw [5] (fun i wr => ∃ k : Nat, k ≤ n ∧ i = .int .i64 (k : Int) ∧ Below w.heap.size w wr) (fun i _ => n - (intOf i).toNat)
  case atStart => exact ⟨0, Nat.zero_le _, rfl, Below.refl _ _⟩
  case round =>
    obtain ⟨k, hk, rfl, hbel⟩ := hrel
    have HBE : Hid (Below w.heap.size w wr) := hbel
    by_cases hlt : k < n
    · have hlt' : (k : Int) < (n : Int) := by omega
      have hk0 : (0 : Int) ≤ (k : Int) := by omega
      have HC : Hid (∀ W : World, Below w.heap.size w W → N4 W b (k * 4) (E k) ∧ N4 W b' (k * 4) (E k)) := fun W h => by
        have h1 := (HB.out k hlt).below h
        have h2 := (HB'.out k hlt).below h
        rw [Nat.zero_add] at h1 h2
        exact ⟨h1, h2⟩
      have HEQ : Hid (∀ W, Calls Tryd.prog 24 #[.agg #[.string (E k).path, .int .i64 (E k).kind, .string (E k).data, .bool (E k).exec], .agg #[.string (E k).path, .int .i64 (E k).kind, .string (E k).data, .bool (E k).exec]] W fun e w' => e = .returned (.bool true) ∧ Below W.heap.size W w') := fun W => eq1_any _ _ _ _ W
      unfold N4 at HC
      generalize (E k).path = p at *
      generalize (E k).kind = kd at *
      generalize (E k).data = d at *
      generalize (E k).exec = x at *
      clear hbel
      go_wp2_with fail
      go_region_held3 (fun W => (W.cell? ⟨b, k * 4, none⟩ = some (.string p) ∧ W.cell? ⟨b, k * 4 + 1, none⟩ = some (.int .i64 kd) ∧ W.cell? ⟨b, k * 4 + 2, none⟩ = some (.string d) ∧ W.cell? ⟨b, k * 4 + 3, none⟩ = some (.bool x)) ∧ W.cell? ⟨b', k * 4, none⟩ = some (.string p) ∧ W.cell? ⟨b', k * 4 + 1, none⟩ = some (.int .i64 kd) ∧ W.cell? ⟨b', k * 4 + 2, none⟩ = some (.string d) ∧ W.cell? ⟨b', k * 4 + 3, none⟩ = some (.bool x))
        (first | exact HC.out _ HBE.out.drew | exact HC.out _ hb2 | exact HC.out _ HBE.out | go_keep)
        (((go_at_call 24; refine (HEQ.out _).mono ?_; rintro e w2 ⟨rfl, hl2⟩; have hb2 : Below w.heap.size w w2 := HBE.out.drew.trans (hl2.mono HBE.out.size))))
      go_wp2_with fail
      go_roundw
      case rel => exact ⟨k + 1, by omega, by go_num, hb2⟩
      case measure => simp [intOf]; omega
    · have hlt' : ¬ (k : Int) < (n : Int) := by omega
      go_wp2
      go_ret
      exact ⟨rfl, hbel⟩

/-! ### The copy -/

theorem infoE : (Tryd.prog.info? 38).map (fun i => (i.zero, i.size, i.bytes)) = some (some (.agg #[.string ⟨#[]⟩, .int .i64 0, .string ⟨#[]⟩, .bool false]), 4, 48) := by kernel_rfl

theorem make4 {P : Program} (t e : TypeId) (z : Value) (bytes : Nat) (ht : P.underlying t = some (.slice e)) (hinfo : (P.info? e).map (fun i => (i.zero, i.size, i.bytes)) = some (some z, 4, bytes))
    (kl kc : IntKind) (n : Nat) (hbytes : bytes * n ≤ 281474976710656) (h63 : n ≤ 9223372036854775807) (w : World) :
    (Instr.makeSlice t (.int kl (n : Int)) (.int kc (n : Int))).run P w = .ok (.slice (some ⟨w.heap.size, 0, none⟩) n n) (w.alloc (.cells (madeCells z.cells (n * 4)) e)) := by
  obtain ⟨i, hi, hzz⟩ := Option.map_eq_some_iff.1 hinfo
  simp only [Prod.mk.injEq] at hzz
  obtain ⟨hz, hs, hb⟩ := hzz
  have hb' : (i.bytes : Int) * (n : Int) ≤ 281474976710656 := by
    have h : ((i.bytes * n : Nat) : Int) ≤ 281474976710656 := by rw [hb]; omega
    rwa [Int.natCast_mul] at h
  have hr := run_make (P := P) w t e i z ht hi hz kl kc n n (by omega) (Int.le_refl _) hb' (by omega)
  simp only [Int.toNat_natCast, hs] at hr
  exact hr

/-- The j-th cell of a list of entries. -/
def cellE (E : Nat → En) (j : Nat) : Value := if j % 4 = 0 then .string (E (j / 4)).path else if j % 4 = 1 then .int .i64 (E (j / 4)).kind else if j % 4 = 2 then .string (E (j / 4)).data else .bool (E (j / 4)).exec
theorem cellE0 (E : Nat → En) (k : Nat) : cellE E (k * 4) = .string (E k).path := by
  unfold cellE
  rw [if_pos (by omega), show k * 4 / 4 = k by omega]
theorem cellE1 (E : Nat → En) (k : Nat) : cellE E (k * 4 + 1) = .int .i64 (E k).kind := by
  unfold cellE
  rw [if_neg (by omega), if_pos (by omega), show (k * 4 + 1) / 4 = k by omega]
theorem cellE2 (E : Nat → En) (k : Nat) : cellE E (k * 4 + 2) = .string (E k).data := by
  unfold cellE
  rw [if_neg (by omega), if_neg (by omega), if_pos (by omega), show (k * 4 + 2) / 4 = k by omega]
theorem cellE3 (E : Nat → En) (k : Nat) : cellE E (k * 4 + 3) = .bool (E k).exec := by
  unfold cellE
  rw [if_neg (by omega), if_neg (by omega), if_neg (by omega), show (k * 4 + 3) / 4 = k by omega]

theorem enr_row {w : World} {b e n : Nat} {E : Nat → En} (h : w.rowIs b e (n * 4) (cellE E)) : EnR w b 0 n E := by
  intro i hi
  have h0 := h.cell (i := i * 4) (by omega)
  have h1 := h.cell (i := i * 4 + 1) (by omega)
  have h2 := h.cell (i := i * 4 + 2) (by omega)
  have h3 := h.cell (i := i * 4 + 3) (by omega)
  rw [cellE0] at h0
  rw [cellE1] at h1
  rw [cellE2] at h2
  rw [cellE3] at h3
  rw [Nat.zero_add]
  exact ⟨h0, h1, h2, h3⟩

theorem mk_step {w : World} {b e N m : Nat} {f : Nat → Value} {E : Nat → En} (h : w.rowIs b e N (fun j => if j < m then cellE E j else f j)) {v : Value} (hv : cellE E m = v) :
    (w.setCell ⟨b, m, none⟩ v).rowIs b e N (fun j => if j < m + 1 then cellE E j else f j) :=
  (h.set m _).congr fun i hi => by
    by_cases h : i = m
    · simp [h, hv]
    · have e : (i < m + 1) ↔ (i < m) := by omega
      simp [h, e]

theorem row4 {w : World} {b e N k : Nat} {f : Nat → Value} {E : Nat → En} (h : w.rowIs b e N (fun j => if j < k * 4 then cellE E j else f j)) :
    ((((w.setCell ⟨b, k * 4, none⟩ (.string (E k).path)).setCell ⟨b, k * 4 + 1, none⟩ (.int .i64 (E k).kind)).setCell ⟨b, k * 4 + 2, none⟩ (.string (E k).data)).setCell ⟨b, k * 4 + 3, none⟩ (.bool (E k).exec)).rowIs b e N (fun j => if j < (k + 1) * 4 then cellE E j else f j) := by
  have s0 := mk_step h (cellE0 E k)
  have s1 := mk_step (m := k * 4 + 1) s0 (cellE1 E k)
  have s2 := mk_step (m := k * 4 + 2) s1 (cellE2 E k)
  have s3 := mk_step (m := k * 4 + 3) s2 (cellE3 E k)
  refine s3.congr (fun j hj => ?_)
  rw [show (k + 1) * 4 = k * 4 + 3 + 1 by omega]

theorem rowIs_made4 (w : World) (z : Array Value) (n : Nat) (t : TypeId) (hz : z.size = 4) : (w.alloc (.cells (madeCells z (n * 4)) t)).rowIs w.heap.size t (n * 4) (fun j => z[j % 4]!) :=
  ⟨_, blk_alloc_new _ _, size_madeCells _ _, fun i hi => by simp [madeCells, hi, hz]⟩

theorem ret_cell4 {fn : Func} {i : Tmp} (hf : fn.results = #[.cell i 38]) {tmps : Array Value} {W : World} {b : Nat} {v0 v1 v2 v3 : Value} {R : Ending → World → Prop} (h4 : tmps.getD i undef = .pointer (some ⟨b, 0, none⟩))
    (k0 : W.cell? ⟨b, 0, none⟩ = some v0) (k1 : W.cell? ⟨b, 1, none⟩ = some v1) (k2 : W.cell? ⟨b, 2, none⟩ = some v2) (k3 : W.cell? ⟨b, 3, none⟩ = some v3) (hR : R (.returned (.agg #[v0, v1, v2, v3])) W) :
    bodyPost Tryd.prog fn R Exit.ret { tmps := tmps, defers := [] } W := by
  have h4' : tmps[i]?.getD undef = .pointer (some ⟨b, 0, none⟩) := by simpa using h4
  exact bodyPost_ret (v := .agg #[v0, v1, v2, v3]) (by simp [results, hf, go_sem, h4', k0, k1, k2, k3]) rfl hR

set_option maxRecDepth 100000 in
theorem to1_any (p d : ByteArray) (k : Int) (x : Bool) (w : World) :
    Calls Tryd.prog 19 #[.agg #[.string p, .int .i64 k, .string d, .bool x]] w fun r w' => r = .returned (.agg #[.string p, .int .i64 k, .string d, .bool x]) ∧ Below w.heap.size w w' := by
  go_enter Tryd.func19, Tryd.ntmps19
  go_wp2
  refine ret_cell4 Tryd.results19 rfl (v0 := .string p) (v1 := .int .i64 k) (v2 := .string d) (v3 := .bool x) (by simp [go_sem]) (by simp [go_sem]) (by simp [go_sem]) (by simp [go_sem]) ⟨rfl, (((Below.refl _ _).alloc (Nat.le_refl _) _).alloc (by simp) _).alloc (by simp; omega) _⟩

set_option maxRecDepth 100000 in
set_option maxHeartbeats 1000000 in
theorem toS_full (a : Option Addr) (n cap : Nat) (E : Nat → En) (w : World) (hb : SrcE w a n E) (hn : n ≤ 1048576) :
    Calls Tryd.prog 7 #[.slice a n cap] w fun e w' => e = .returned (.slice (some ⟨w.heap.size, 0, none⟩) n n) ∧ w'.rowIs w.heap.size 38 (n * 4) (cellE E) ∧ Below w.heap.size w w' := by
  have hmk := make4 (P := Tryd.prog) 24 38 (.agg #[.string ⟨#[]⟩, .int .i64 0, .string ⟨#[]⟩, .bool false]) 48 Tryd.underlying24 infoE .i64 .i64 n (by omega) (by omega)
  go_enter Tryd.func7, Tryd.ntmps7
  go_wp2
  clear hmk
  go_loopw [4] (fun i wr => ∃ (k : Nat) (f : Nat → Value), k ≤ n ∧ i = .int .i64 (k : Int) ∧ wr.rowIs w.heap.size 38 (n * 4) (fun j => if j < k * 4 then cellE E j else f j) ∧ Below w.heap.size w wr) (fun i _ => n - (intOf i).toNat)
  case atStart =>
    refine ⟨0, (fun j => (#[.string ⟨#[]⟩, .int .i64 0, .string ⟨#[]⟩, .bool false] : Array Value)[j % 4]!), Nat.zero_le _, rfl, ?_, (Below.refl _ _).alloc (Nat.le_refl _) _⟩
    have h4 := rowIs_made4 w #[.string ⟨#[]⟩, .int .i64 0, .string ⟨#[]⟩, .bool false] n 38 rfl
    exact h4.congr (fun j hj => by rw [if_neg (by omega)])
  case round =>
    obtain ⟨k, f, hk, rfl, hrow, hbel⟩ := hrel
    by_cases hlt : k < n
    · rcases hb with rfl | ⟨b, off, rfl, hc⟩
      · omega
      obtain ⟨g0, g1, g2, g3⟩ := (hc k hlt).below hbel
      have hki : (k : Int) < (n : Int) := by omega
      have hwl : w.heap.size < wr.heap.size := hrow.lt
      go_wp2_with (go_at_call 19; refine (to1_any _ _ _ _ _).mono ?_; rintro e w1 ⟨rfl, hl1⟩; have hrow1 := hrow.of_block (hl1.block _ hwl); have r0 := hrow1.cell (i := k * 4) (by omega); have r1 := hrow1.cell (i := k * 4 + 1) (by omega); have r2 := hrow1.cell (i := k * 4 + 2) (by omega); have r3 := hrow1.cell (i := k * 4 + 3) (by omega); have f0 := hrow1.frozen (k * 4); have f1 := hrow1.frozen (k * 4 + 1); have f2 := hrow1.frozen (k * 4 + 2); have f3 := hrow1.frozen (k * 4 + 3))
      go_roundw
      case rel =>
        exact ⟨k + 1, f, by omega, by go_num, row4 hrow1, ((((hbel.trans (hl1.mono hbel.size)).setCell (Nat.le_refl _) _).setCell (Nat.le_refl _) _).setCell (Nat.le_refl _) _).setCell (Nat.le_refl _) _⟩
      case measure => simp [intOf]; omega
    · have hki : ¬ (k : Int) < (n : Int) := by omega
      obtain rfl : k = n := by omega
      go_wp2
      go_ret
      exact ⟨rfl, hrow.congr fun i hi => by simp [hi], hbel⟩

theorem toS_any (a : Option Addr) (n cap : Nat) (E : Nat → En) (w : World) (hb : SrcE w a n E) (hn : n ≤ 1048576) :
    Calls Tryd.prog 7 #[.slice a n cap] w fun e w' => e = .returned (.slice (some ⟨w.heap.size, 0, none⟩) n n) ∧ EnR w' w.heap.size 0 n E ∧ Below w.heap.size w w' :=
  (toS_full a n cap E w hb hn).mono fun e w' ⟨h1, h2, h3⟩ => ⟨h1, enr_row h2, h3⟩

/-! ### A list of entries that came in -/

theorem cells2 : Tryd.prog.cellsOf 2 = 1 := by kernel_rfl
theorem cells4 : Tryd.prog.cellsOf 4 = 1 := by kernel_rfl
theorem cells9 : Tryd.prog.cellsOf 9 = 1 := by kernel_rfl
theorem cellsL : Tryd.prog.cellsOf 34 = 4 := by kernel_rfl

set_option maxRecDepth 100000 in
theorem node_cells {H : Type} {enc : TypeId × Value → H} {w : World} {base : Nat} {sp : Nat → Bool} {held : Bool} {fuel : Nat} {cs : List Value} {x : DataW H × List MemPlace}
    (h : DataW.trod enc Tryd.prog w base sp held fuel 34 cs = some x) : ∃ e : En, cs = [.string e.path, .int .i64 e.kind, .string e.data, .bool e.exec] ∧ e.path.size ≤ maxLen ∧ e.data.size ≤ maxLen := by
  obtain ⟨xs, n, _, rfl, hl, hlen, hf⟩ := DataW.trod_struct Tryd.underlying34 h
  rw [cellsL] at hl
  match xs, hlen, cs, hl with
  | [y0, y1, y2, y3], _, [c0, c1, c2, c3], _ =>
    have g0 := hf 0 _ rfl
    have g1 := hf 1 _ rfl
    have g2 := hf 2 _ rfl
    have g3 := hf 3 _ rfl
    simp [cells2, cells4, cells9] at g0 g1 g2 g3
    obtain ⟨z0, e0, _, hz0⟩ := DataW.trod_string Tryd.underlying9 g0
    obtain ⟨z1, e1, _, _⟩ := DataW.trod_int Tryd.underlying2 g1
    obtain ⟨z2, e2, _, hz2⟩ := DataW.trod_string Tryd.underlying9 g2
    obtain ⟨z3, e3, _⟩ := DataW.trod_bool Tryd.underlying4 g3
    simp at e0 e1 e2 e3
    subst e0 e1 e2 e3
    exact ⟨⟨z0, z1, z2, z3⟩, rfl, hz0, hz2⟩

theorem open_entries {H : Type} {enc : TypeId × Value → H} {w : World} {base : Nat} {sp : Nat → Bool} {held : Bool} {fuel : Nat} {a : Option Addr} {len cap : Nat} {x : DataW H × List MemPlace}
    (h : DataW.trod enc Tryd.prog w base sp held fuel 22 [.slice a len cap] = some x) : ∃ E : Nat → En, SrcE w a len E ∧ len ≤ maxLen ∧ ∀ i, i < len → (E i).path.size ≤ maxLen ∧ (E i).data.size ≤ maxLen := by
  rcases open_slice Tryd.underlying22 h with ⟨h0, _⟩ | ⟨a', len', cap', m, n, D, Pl, hcs, hb, hl, hm, hmm, _, hx⟩
  · simp at h0
    obtain ⟨rfl, rfl, rfl⟩ := h0
    exact ⟨fun _ => default, .inl rfl, Nat.zero_le _, fun i hi => by omega⟩
  · simp at hcs
    obtain ⟨rfl, rfl, rfl⟩ := hcs
    have hlm : len ≤ m := by rw [hmm]; split <;> omega
    have each : ∀ i, i < len → ∃ e : En, (w.cell? (a'.add (i * 4)) = some (.string e.path) ∧ w.cell? (a'.add (i * 4 + 1)) = some (.int .i64 e.kind) ∧ w.cell? (a'.add (i * 4 + 2)) = some (.string e.data) ∧ w.cell? (a'.add (i * 4 + 3)) = some (.bool e.exec)) ∧ e.path.size ≤ maxLen ∧ e.data.size ≤ maxLen := by
      intro i hi
      obtain ⟨cs', h1, h2⟩ := hx i (by omega)
      rw [cellsL] at h1
      obtain ⟨_, hlen, hcell⟩ := World.cells?_some h1
      obtain ⟨e, rfl, ht⟩ := node_cells h2
      have e0 := hcell 0 (by omega)
      have e1 := hcell 1 (by omega)
      have e2 := hcell 2 (by omega)
      have e3 := hcell 3 (by omega)
      rw [add_add] at e0 e1 e2 e3
      exact ⟨e, ⟨by simpa using e0, by simpa using e1, by simpa using e2, by simpa using e3⟩, ht⟩
    obtain ⟨q, hq⟩ := choose_lt each
    refine ⟨q, ?_, by omega, fun i hi => (hq i hi).2⟩
    rcases Nat.eq_zero_or_pos len with h0 | h0
    · exact .inl h0
    · obtain ⟨bb, off, spot⟩ := a'
      have hspot : spot = none := by simpa [Addr.add] using World.cell?_spot (hq 0 h0).1.1
      subst hspot
      refine .inr ⟨bb, off, rfl, fun i hi => ?_⟩
      obtain ⟨⟨k0, k1, k2, k3⟩, _⟩ := hq i hi
      rw [addr_add] at k0 k1 k2 k3
      exact ⟨k0, k1, k2, k3⟩

end Go.Proofs.YtjjndaiojilhiaaDoor.tt
