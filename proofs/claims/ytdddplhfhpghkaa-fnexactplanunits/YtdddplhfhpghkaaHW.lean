import Derived.Test.YtdddplhfhpghkaaHP
import Derived.Test.YtdddplhfhpghkaaFD
import Derived.Test.YtdddplhfhpghkaaLQ
import Derived.Lib.Hide
namespace Go.Proofs.Ytdddplhfhpghkaa.hp
open Go.ChangeShapes Go.WideShapes Go.ChangeAt Go.RowKit Go.Deep Go.Maps
set_option linter.unusedVariables false
set_option linter.unusedSimpArgs false

/-! ### Heaps of numbers in memory -/

/-- All but some blocks stays. -/
structure Oth (X : Nat → Prop) (w w' : World) : Prop where
  os : w'.os = w.os
  tape : w'.tape = w.tape
  output : w'.output = w.output
  size : w.heap.size ≤ w'.heap.size
  block : ∀ k, k < w.heap.size → ¬ X k → w'.heap[k]? = w.heap[k]?
theorem Oth.refl (X : Nat → Prop) (w : World) : Oth X w w := ⟨rfl, rfl, rfl, Nat.le_refl _, fun _ _ _ => rfl⟩
theorem Oth.trans {X : Nat → Prop} {a b c : World} (h : Oth X a b) (k : Oth X b c) : Oth X a c :=
  ⟨k.os.trans h.os, k.tape.trans h.tape, k.output.trans h.output, Nat.le_trans h.size k.size, fun i hi hx => (k.block i (Nat.lt_of_lt_of_le hi h.size) hx).trans (h.block i hi hx)⟩
theorem Oth.mono {X Y : Nat → Prop} {a b : World} (h : Oth X a b) (hy : ∀ k, k < a.heap.size → X k → Y k) : Oth Y a b := ⟨h.os, h.tape, h.output, h.size, fun i hi hx => h.block i hi fun h2 => hx (hy i hi h2)⟩
theorem Oth.below {X : Nat → Prop} {B : Nat} {a b : World} (h : Oth X a b) (hB : B ≤ a.heap.size) (hx : ∀ k, k < B → ¬ X k) : Below B a b := ⟨h.os, h.tape, h.output, h.size, fun i hi => h.block i (by omega) (hx i hi)⟩
theorem Oth.of_below {X : Nat → Prop} {a b : World} (h : Below a.heap.size a b) : Oth X a b := ⟨h.os, h.tape, h.output, h.size, fun i hi _ => h.block i hi⟩
theorem Oth.cell {X : Nat → Prop} {a b : World} (h : Oth X a b) {p : Addr} {v : Value} (hp : ¬ X p.block) (hc : a.cell? p = some v) : b.cell? p = some v :=
  (World.cell?_of_block (h.block p.block (World.block_lt_of_cell? _ _ hc) hp)).trans hc
theorem Oth.set {X : Nat → Prop} {a b : World} (h : Oth X a b) {g o : Nat} (hx : X g) (v : Value) : Oth X a (b.setCell ⟨g, o, none⟩ v) :=
  ⟨h.os, h.tape, h.output, by have := h.size; simpa using this, fun k hk hn => (ty.blk_oth (fun e => hn (by rw [e]; exact hx))).trans (h.block k hk hn)⟩
theorem Oth.drew {X : Nat → Prop} {a b : World} (h : Oth X a b) : Oth X a b.drew := ⟨h.os, h.tape, h.output, h.size, h.block⟩

/-- A row that a heap lies in. -/
structure Rw (M : Nat) (w : World) (g cap : Nat) (l : List Nat) : Prop where
  new : M ≤ g
  row : ∃ F, w.rowIs g 3 cap F ∧ ∀ k, k < l.length → F k = .int .i64 (gt l k : Int)
  le : l.length ≤ cap
  max : cap ≤ maxLen
theorem Rw.cell {M : Nat} {w : World} {g cap : Nat} {l : List Nat} (h : Rw M w g cap l) {k : Nat} (hk : k < l.length) : w.cell? ⟨g, k, none⟩ = some (.int .i64 (gt l k : Int)) := by
  obtain ⟨F, hr, hF⟩ := h.row
  have := h.le
  rw [hr.cell (by omega), hF k hk]
theorem Rw.lt {M : Nat} {w : World} {g cap : Nat} {l : List Nat} (h : Rw M w g cap l) : g < w.heap.size := by obtain ⟨F, hr, _⟩ := h.row; exact hr.lt
theorem Rw.fz {M : Nat} {w : World} {g cap : Nat} {l : List Nat} (h : Rw M w g cap l) (k : Nat) : w.frozen? ⟨g, k, none⟩ = false := by obtain ⟨F, hr, _⟩ := h.row; exact hr.frozen k
theorem Rw.kept {M : Nat} {w w' : World} {g cap : Nat} {l : List Nat} (h : Rw M w g cap l) (e : w'.heap[g]? = w.heap[g]?) : Rw M w' g cap l := by
  obtain ⟨F, hr, hF⟩ := h.row
  exact ⟨h.new, ⟨F, hr.of_block e, hF⟩, h.le, h.max⟩
theorem Rw.take {M : Nat} {w : World} {g cap : Nat} {l : List Nat} (h : Rw M w g cap l) (m : Nat) : Rw M w g cap (l.take m) := by
  obtain ⟨F, hr, hF⟩ := h.row
  have := h.le
  exact ⟨h.new, ⟨F, hr, fun k hk => by rw [List.length_take] at hk; rw [gt_take (by omega)]; exact hF k (by omega)⟩, by rw [List.length_take]; omega, h.max⟩
theorem Rw.swp {M : Nat} {w : World} {g cap : Nat} {l : List Nat} (h : Rw M w g cap l) {i j : Nat} (hi : i < l.length) (hj : j < l.length) : Rw M ((w.setCell ⟨g, i, none⟩ (.int .i64 (gt l j : Int))).setCell ⟨g, j, none⟩ (.int .i64 (gt l i : Int))) g cap (swp l i j) := by
  obtain ⟨F, hr, hF⟩ := h.row
  refine ⟨h.new, ⟨_, (hr.set i _).set j _, fun k hk => ?_⟩, by rw [swp_len]; exact h.le, h.max⟩
  rw [swp_len] at hk
  rw [swp_gt hi hj]
  by_cases e : k = j
  · simp only [if_pos e]
  · by_cases e2 : k = i
    · simp only [if_neg e, if_pos e2]
    · simp only [if_neg e, if_neg e2]; exact hF k hk

/-- A heap's slice: nil, or a row. -/
def Hv (M : Nat) (w : World) (v : Value) (l : List Nat) : Prop := (v = .slice none 0 0 ∧ l = []) ∨ ∃ g cap, v = .slice (some ⟨g, 0, none⟩) l.length cap ∧ Rw M w g cap l
theorem Hv.own {M : Nat} {w : World} {v : Value} {l : List Nat} (h : Hv M w v l) : w.ownsRow M 3 1 v l.length (fi.nV l) := by
  rcases h with ⟨rfl, rfl⟩ | ⟨g, cap, rfl, h⟩
  · exact World.ownsRow_nil _ _ _ _
  · obtain ⟨F, ⟨c, hb, hc, hcs⟩, hF⟩ := h.row
    have hle := h.le
    refine ⟨by rw [fi.nV_len, Nat.mul_one], .inr ⟨g, cap, c, rfl, h.new, hb, h.le, h.max, by rw [hc, Nat.mul_one], ?_⟩⟩
    rw [Nat.mul_one]
    apply List.ext_getElem?
    intro k
    rw [List.getElem?_take]
    by_cases hk : k < l.length
    · rw [if_pos hk, fi.nV_at hk, Array.getElem?_toList, hcs k (by omega), hF k hk, gt_eq hk]
    · rw [if_neg hk, List.getElem?_eq_none (by rw [fi.nV_len]; omega)]
theorem Hv.of_own {M : Nat} {w : World} {v : Value} {l : List Nat} (h : w.ownsRow M 3 1 v l.length (fi.nV l)) : Hv M w v l := by
  rcases h.2 with ⟨rfl, hn⟩ | ⟨g, cap, cur, rfl, hb, hg, hn, hm, hs, ht⟩
  · exact .inl ⟨rfl, List.eq_nil_of_length_eq_zero hn⟩
  · rw [Nat.mul_one] at hs ht
    refine .inr ⟨g, cap, rfl, hb, ⟨fun k => cur[k]?.getD default, ⟨cur, hg, hs, fun k hk => by rw [Array.getElem?_eq_getElem (by omega)]; simp [Array.getElem?_eq_getElem (show k < cur.size by omega)]⟩, fun k hk => ?_⟩, hn, hm⟩
    have h1 := fi.nV_at hk
    rw [← ht, List.getElem?_take, if_pos hk, Array.getElem?_toList] at h1
    show cur[k]?.getD default = _
    rw [h1, gt_eq hk]
    rfl
theorem Hv.kept {M : Nat} {w w' : World} {v : Value} {l : List Nat} (h : Hv M w v l) (e : ∀ g, M ≤ g → g < w.heap.size → v.ownBlock = some g → w'.heap[g]? = w.heap[g]?) : Hv M w' v l := by
  rcases h with h | ⟨g, cap, rfl, h⟩
  · exact .inl h
  · exact .inr ⟨g, cap, rfl, h.kept (e g h.new h.lt rfl)⟩
theorem Hv.some {M : Nat} {w : World} {v : Value} {l : List Nat} (h : Hv M w v l) (h0 : 0 < l.length) : ∃ g cap, v = .slice (some ⟨g, 0, none⟩) l.length cap ∧ Rw M w g cap l := by
  rcases h with ⟨_, rfl⟩ | h
  · simp at h0
  · exact h
theorem Hv.len {M : Nat} {w : World} {v : Value} {l : List Nat} (h : Hv M w v l) : ∃ a cap, v = .slice a l.length cap := by
  rcases h with ⟨rfl, rfl⟩ | ⟨g, cap, rfl, _⟩
  · exact ⟨_, _, rfl⟩
  · exact ⟨_, _, rfl⟩

set_option maxRecDepth 100000 in
set_option maxHeartbeats 4000000 in
theorem swap_any (M g cap : Nat) (l : List Nat) (i j : Nat) (w : World) (h : Rw M w g cap l) (hi : i < l.length) (hj : j < l.length) (hl : l.length ≤ 1000) :
    Calls Try.prog 97 #[.slice (some ⟨g, 0, none⟩) l.length cap, .int .i64 (i : Int), .int .i64 (j : Int)] w fun e w' => e = .returned (.tuple #[]) ∧ Rw M w' g cap (swp l i j) ∧ Oth (fun k => k = g) w w' := by
  obtain ⟨wd, hwd⟩ : ∃ z, w.drew = z := ⟨_, rfl⟩
  have hd : Rw M wd g cap l := by rw [← hwd]; exact h.kept rfl
  have HR := Lib.hid (hd.swp hi hj)
  have HO : Hid (Oth (fun k => k = g) w ((wd.setCell ⟨g, i, none⟩ (.int .i64 (gt l j : Int))).setCell ⟨g, j, none⟩ (.int .i64 (gt l i : Int)))) := by
    show Oth _ _ _
    rw [← hwd]
    exact ((Oth.refl _ _).drew.set (X := fun k => k = g) rfl _).set rfl _
  have c1 := hd.cell hi
  have c2 := hd.cell hj
  have f1 := hd.fz i
  have f2 := hd.fz j
  have f3 : (wd.setCell ⟨g, i, none⟩ (.int .i64 (gt l j : Int))).frozen? ⟨g, j, none⟩ = false := by
    obtain ⟨F, hr, _⟩ := hd.row
    exact (hr.set i _).frozen j
  have c3 : ∃ v, (wd.setCell ⟨g, i, none⟩ (.int .i64 (gt l j : Int))).cell? ⟨g, j, none⟩ = some v := by
    obtain ⟨F, hr, _⟩ := hd.row
    have := hd.le
    exact ⟨_, (hr.set i _).cell (by omega)⟩
  obtain ⟨v3, c3⟩ := c3
  obtain ⟨n, hn⟩ : ∃ n, l.length = n := ⟨_, rfl⟩
  rw [hn] at hi hj hl ⊢
  have hi0 : (0 : Int) ≤ (i : Int) := by omega
  have hj0 : (0 : Int) ≤ (j : Int) := by omega
  have hi' : (i : Int) < (n : Int) := by omega
  have hj' : (j : Int) < (n : Int) := by omega
  clear h hn hd
  go_enter Try.func97, Try.ntmps97
  refine wp_region_held_drew (S := fun _ => True) (by kernel_rfl) trivial (fun hHeld => ?_)
  rw [hwd]
  clear hwd
  refine uq (i := 0) rfl ?_
  try simp only [aP]
  refine uq (i := 1) rfl ?_
  try simp only [aP]
  refine uq (i := 2) rfl ?_
  try simp only [aP]
  refine uq (i := 3) rfl ?_
  try simp only [aP]
  refine uq (i := 4) rfl ?_
  try simp only [aP]
  refine uq (i := 5) rfl ?_
  try simp only [aP]
  refine uq (i := 8) rfl ?_
  try simp only [aP]
  refine uq (i := 9) rfl ?_
  try simp only [aP]
  refine uq (i := 6) rfl ?_
  try simp only [aP]
  refine uq (i := 10) rfl ?_
  try simp only [aP]
  refine wpAnyH_ready (rs := [7, 11]) (by kernel_rfl) (by simp) ?_
  refine cq rfl (fun K hK => ?_) (cq rfl (fun K hK => ?_) AllReadyH.nil)
  · go_simp
    try go_wp2_with fail
    refine hK.out _ _ (trivial) (fun hHeld => ?_)
    clear hK K
    try simp only [aP]
    refine rq 11 rfl fun K hK => ?_
    go_simp
    try go_wp2_with fail
    refine hK.out _ _ (trivial) (fun hHeld => ?_)
    clear hK K
    try simp only [aP]
    refine rq 12 rfl fun K hK => ?_
    go_simp
    try go_wp2_with fail
    refine hK.out _ _ (trivial) (fun hHeld => ?_)
    clear hK K
    try simp only [aP]
    refine rq 13 rfl fun K hK => ?_
    go_simp
    try go_wp2_with fail
    refine hK.out _ _ (trivial) (fun hHeld => ?_)
    clear hK K
    try simp only [aP]
    refine rq 14 rfl fun K hK => ?_
    go_simp
    try go_wp2_with fail
    refine hK.out _ _ (trivial) (fun hHeld => ?_)
    clear hK K
    try simp only [aP]
    refine rq 15 rfl fun K hK => ?_
    go_simp
    try go_wp2_with fail
    refine hK.out _ _ (trivial) (fun hHeld => ?_)
    clear hK K
    try simp only [aP]
    refine dq ?_
    go_wp2_with fail
    go_end0
    exact ⟨rfl, HR.out, HO.out⟩
  · go_simp
    try go_wp2_with fail
    refine hK.out _ _ (trivial) (fun hHeld => ?_)
    clear hK K
    try simp only [aP]
    refine rq 7 rfl fun K hK => ?_
    go_simp
    try go_wp2_with fail
    refine hK.out _ _ (trivial) (fun hHeld => ?_)
    clear hK K
    try simp only [aP]
    refine rq 12 rfl fun K hK => ?_
    go_simp
    try go_wp2_with fail
    refine hK.out _ _ (trivial) (fun hHeld => ?_)
    clear hK K
    try simp only [aP]
    refine rq 13 rfl fun K hK => ?_
    go_simp
    try go_wp2_with fail
    refine hK.out _ _ (trivial) (fun hHeld => ?_)
    clear hK K
    try simp only [aP]
    refine rq 14 rfl fun K hK => ?_
    go_simp
    try go_wp2_with fail
    refine hK.out _ _ (trivial) (fun hHeld => ?_)
    clear hK K
    try simp only [aP]
    refine rq 15 rfl fun K hK => ?_
    go_simp
    try go_wp2_with fail
    refine hK.out _ _ (trivial) (fun hHeld => ?_)
    clear hK K
    try simp only [aP]
    refine dq ?_
    go_wp2_with fail
    go_end0
    exact ⟨rfl, HR.out, HO.out⟩

end Go.Proofs.Ytdddplhfhpghkaa.hp
