import Derived.Test.YtbhhigmdmjlkaaaDU0
namespace Go.Proofs.Ytbhhigmdmjlkaaa.du
open Go.ChangeShapes Go.WideShapes Go.ChangeAt Go.RowKit Go.Deep
open Go.Proofs.Ytbhhigmdmjlkaaa.dr (Draws Tab below_can once_can int_any tab_new)
set_option linter.unusedVariables false
set_option linter.unusedSimpArgs false

theorem tab_grown {W W' : World} {b m : Nat} {r : Option Nat} (h : Tab W b m) (hg : W.grownBy W' r) (hne : r ≠ some b) : Tab W' b m := fun x hx => by
  obtain ⟨y, h1, h2⟩ := h x hx
  exact ⟨y, h1, hg.cell h2 (fun e => hne e.symm)⟩
theorem wtS_le {l : List ByteArray} (h : ∀ x ∈ l, x.size ≤ 64) : ty.wtS l ≤ 65 * l.length := by
  unfold ty.wtS ty.wtkS
  rw [List.take_length]
  induction l with
  | nil => simp
  | cons x l ih =>
    have h1 := h x (by simp)
    have h2 := ih fun y hy => h y (by simp [hy])
    simp only [List.map_cons, List.sum_cons, List.length_cons] at h2 ⊢
    omega
theorem mem_app1 {l : List ByteArray} {x : ByteArray} (h : ∀ y ∈ l, y.size ≤ 64) (hx : x.size ≤ 64) : ∀ y ∈ l ++ [x], y.size ≤ 64 := fun y hy => by
  rcases List.mem_append.1 hy with k | k
  · exact h y k
  · simp only [List.mem_singleton] at k; subst k; exact hx
theorem tr_nil (lo : Nat) (w : World) (h : lo ≤ w.heap.size) : TR lo (w.alloc (.cells #[] 9)) (.slice (some ⟨w.heap.size, 0, none⟩) 0 0) [] := World.ownsRow_made w #[] 0 h (Nat.zero_le _) rfl

/-- Names as they are drawn. -/
structure DN (w wr : World) (c : Nat) (a : Option Addr) (n cap : Nat) (v : Value) (br : List ByteArray) : Prop where
  row : TR w.heap.size wr v br
  nn : ∃ g e, v = .slice (some ⟨g, 0, none⟩) br.length e
  sm : ∀ x ∈ br, x.size ≤ 64
  dr : Draws w wr c a n cap
  tab : Tab wr (w.heap.size + 1) 7
  ne : v.ownBlock ≠ some (w.heap.size + 1)
theorem DN.draws {w wr w' : World} {c : Nat} {a : Option Addr} {n cap : Nat} {v : Value} {br : List ByteArray} (h : DN w wr c a n cap v br) (hcw : c < w.heap.size) (d : Draws wr w' c a n cap) : DN w w' c a n cap v br :=
  ⟨h.row.kept d.grown (.inr (h.row.low hcw)), h.nn, h.sm, h.dr.trans d, h.tab.draws d (by omega), h.ne⟩
theorem DN.below {w wr w' : World} {c : Nat} {a : Option Addr} {n cap : Nat} {v : Value} {br : List ByteArray} (h : DN w wr c a n cap v br) (hc : dr.Can w c a n cap) (hcw : c < w.heap.size) (d : Below wr.heap.size wr w') : DN w w' c a n cap v br :=
  ⟨h.row.below d, h.nn, h.sm, h.dr.below hc hcw d, h.tab.below d, h.ne⟩
theorem DN.app {w wr w' : World} {c : Nat} {a : Option Addr} {n cap : Nat} {v v' : Value} {br : List ByteArray} {x : ByteArray} (h : DN w wr c a n cap v br) (hc : dr.Can w c a n cap) (hcw : c < w.heap.size) (ht : TR w.heap.size w' v' (br ++ [x])) (hx : x.size ≤ 64) (hg : wr.grownBy w' v.ownBlock) (hv : v'.ownBlock = v.ownBlock ∨ v'.ownBlock = some wr.heap.size) : DN w w' c a n cap v' (br ++ [x]) := by
  have hws := h.dr.grown.size
  have hlt : w.heap.size + 1 < wr.heap.size := by
    obtain ⟨y, _, hy⟩ := h.tab 0 (by omega)
    exact World.block_lt_of_cell? _ _ hy
  refine ⟨ht, ?_, mem_app1 h.sm hx, draws_mid h.dr hc hcw ⟨hg.os, hg.tape, hg.output, hg.size, fun j hj => hg.block j (by omega) fun e => by have := (World.ownsRow.lt h.row j e.symm).1; omega⟩, tab_grown h.tab hg h.ne, ?_⟩
  · rcases ht.2 with ⟨_, k⟩ | ⟨g', c', _, k, _⟩
    · simp at k
    · exact ⟨g', c', k⟩
  · rcases hv with e | e
    · rw [e]; exact h.ne
    · rw [e]; intro e2; have := Option.some.inj e2; omega

set_option maxHeartbeats 4000000 in
set_option maxRecDepth 100000 in
theorem dnames_any {w : World} {c : Nat} {a : Option Addr} {n cap : Nat} (hc : dr.Can w c a n cap) (hcw : c < w.heap.size) :
    Calls Try.prog 14 #[.pointer (some ⟨c, 0, none⟩)] w fun e w' => ∃ v br, e = .returned v ∧ br.length ≤ 7 ∧ DN w w' c a n cap v br := by
  have HC : Hid (dr.Can w c a n cap) := hc
  have HT0 : Hid (∀ arr : Array Value, 7 = arr.size → arr.all dr.strOk = true → DN w ((w.alloc (.cells #[] 9)).alloc (.cells arr 9)) c a n cap (.slice (some ⟨w.heap.size, 0, none⟩) 0 0) []) := fun arr h1 h2 =>
    ⟨(tr_nil _ w (Nat.le_refl _)).below ((Below.refl _ _).alloc (Nat.le_refl _) _), ⟨_, _, rfl⟩, fun x hx => by simp at hx, (hc.refl.alloc hc hcw _).alloc hc hcw _, by have := tab_new (w.alloc (.cells #[] 9)) arr 7 h1 h2; simpa using this, by simp [Value.ownBlock]⟩
  go_enter Try.func14, Try.ntmps14
  go_wp2
  go_loopw [3, 5] (fun v i wr => ∃ (j : Nat) (br : List ByteArray), i = .int .i64 (j : Int) ∧ j ≤ 7 ∧ br.length ≤ j ∧ DN w wr c a n cap v br) (fun _ i _ => 7 - (intOf i).toNat)
  case atStart => exact ⟨0, [], rfl, Nat.zero_le _, Nat.le_refl _, HT0.out _ rfl (by kernel_rfl)⟩
  case round =>
    obtain ⟨j, br, rfl, hj, hbl, hd⟩ := hrel
    have HD : Hid (DN w wr c a n cap u3 br) := hd
    clear hd HT0
    by_cases hlt : j < 7
    · have hlt' : (j : Int) < 7 := by omega
      have hj0 : (0 : Int) ≤ (j : Int) := by omega
      go_wp2_with (go_at_call 34; refine (once_can (hc.draws HD.out.dr) 3 (by decide) (by decide)).mono ?_; rintro e w2 ⟨o2, rfl, d2⟩; refine Hid.out ?_)
      refine Lib.hid ?_
      have HD2 : Hid (DN w w2 c a n cap u3 br) := HD.out.draws hcw d2
      clear HD d2
      cases o2
      · go_wp2
        go_roundw
        case rel => exact ⟨j + 1, br, by go_num, by omega, by omega, HD2.out⟩
        case measure => simp [intOf]; omega
      · obtain ⟨y, hy, hcy⟩ := HD2.out.tab j hlt
        obtain ⟨g, e, rfl⟩ := HD2.out.nn
        have HDA : Hid (DN w (w2.alloc (.cells #[.string y] 9)) c a n cap (.slice (some ⟨g, 0, none⟩) br.length e) br) := HD2.out.below hc hcw ((Below.refl _ _).alloc (Nat.le_refl _) _)
        go_wp2_with (at_builtin; refine tx_list _ rfl _ _ rfl HDA.out.row HDA.out.dr.grown.size (by omega) rfl ⟨w2.heap.size, 0, none⟩ y rfl (cell_one_new w2 _ _) ?_; intro v3 w3 t3 g3 p3; refine Hid.out ?_)
        refine Lib.hid ?_
        have HD3 : Hid (DN w w3 c a n cap v3 (br ++ [y])) := HDA.out.app hc hcw t3 hy g3 p3
        clear t3 g3 p3 HDA
        go_wp2
        go_roundw
        case rel => exact ⟨j + 1, br ++ [y], by go_num, by omega, by simp; omega, HD3.out⟩
        case measure => simp [intOf]; omega
    · have hlt' : ¬ (j : Int) < 7 := by omega
      go_wp2
      go_ret
      exact ⟨_, rfl, br, by omega, HD.out⟩

end Go.Proofs.Ytbhhigmdmjlkaaa.du
