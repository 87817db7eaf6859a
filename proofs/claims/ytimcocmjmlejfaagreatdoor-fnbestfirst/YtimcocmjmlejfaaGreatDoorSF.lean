import Derived.Test.YtimcocmjmlejfaaGreatDoorSE
namespace Go.Proofs.YtimcocmjmlejfaaGreatDoor.sv
open Go.ChangeShapes Go.WideShapes Go.ChangeAt Go.RowKit Go.Deep Go.Proofs.YtimcocmjmlejfaaGreatDoor.vr
set_option linter.unusedVariables false
set_option linter.unusedSimpArgs false

theorem Am.start (w : World) (xs : List (List UInt8)) : Am w (((w.alloc (.cells #[.slice none 0 0, .slice none 0 0] 47)).alloc (.cells (madeCells #[.slice none 0 0] xs.length) 57)).alloc (.cells #[.slice none 0 0, .slice (some ⟨w.heap.size + 1, 0, none⟩) xs.length xs.length] 47)) xs 0 none 0 0 (fun _ => False) := by
  have hrow : (((w.alloc (.cells #[.slice none 0 0, .slice none 0 0] 47)).alloc (.cells (madeCells #[.slice none 0 0] xs.length) 57)).alloc (.cells #[.slice none 0 0, .slice (some ⟨w.heap.size + 1, 0, none⟩) xs.length xs.length] 47)).heap[w.heap.size + 1]? = some (.cells (madeCells #[.slice none 0 0] xs.length) 57 (0, 0)) := by
    show (((w.heap.push _).push _).push _)[w.heap.size + 1]? = _
    rw [Array.getElem?_push, if_neg (by simp), Array.getElem?_push, if_pos (by simp)]
  refine ⟨?_, ⟨.slice none 0 0, .slice none 0 0, ?_⟩, ⟨_, hrow, size_madeCells _ _⟩, ?_, fun i hi => ⟨none, 0, 0, ?_, fun h => by omega⟩, fun b h => h.elim, ?_, by simp⟩
  · show (((w.heap.push _).push _).push _)[w.heap.size + 1 + 1]? = _
    rw [Array.getElem?_push, if_pos (by simp)]
  · show (((w.heap.push _).push _).push _)[w.heap.size]? = _
    rw [Array.getElem?_push, if_neg (by simp; omega), Array.getElem?_push, if_neg (by simp), Array.getElem?_push, if_pos rfl]
  · exact ⟨rfl, .inl ⟨rfl, rfl⟩⟩
  · rw [cell_heap hrow, ← Array.getElem?_toList, toList_madeCells_one]
    simp [hi]
  · exact (((Below.refl _ _).alloc (Nat.le_refl _) _).alloc (by simp) _).alloc (by simp; omega) _

theorem Am.mid {w w1 w2 : World} {xs : List (List UInt8)} {k n c : Nat} {a : Option Addr} {K : Nat → Prop} (h : Am w w1 xs k a n c K) {o : Obj} (hg : (w1.alloc o).grownBy w2 (Value.slice a n c).ownBlock) :
    w2.heap[w.heap.size + 1 + 1]? = some (.cells #[.slice a n c, .slice (some ⟨w.heap.size + 1, 0, none⟩) xs.length xs.length] 47 (0, 0)) ∧ ∃ cs, w2.heap[w.heap.size + 1]? = some (.cells cs 57 (0, 0)) ∧ cs.size = xs.length := by
  have hbig := h.big
  have keep : ∀ b, b < w.heap.size + 3 → w2.heap[b]? = w1.heap[b]? := fun b hb => by
    rw [hg.block b (by simp; omega) (fun e => by have := (own_lt h.own e.symm).1; omega)]
    exact ((Below.refl w1.heap.size w1).alloc (Nat.le_refl _) o).block b (by omega)
  obtain ⟨cs, e, q⟩ := h.row
  exact ⟨(keep _ (by omega)).trans h.list, cs, (keep _ (by omega)).trans e, q⟩

theorem vof_yes {xs : List (List UInt8)} {k : Nat} (ho : okP xs k = true) (hs : (xs[k]?.getD []).length ≤ 1048576) (W : World) :
    Calls Tryz.prog 35 #[.string ⟨(xs[k]?.getD []).toArray⟩] W fun e w' => ∃ a n c, e = .returned (.tuple #[.slice a n c, .bool true]) ∧ RowI w' (.slice a n c) (pl xs k) ∧ (∀ ad, a = some ad → W.heap.size ≤ ad.block ∧ ad.block < w'.heap.size) ∧ Below W.heap.size W w' := by
  refine (versionOf_any ⟨(xs[k]?.getD []).toArray⟩ (by show (xs[k]?.getD []).toArray.size ≤ _; simpa using hs) W).mono ?_
  rintro e w' ⟨⟨h, _⟩ | ⟨ps, v, h, rfl, hO⟩, hl⟩
  · have := pl_ver ho
    rw [show (⟨(xs[k]?.getD []).toArray⟩ : ByteArray).data.toList = xs[k]?.getD [] from by simp] at h
    rw [h] at this; cases this
  · have hp := pl_ver ho
    rw [show (⟨(xs[k]?.getD []).toArray⟩ : ByteArray).data.toList = xs[k]?.getD [] from by simp] at h
    rw [h] at hp
    obtain rfl := Option.some.inj hp
    obtain ⟨a, c, rfl⟩ := own_shape hO
    exact ⟨a, _, c, rfl, OwnI.row hO, fun ad e => by subst e; exact own_lt hO rfl, hl⟩

theorem vof_no {xs : List (List UInt8)} {k : Nat} (ho : okP xs k = false) (hs : (xs[k]?.getD []).length ≤ 1048576) (W : World) :
    Calls Tryz.prog 35 #[.string ⟨(xs[k]?.getD []).toArray⟩] W fun e w' => e = .returned (.tuple #[.slice none 0 0, .bool false]) ∧ Below W.heap.size W w' := by
  refine versionOf_no (by show (xs[k]?.getD []).toArray.size ≤ _; simpa using hs) ?_ W
  rw [show (⟨(xs[k]?.getD []).toArray⟩ : ByteArray).data.toList = xs[k]?.getD [] from by simp]
  unfold okP at ho
  simpa using ho

set_option maxRecDepth 100000 in
set_option maxHeartbeats 2000000 in
theorem among_any (xs : List (List UInt8)) (v : Value) (w : World) (hR : sr.StrR w v xs) (hn : xs.length ≤ 2000) (hs : ∀ i, i < xs.length → (xs[i]?.getD []).length ≤ 1048576) :
    Calls Tryz.prog 21 #[v] w fun e w' => ∃ a n c K, e = .returned (.agg #[.slice a n c, .slice (some ⟨w.heap.size + 1, 0, none⟩) xs.length xs.length]) ∧ AtR w' (w.heap.size + 1) K xs xs.length ∧ w'.ownsRow (w.heap.size + 3) 3 1 (.slice a n c) (plc xs xs.length).length ((plc xs xs.length).map iv) ∧ Below w.heap.size w w' := by
  obtain ⟨bb, off, cap, rfl, h1, h2, hc⟩ := hR
  have HC : Hid (∀ i, i < xs.length → w.cell? ⟨bb, off + i, none⟩ = some (.string ⟨(xs[i]?.getD []).toArray⟩)) := fun i hi => hc i _ (by simp [hi])
  have HS : Hid (∀ i, i < xs.length → (xs[i]?.getD []).length ≤ 1048576) := hs
  have hmk : ∀ w : World, (Instr.makeSlice 45 (.int .i64 (xs.length : Int)) (.int .i64 (xs.length : Int))).run Tryz.prog w = .ok (.slice (some ⟨w.heap.size, 0, none⟩) xs.length xs.length) (w.alloc (.cells (madeCells (Value.slice none 0 0).cells xs.length) 57)) := fun w => mkv_run xs.length (by omega) w
  clear hc hs
  go_enter Tryz.func21, Tryz.ntmps21
  go_wp2
  clear hmk
  go_loopw [4, 5, 6, 7, 14] (fun _ _ _ _ x wr => ∃ (k : Nat) (a : Option Addr) (n c : Nat) (K : Nat → Prop), k ≤ xs.length ∧ x = .int .i64 (k : Int) ∧ Am w wr xs k a n c K) (fun _ _ _ _ x _ => xs.length - (intOf x).toNat)
  case atStart => exact ⟨0, none, 0, 0, fun _ => False, Nat.zero_le _, rfl, Am.start w xs⟩
  case round =>
    obtain ⟨k, a, n, c, K, hk, rfl, hA⟩ := hrel
    have HA : Hid (Am w wr xs k a n c K) := hA
    have hsz := hA.big
    by_cases hkl : k < xs.length
    · have hk' : (k : Int) < (xs.length : Int) := by omega
      have c0 : wr.cell? ⟨bb, off + k, none⟩ = some (.string ⟨(xs[k]?.getD []).toArray⟩) := (hA.bel.cell (p := ⟨bb, _, none⟩) (World.block_lt_of_cell? _ _ (HC.out k hkl))).trans (HC.out k hkl)
      have hlen : (plc xs k).length ≤ 2000 := by have := plc_len xs k; omega
      have hsk := HS.out k hkl
      cases ho : okP xs k with
      | false =>
        have HV : Hid (∀ W, Calls Tryz.prog 35 #[.string ⟨(xs[k]?.getD []).toArray⟩] W fun e w' => e = .returned (.tuple #[.slice none 0 0, .bool false]) ∧ Below W.heap.size W w') := fun W => vof_no ho hsk W
        have HO : Hid (okP xs k = false) := ho
        obtain ⟨S, hS⟩ : ∃ S : ByteArray, (⟨(xs[k]?.getD []).toArray⟩ : ByteArray) = S := ⟨_, rfl⟩
        rw [hS] at HV c0
        clear hA ho hS hsk
        go_wp2_with (go_at_call 35; refine (HV.out _).mono ?_; rintro e w1 ⟨rfl, hl1⟩)
        go_roundw
        case rel => exact ⟨k + 1, a, n, c, K, by omega, by go_num, (HA.out.still hl1).skip HO.out⟩
        case measure => simp [intOf]; omega
      | true =>
        have HV : Hid (∀ W, Calls Tryz.prog 35 #[.string ⟨(xs[k]?.getD []).toArray⟩] W fun e w' => ∃ a n c, e = .returned (.tuple #[.slice a n c, .bool true]) ∧ RowI w' (.slice a n c) (pl xs k) ∧ (∀ ad, a = some ad → W.heap.size ≤ ad.block ∧ ad.block < w'.heap.size) ∧ Below W.heap.size W w') := fun W => vof_yes ho hsk W
        have HO : Hid (okP xs k = true) := ho
        obtain ⟨S, hS⟩ : ∃ S : ByteArray, (⟨(xs[k]?.getD []).toArray⟩ : ByteArray) = S := ⟨_, rfl⟩
        rw [hS] at HV c0
        clear hA ho hS hsk
        go_wp2_with (first
          | (go_at_call 35; refine (HV.out _).mono ?_; rintro e w1 ⟨a1, n1, c1, rfl, hr1, hb1, hl1⟩; have HA1 : Hid (Am w w1 xs k a n c K) := HA.out.still hl1; have HR1 : Hid (RowI w1 (.slice a1 n1 c1) (pl xs k) ∧ (∀ ad, a1 = some ad → wr.heap.size ≤ ad.block ∧ ad.block < w1.heap.size)) := ⟨hr1, hb1⟩; have hs1 := hl1.size; have cL : w1.cell? ⟨w.heap.size + 1 + 1, 0, none⟩ = some (.slice a n c) := by rw [cell_heap HA1.out.list]; rfl
             clear hr1 hb1)
          | (at_builtin; refine app_at _ rfl _ _ rfl (w.heap.size + 3) (.slice a n c) (plc xs k) rfl (HA1.out.own.alloc _) ⟨_, 0, none⟩ 1 1 [k] rfl rfl (one_int _ _) (by omega) (by simp; omega) ?_; intro a2 n2 c2 w2 hown2 hg2 hat2; obtain ⟨hL2, cs2, hA2, hcs2⟩ := HA1.out.mid hg2
             have cL2 : w2.cell? ⟨w.heap.size + 1 + 1, 0, none⟩ = some (.slice a n c) := by rw [cell_heap hL2]; rfl
             have fL2 : w2.frozen? ⟨w.heap.size + 1 + 1, 0, none⟩ = false := frozen_heap hL2
             have cL3 : (w2.setCell ⟨w.heap.size + 1 + 1, 0, none⟩ (.slice a2 n2 c2)).cell? ⟨w.heap.size + 1 + 1, 1, none⟩ = some (.slice (some ⟨w.heap.size + 1, 0, none⟩) xs.length xs.length) := by rw [cell_heap (heap_set hL2)]; rfl
             obtain ⟨y3, cA3⟩ : ∃ y, (w2.setCell ⟨w.heap.size + 1 + 1, 0, none⟩ (.slice a2 n2 c2)).cell? ⟨w.heap.size + 1, k, none⟩ = some y := by rw [cell_heap (by rw [heap_oth (by omega)]; exact hA2)]; exact ⟨_, Array.getElem?_eq_getElem (by omega)⟩
             have fA3 : (w2.setCell ⟨w.heap.size + 1 + 1, 0, none⟩ (.slice a2 n2 c2)).frozen? ⟨w.heap.size + 1, k, none⟩ = false := frozen_heap (by rw [heap_oth (by omega)]; exact hA2)
             have HH2 : Hid (w2.ownsRow (w.heap.size + 3) 3 1 (.slice a2 n2 c2) (plc xs k ++ [k]).length ((plc xs k ++ [k]).map iv) ∧ (w1.alloc (.cells #[.int .i64 (k : Int)] 3)).grownBy w2 (Value.slice a n c).ownBlock ∧ ((Value.slice a2 n2 c2).ownBlock = (Value.slice a n c).ownBlock ∨ (Value.slice a2 n2 c2).ownBlock = some (w1.alloc (.cells #[.int .i64 (k : Int)] 3)).heap.size)) := ⟨hown2, hg2, hat2⟩
             clear hown2 hg2 hat2 hL2 hA2 hcs2)
          | go_in)
        go_roundw
        case rel => exact ⟨k + 1, a2, n2, c2, _, by omega, by go_num, HA1.out.more hkl HO.out hs1 (fun b hb => (HA.out.ks b hb).2.1) HA.out.big (fun b hb => (own_lt HA.out.own hb).2) HR1.out.1 HR1.out.2 _ HH2.out.1 HH2.out.2.1 HH2.out.2.2⟩
        case measure => simp [intOf]; omega
    · have hk' : ¬ (k : Int) < (xs.length : Int) := by omega
      obtain rfl : k = xs.length := by omega
      obtain ⟨x, y, hres⟩ := hA.res
      have cL0 : wr.cell? ⟨w.heap.size + 1 + 1, 0, none⟩ = some (.slice a n c) := by rw [cell_heap hA.list]; rfl
      have cL1 : wr.cell? ⟨w.heap.size + 1 + 1, 1, none⟩ = some (.slice (some ⟨w.heap.size + 1, 0, none⟩) xs.length xs.length) := by rw [cell_heap hA.list]; rfl
      have cR0 : wr.cell? ⟨w.heap.size, 0, none⟩ = some x := by rw [cell_heap hres]; rfl
      have cR1 : wr.cell? ⟨w.heap.size, 1, none⟩ = some y := by rw [cell_heap hres]; rfl
      have fR0 : wr.frozen? ⟨w.heap.size, 0, none⟩ = false := frozen_heap hres
      have fR1 : wr.frozen? ⟨w.heap.size, 1, none⟩ = false := frozen_heap hres
      have HRS : Hid (wr.heap[w.heap.size]? = some (.cells #[x, y] 47 (0, 0))) := hres
      clear hA hres
      go_wp2
      have hR2 := heap_set (i := 1) (v := .slice (some ⟨w.heap.size + 1, 0, none⟩) xs.length xs.length) (heap_set (i := 0) (v := .slice a n c) HRS.out)
      refine ret_cell2 Tryz.results21 rfl (by rw [cell_heap hR2]; rfl) (by rw [cell_heap hR2]; rfl) ⟨a, n, c, rfl, ⟨K, ?_⟩, ?_, ?_⟩
      · intro i hi
        obtain ⟨a1, n1, c1, e, r⟩ := HA.out.at_ i hi
        have ko : ∀ b, b ≠ w.heap.size → ((wr.setCell ⟨w.heap.size, 0, none⟩ (.slice a n c)).setCell ⟨w.heap.size, 1, none⟩ (.slice (some ⟨w.heap.size + 1, 0, none⟩) xs.length xs.length)).heap[b]? = wr.heap[b]? := fun b hb => by rw [heap_oth hb, heap_oth hb]
        refine ⟨a1, n1, c1, (World.cell?_of_block (a := ⟨w.heap.size + 1, i, none⟩) (ko (w.heap.size + 1) (by omega))).trans e, fun h1 h2 => ⟨RowI.kept (r h1 h2).1 (fun ad e => ko _ ?_), (r h1 h2).2⟩⟩
        have := (HA.out.ks _ ((r h1 h2).2 ad e)).1
        omega
      · exact ownsRow_setCell_below (ownsRow_setCell_below HA.out.own (a := ⟨w.heap.size, 0, none⟩) (by simp) _) (a := ⟨w.heap.size, 1, none⟩) (by simp) _
      · exact (HA.out.bel.setCell (Nat.le_refl _) _).setCell (Nat.le_refl _) _

end Go.Proofs.YtimcocmjmlejfaaGreatDoor.sv
