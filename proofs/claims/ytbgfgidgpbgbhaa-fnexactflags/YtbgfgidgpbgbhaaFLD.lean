import Derived.Test.YtbgfgidgpbgbhaaFLC
import Derived.Test.YtbgfgidgpbgbhaaKC
import Derived.Shelf.Sort.Plain
import Derived.Shelf.Slices.CompactS
import Derived.Sort.OwnSorted
import Derived.Ground.NamesProg
namespace Go.Proofs.Ytbgfgidgpbgbhaa.fl
open Go.ChangeShapes Go.WideShapes Go.ChangeAt Go.RowKit Go.Deep Go.Shelf Go.Sort
set_option linter.unusedVariables false
set_option linter.unusedSimpArgs false

end Go.Proofs.Ytbgfgidgpbgbhaa.fl
namespace Go.Proofs
open Go.Shelf
def Ytbgfgidgpbgbhaa.fl.laysSort_ren : Go.Shelf.Ren := ⟨fun | 190 => 28 | 125 => 38 | 258 => 37 | 128 => 55 | 129 => 56 | 302 => 46 | 303 => 47 | 304 => 48 | 305 => 49 | 306 => 50 | 307 => 51 | 308 => 52 | 309 => 53 | 310 => 54 | 333 => 59 | 329 => 60 | 330 => 61 | 334 => 62 | 335 => 63 | 336 => 64 | 344 => 66 | n => n, fun | 31 => 29 | 9 => 9 | 3 => 3 | 46 => 57 | 0 => 0 | 51 => 82 | 53 => 84 | 4 => 4 | 183 => 74 | 182 => 73 | 131 => 79 | 5 => 5 | 218 => 85 | 222 => 89 | 228 => 91 | 229 => 92 | n => n, fun | n => n⟩
theorem Ytbgfgidgpbgbhaa.fl.laysSort : Go.Proofs.Lays.n190 Try.prog Ytbgfgidgpbgbhaa.fl.laysSort_ren := {
  mixed := by kernel_rfl
  f125 := Try.func38.trans (congrArg some (by kernel_rfl))
  f128 := Try.func55.trans (congrArg some (by kernel_rfl))
  f129 := Try.func56.trans (congrArg some (by kernel_rfl))
  f190 := Try.func28.trans (congrArg some (by kernel_rfl))
  f258 := Try.func37.trans (congrArg some (by kernel_rfl))
  f302 := Try.func46.trans (congrArg some (by kernel_rfl))
  f303 := Try.func47.trans (congrArg some (by kernel_rfl))
  f304 := Try.func48.trans (congrArg some (by kernel_rfl))
  f305 := Try.func49.trans (congrArg some (by kernel_rfl))
  f306 := Try.func50.trans (congrArg some (by kernel_rfl))
  f307 := Try.func51.trans (congrArg some (by kernel_rfl))
  f308 := Try.func52.trans (congrArg some (by kernel_rfl))
  f309 := Try.func53.trans (congrArg some (by kernel_rfl))
  f310 := Try.func54.trans (congrArg some (by kernel_rfl))
  f329 := Try.func60.trans (congrArg some (by kernel_rfl))
  f330 := Try.func61.trans (congrArg some (by kernel_rfl))
  f333 := Try.func59.trans (congrArg some (by kernel_rfl))
  f334 := Try.func62.trans (congrArg some (by kernel_rfl))
  f335 := Try.func63.trans (congrArg some (by kernel_rfl))
  f336 := Try.func64.trans (congrArg some (by kernel_rfl))
  f344 := Try.func66.trans (congrArg some (by kernel_rfl))
  t0 := Try.underlying0
  a0 := Try.isAgg0
  z0 := Try.sizeOf0
  v0 := Try.zeroValue0
  t3 := Try.underlying3
  a3 := Try.isAgg3
  z3 := Try.sizeOf3
  v3 := Try.zeroValue3
  t4 := Try.underlying4
  a4 := Try.isAgg4
  z4 := Try.sizeOf4
  v4 := Try.zeroValue4
  t5 := Try.underlying5
  a5 := Try.isAgg5
  z5 := Try.sizeOf5
  v5 := Try.zeroValue5
  t9 := Try.underlying9
  a9 := Try.isAgg9
  z9 := Try.sizeOf9
  v9 := Try.zeroValue9
  t31 := Try.underlying29
  a31 := Try.isAgg29
  z31 := Try.sizeOf29
  v31 := Try.zeroValue29
  t46 := Try.underlying57
  a46 := Try.isAgg57
  z46 := Try.sizeOf57
  v46 := Try.zeroValue57
  t51 := Try.underlying82
  a51 := Try.isAgg82
  z51 := Try.sizeOf82
  v51 := Try.zeroValue82
  t53 := Try.underlying84
  a53 := Try.isAgg84
  z53 := Try.sizeOf84
  v53 := Try.zeroValue84
  t131 := Try.underlying79
  a131 := Try.isAgg79
  z131 := Try.sizeOf79
  v131 := Try.zeroValue79
  t182 := Try.underlying73
  a182 := Try.isAgg73
  z182 := Try.sizeOf73
  v182 := Try.zeroValue73
  t183 := Try.underlying74
  a183 := Try.isAgg74
  z183 := Try.sizeOf74
  v183 := Try.zeroValue74
  t218 := Try.underlying85
  a218 := Try.isAgg85
  z218 := Try.sizeOf85
  v218 := Try.zeroValue85
  t222 := Try.underlying89
  a222 := Try.isAgg89
  z222 := Try.sizeOf89
  v222 := Try.zeroValue89
  t228 := Try.underlying91
  a228 := Try.isAgg91
  z228 := Try.sizeOf91
  v228 := Try.zeroValue91
  t229 := Try.underlying92
  a229 := Try.isAgg92
  z229 := Try.sizeOf92
  v229 := Try.zeroValue92 }
def Ytbgfgidgpbgbhaa.fl.laysCompact_ren : Go.Shelf.Ren := ⟨fun | 194 => 29 | n => n, fun | 31 => 29 | 9 => 9 | 3 => 3 | 4 => 4 | 0 => 0 | n => n, fun | n => n⟩
theorem Ytbgfgidgpbgbhaa.fl.laysCompact : Go.Proofs.Lays.n194 Try.prog Ytbgfgidgpbgbhaa.fl.laysCompact_ren := {
  mixed := by kernel_rfl
  f194 := Try.func29.trans (congrArg some (by kernel_rfl))
  t0 := Try.underlying0
  a0 := Try.isAgg0
  z0 := Try.sizeOf0
  v0 := Try.zeroValue0
  t3 := Try.underlying3
  a3 := Try.isAgg3
  z3 := Try.sizeOf3
  v3 := Try.zeroValue3
  t4 := Try.underlying4
  a4 := Try.isAgg4
  z4 := Try.sizeOf4
  v4 := Try.zeroValue4
  t9 := Try.underlying9
  a9 := Try.isAgg9
  z9 := Try.sizeOf9
  v9 := Try.zeroValue9
  t31 := Try.underlying29
  a31 := Try.isAgg29
  z31 := Try.sizeOf29
  v31 := Try.zeroValue29 }
end Go.Proofs
namespace Go.Proofs.Ytbgfgidgpbgbhaa.fl
open Go.ChangeShapes Go.WideShapes Go.ChangeAt Go.RowKit Go.Deep Go.Shelf Go.Sort
set_option linter.unusedVariables false
set_option linter.unusedSimpArgs false

/-- A row of texts in a block that can be written. -/
structure Blk (w : World) (g cap : Nat) (xs : List (List UInt8)) : Prop where
  row : ∃ cur, w.heap[g]? = some (.cells cur 9 (0, 0)) ∧ cur.size = cap ∧ cur.toList.take xs.length = xs.map encStr
  le : xs.length ≤ cap

theorem enc_strL : (encStr : List UInt8 → Value) = strL := by funext x; rfl

theorem Blk.holds {w : World} {g cap : Nat} {xs : List (List UInt8)} (h : Blk w g cap xs) : Holds encStr w g 0 xs.toArray := by
  obtain ⟨cur, hb, _, ht⟩ := h.row
  exact holds_of_block hb ht

theorem Blk.put {w : World} {g cap n : Nat} {os : Array Obj} {xs ys : List (List UInt8)} (h : Blk w g cap xs) (zs : List (List UInt8)) (hl : (ys ++ zs).length = xs.length) : Blk (grow (putRow encStr (Sort.ahead w n) g 0 (ys ++ zs).toArray) os) g cap ys := by
  obtain ⟨cur, hb, hs, ht⟩ := h.row
  have hle := h.le
  refine ⟨⟨_, heap_sorted _ hb, by simp [putCells, hs], ?_⟩, by rw [List.length_append] at hl; omega⟩
  have := take_putCells cur (ys ++ zs) (by omega)
  have h2 := congrArg (List.take ys.length) this
  rw [List.take_take, List.map_append, List.take_left' (by simp)] at h2
  rwa [Nat.min_eq_left (by simp)] at h2

theorem sort_any (g cap : Nat) (ss : List (List UInt8)) (w : World) (h : Blk w g cap ss) (hn : ss.length ≤ 3000) :
    Calls Try.prog 28 #[.slice (some ⟨g, 0, none⟩) ss.length cap] w fun e w' => e = .returned (.tuple #[]) ∧ Blk w' g cap (ss.mergeSort fun x y => decide (x ≤ y)) ∧ w.grownBy w' (some g) := by
  have hlt : g < w.heap.size := by obtain ⟨cur, hb, _⟩ := h.row; exact (Array.getElem?_eq_some_iff.1 hb).1
  refine (Any.slices_Sort_string laysSort g 0 cap ss w h.holds hlt (by omega)).mono ?_
  rintro e w' ⟨rfl, n, os, rfl⟩
  refine ⟨rfl, ?_, grownBy_sorted _⟩
  have := h.put (n := n) (os := os) (ys := ss.mergeSort fun x y => decide (x ≤ y)) [] (by simp)
  simpa using this

theorem compact_len (zs : List (List UInt8)) : (Lib.compact zs).length ≤ zs.length := by
  unfold Lib.compact Lib.compactUpTo
  rw [List.length_map]
  have := List.length_filter_le (Lib.keeps zs.toArray) (List.range zs.length)
  simpa using this

theorem compact_any (g cap : Nat) (zs : List (List UInt8)) (w : World) (h : Blk w g cap zs) (hn : zs.length ≤ 3000) :
    Calls Try.prog 29 #[.slice (some ⟨g, 0, none⟩) zs.length cap] w fun e w' => e = .returned (.slice (some ⟨g, 0, none⟩) (Lib.compact zs).length cap) ∧ Blk w' g cap (Lib.compact zs) ∧ w.grownBy w' (some g) := by
  refine (Any.slices_Compact_string laysCompact g 0 cap zs w h.holds (by omega) h.le).mono ?_
  rintro e w' ⟨rfl, q, rfl⟩
  have hc := compact_len zs
  refine ⟨rfl, ?_, ?_⟩
  · have := h.put (n := q) (os := #[]) (ys := Lib.compact zs) (List.replicate (zs.length - (Lib.compact zs).length) []) (by rw [List.length_append, List.length_replicate]; omega)
    rwa [grow_empty] at this
  · have := grownBy_sorted (w := w) (g := g) (n := q) (os := #[]) (Lib.compact zs ++ List.replicate (zs.length - (Lib.compact zs).length) []).toArray
    rwa [grow_empty] at this

def nms (E : Nat → cd.Cn) : Nat → List (List UInt8)
  | 0 => []
  | k + 1 => if (E k).kind = 1 then nms E k ++ [(E k).name.data.toList] else nms E k
theorem nms_len (E : Nat → cd.Cn) : ∀ k, (nms E k).length ≤ k
  | 0 => by simp [nms]
  | k + 1 => by
    have := nms_len E k
    unfold nms
    split
    · simp; omega
    · omega

def flagsL (E : Nat → cd.Cn) (n : Nat) : List (List UInt8) := if cd.okAll E n = true then (nms E n).foldl fadd [] else []

theorem foldl_len : ∀ (l o : List (List UInt8)), (l.foldl fadd o).length ≤ o.length + l.length
  | [], o => by simp
  | x :: l, o => by
    have h1 := foldl_len l (fadd o x)
    have h2 := (fadd_len x o).2
    simp only [List.foldl_cons, List.length_cons]
    omega

theorem empty_row (w : World) : StrR (w.alloc (.cells #[] 9)) (.slice (some ⟨w.heap.size, 0, none⟩) 0 0) [] := ⟨_, _, _, rfl, Nat.le_refl _, by decide, fun i x hx => by simp at hx⟩

set_option maxRecDepth 100000 in
set_option maxHeartbeats 1000000 in
theorem sflags_any (E : Nat → cd.Cn) (b n cap : Nat) (hcap : n ≤ cap ∧ cap ≤ 1099511627776) (hn : n ≤ 1048576) (hs : ∀ i, i < n → (E i).name.size ≤ 1048576) (w : World) (hX : cd.XsB w b n E) :
    Calls Try.prog 11 #[.slice (some ⟨b, 0, none⟩) n cap] w fun e w' => ∃ v, e = .returned v ∧ StrR w' v (flagsL E n) ∧ Below w.heap.size w w' := by
  have B0 : Below w.heap.size w (w.alloc (.cells #[] 9)) := (Below.refl _ _).alloc (Nat.le_refl _) _
  have hX0 := hX.below B0
  have HO : Hid (∀ W, W = w.alloc (.cells #[] 9) → Calls Try.prog 7 #[.slice (some ⟨b, 0, none⟩) n cap] W fun e w' => e = .returned (.bool (cd.okAll E n)) ∧ w' = W) := fun W h => by subst h; exact cd.sok_any E b n cap hcap hn hs _ hX0
  cases hok : cd.okAll E n with
  | false =>
    have HF : Hid (flagsL E n = []) := by show _ = _; unfold flagsL; rw [hok]; rfl
    rw [hok] at HO
    clear hok
    go_enter Try.func11, Try.ntmps11
    go_wp2_with (go_at_call 7; refine (HO.out _ rfl).mono ?_; rintro e wx ⟨rfl, hw⟩; obtain rfl := hw.symm; clear hw)
    go_ret
    exact ⟨_, rfl, by rw [HF.out]; exact empty_row w, B0⟩
  | true =>
    have HF : Hid (flagsL E n = (nms E n).foldl fadd []) := by show _ = _; unfold flagsL; rw [hok]; rfl
    have hn3 : n ≤ 300 := by unfold cd.okAll at hok; simp only [Bool.and_eq_true, decide_eq_true_eq] at hok; exact hok.1.2
    rw [hok] at HO
    clear hok
    go_enter Try.func11, Try.ntmps11
    go_wp2_with (go_at_call 7; refine (HO.out _ rfl).mono ?_; rintro e wx ⟨rfl, hw⟩; obtain rfl := hw.symm; clear hw)
    go_loopw [3, 4] (fun v x wr => ∃ j : Nat, j ≤ n ∧ x = .int .i64 (j : Int) ∧ StrR wr v ((nms E j).foldl fadd []) ∧ Below w.heap.size w wr) (fun _ x _ => n - (intOf x).toNat)
    case atStart => exact ⟨0, Nat.zero_le _, rfl, empty_row w, B0⟩
    case round =>
      obtain ⟨j, hj, rfl, hR, hbel⟩ := hrel
      have hl1 := foldl_len (nms E j) []
      have hl2 := nms_len E j
      have HR : Hid (StrR wr u3 ((nms E j).foldl fadd [])) := hR
      have hsz := hbel.size
      by_cases hjl : j < n
      · have hjl' : (j : Int) < (n : Int) := by omega
        obtain ⟨g0, g1, g2⟩ := (hX.below hbel) j hjl
        by_cases hk : (E j).kind = 1
        · have HN : Hid ((nms E (j + 1)).foldl fadd [] = fadd ((nms E j).foldl fadd []) (E j).name.data.toList) := by
            show _ = _
            rw [nms, if_pos hk, List.foldl_append]; rfl
          rw [hk] at g0
          clear hk hR
          go_wp2_with (go_at_call 26; refine (sadd_any _ _ _ _ HR.out (by simp at hl1; omega)).mono ?_; rintro e w1 ⟨v1, rfl, hR1, hb1⟩)
          go_roundw
          case rel => exact ⟨j + 1, by omega, by go_num, by rw [HN.out]; exact hR1, hbel.trans (hb1.mono hsz)⟩
          case measure => simp [intOf]; omega
        · have HN : Hid ((nms E (j + 1)).foldl fadd [] = (nms E j).foldl fadd []) := by show _ = _; rw [nms, if_neg hk]
          have hkb : ((E j).kind == 1) = false := by simpa using hk
          clear hR
          go_wp2
          go_roundw
          case rel => exact ⟨j + 1, by omega, by go_num, by rw [HN.out]; exact HR.out, hbel⟩
          case measure => simp [intOf]; omega
      · have hjl' : ¬ (j : Int) < (n : Int) := by omega
        obtain rfl : j = n := by omega
        clear hR
        go_wp2
        go_ret
        exact ⟨_, rfl, by rw [HF.out]; exact HR.out, hbel⟩

end Go.Proofs.Ytbgfgidgpbgbhaa.fl
