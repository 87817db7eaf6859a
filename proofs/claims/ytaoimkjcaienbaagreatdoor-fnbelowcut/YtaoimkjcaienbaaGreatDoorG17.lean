import Derived.Test.YtaoimkjcaienbaaGreatDoorG16
import Derived.Test.YtaoimkjcaienbaaGreatDoorG03
import Derived.Deep.DeepAppendRoom
import Derived.Test.YtaoimkjcaienbaaGreatDoorG04
import Derived.Deep.QuietTactic
import Derived.BigQuiet
import Derived.Test.YtaoimkjcaienbaaGreatDoorG05
import Derived.Test.YtaoimkjcaienbaaGreatDoorG06
import Derived.RangeFuncCalls
import Derived.RangeFuncLeaves
import Derived.Shelf.Abstract
import Derived.Shelf.RegionOpen
import Derived.WalkKit
import Derived.OwnWalkIn
import Derived.TacticsInMore
import Derived.LoopNIn
import Derived.LoopIn
import Derived.Test.YtaoimkjcaienbaaGreatDoorG13
import Derived.Maps.Own
import Derived.Maps.OwnOps
import Derived.Maps.OwnSet
import Derived.Handy
namespace Go.Proofs.YtaoimkjcaienbaaGreatDoor.sr
open Go.ChangeShapes Go.WideShapes Go.ChangeAt Go.RowKit Go.Deep Go.Shelf Go.Sort
set_option linter.unusedVariables false
set_option linter.unusedSimpArgs false

/-! ### addressesAmong, clonedTexts -/

theorem Blk.row' {w : World} {g cap : Nat} {xs : List (List UInt8)} (h : Blk w g cap xs) (hm : cap ≤ maxLen) : StrR w (.slice (some ⟨g, 0, none⟩) xs.length cap) xs := by
  obtain ⟨cur, hb, hs, ht⟩ := h.row
  refine ⟨g, 0, cap, rfl, h.le, hm, fun i x hx => ?_⟩
  have hi := (List.getElem?_eq_some_iff.1 hx).1
  have h1 : (cur.toList.take xs.length)[i]? = (xs.map encStr)[i]? := by rw [ht]
  rw [List.getElem?_take_of_lt hi, List.getElem?_map, hx, Array.getElem?_toList] at h1
  rw [Nat.zero_add]
  simp [World.cell?, hb, h1, enc_strL]
theorem Blk.lt {w : World} {g cap : Nat} {xs : List (List UInt8)} (h : Blk w g cap xs) : g < w.heap.size := by obtain ⟨cur, hb, _⟩ := h.row; exact (Array.getElem?_eq_some_iff.1 hb).1
theorem Blk.kept {w w' : World} {g cap : Nat} {xs : List (List UInt8)} (h : Blk w g cap xs) (hb : w'.heap[g]? = w.heap[g]?) : Blk w' g cap xs := by
  obtain ⟨cur, h1, h2⟩ := h.row
  exact ⟨⟨cur, hb.trans h1, h2⟩, h.le⟩

theorem blk_own' {w : World} {B : Nat} {v : Value} {xs : List (List UInt8)} (h : OwnS B w v xs) : ∃ g cap, v = .slice (some ⟨g, 0, none⟩) xs.length cap ∧ B ≤ g ∧ cap ≤ maxLen ∧ Blk w g cap xs := by
  obtain ⟨hl, h'⟩ := h.1
  rcases h' with ⟨e, _⟩ | ⟨g, cap, cur, rfl, hb, hg, hc, hm, hz, ht⟩
  · exact absurd e h.2
  · exact ⟨g, cap, rfl, hb, hm, ⟨⟨cur, hg, by omega, by rw [enc_strL]; simpa using ht⟩, hc⟩⟩

theorem bel_grown {B g : Nat} {w w1 w2 : World} (h : Below B w w1) (hg : w1.grownBy w2 (some g)) (hB : B ≤ w1.heap.size) (hb : B ≤ g) : Below B w w2 := h.grown hg hB (fun k hk => by cases hk; exact hb)

def adr (xs : List (List UInt8)) : List (List UInt8) := (xs.filter aokL).foldl fadd []
theorem adr_len (xs : List (List UInt8)) : (adr xs).length ≤ xs.length := by
  have h1 := foldl_len (xs.filter aokL) []
  have h2 := List.length_filter_le aokL xs
  unfold adr
  simp at h1
  omega

set_option maxHeartbeats 4000000 in
set_option maxRecDepth 100000 in
theorem among_any (xs : List (List UInt8)) (hx : ∀ x ∈ xs, x.length ≤ 1048576) (v : Value) (w : World) (hR : StrR w v xs) (hn : xs.length ≤ 4000) (hT : wd.TabB w) :
    Calls Tryz.prog 101 #[v] w fun e w' => (∃ g c, e = .returned (.slice (some ⟨g, 0, none⟩) (adr xs).length c) ∧ w.heap.size ≤ g ∧ c ≤ maxLen ∧ Blk w' g c (adr xs)) ∧ Below w.heap.size w w' := by
  have HLV : Hid (Calls Tryz.prog 97 #[] w fun e w' => e = .returned (.map (some w.heap.size)) ∧ pf.LV w' w.heap.size ∧ Below w.heap.size w w') := wd.lv_any w hT
  have HCL : Hid (∀ W, Below w.heap.size w W → Calls Tryz.prog 134 #[v] W fun e w' => ∃ v', e = .returned v' ∧ OwnS W.heap.size w' v' xs ∧ Below W.heap.size W w') := fun W hb => clone_any xs v W (hR.below hb) hn
  have HDL : Hid (∀ W g cap vb mb, Blk W g cap xs → W.cell? ⟨vb, 0, none⟩ = some (.map (some mb)) → pf.LV W mb → vb ≠ g → mb ≠ g → Calls Tryz.prog 133 #[.slice (some ⟨g, 0, none⟩) xs.length cap, .func (.func 135) #[] #[.pointer (some ⟨vb, 0, none⟩)]] W fun e w' => e = .returned (.slice (some ⟨g, 0, none⟩) (xs.filter aokL).length cap) ∧ Blk w' g cap (xs.filter aokL) ∧ W.grownBy w' (some g)) := fun W g cap vb mb h1 h2 h3 h4 h5 => del_any g cap vb mb xs hx W h1 hn h2 h3 h4 h5
  have hfl : (xs.filter aokL).length ≤ 4000 := by have := List.length_filter_le aokL xs; omega
  have HSO : Hid (∀ W v', StrR W v' (xs.filter aokL) → Calls Tryz.prog 137 #[v', FV] W fun e w' => ∃ v', e = .returned v' ∧ OwnS W.heap.size w' v' (srt 12 (xs.filter aokL)) ∧ Below W.heap.size W w') := fun W v' h => sorted_all 12 (xs.filter aokL) v' W h (by simp; omega) hfl
  have HCO : Hid (∀ W g cap, Blk W g cap (srt 12 (xs.filter aokL)) → Calls Tryz.prog 136 #[.slice (some ⟨g, 0, none⟩) (srt 12 (xs.filter aokL)).length cap] W fun e w' => e = .returned (.slice (some ⟨g, 0, none⟩) (adr xs).length cap) ∧ Blk w' g cap (adr xs) ∧ W.grownBy w' (some g)) := fun W g cap h => by
    have := compact_any g cap (srt 12 (xs.filter aokL)) W h (by rw [srt_len]; exact hfl)
    rw [srt_compact 12 (xs.filter aokL) (by simp; omega)] at this
    exact this
  clear hR hx hn hT hfl
  obtain ⟨n, hnn⟩ : ∃ t, xs.length = t := ⟨_, rfl⟩
  obtain ⟨ys, hys⟩ : ∃ t, xs.filter aokL = t := ⟨_, rfl⟩
  obtain ⟨zs, hzs⟩ : ∃ t, srt 12 ys = t := ⟨_, rfl⟩
  obtain ⟨rs, hrs⟩ : ∃ t, adr xs = t := ⟨_, rfl⟩
  rw [hys] at HDL HSO HCO
  rw [hzs] at HSO HCO
  rw [hrs] at HCO ⊢
  have HNN : Hid (xs.length = n) := hnn
  rw [hnn] at HDL
  clear hnn hys hzs hrs
  go_enter Tryz.func101, Tryz.ntmps101
  go_wp2_with (first
    | (go_at_call 97; refine HLV.out.mono ?_; rintro e w1 ⟨rfl, hlv, hl1⟩; have HL1 : Hid (pf.LV w1 w.heap.size) := hlv; have hs1 := hl1.size; clear hlv)
    | (go_at_call 134; refine (HCL.out _ (hl1.alloc hl1.size _)).mono ?_; rintro e w2 ⟨v2, rfl, hv2, hl2⟩; refine Hid.out ?_))
  refine Lib.hid ?_
  obtain ⟨g, cap, hve, hg2, hcm, hbk⟩ := blk_own' hv2
  rw [HNN.out] at hve
  subst hve
  have HB2 : Hid (Blk w2 g cap xs) := hbk
  rw [World.size_alloc] at hg2
  have hlt1 : w.heap.size < w1.heap.size := HL1.out.lt
  have HC2 : Hid (w2.cell? ⟨w1.heap.size, 0, none⟩ = some (.map (some w.heap.size))) := by
    show _ = _
    rw [(bcell hl2).1 w1.heap.size 0 (by simp)]
    simp [go_sem]
  have HL2 : Hid (pf.LV w2 w.heap.size) := by
    have h0 : pf.LV (w1.alloc (.cells #[.map (some w.heap.size)] 126)) w.heap.size := World.ownsMap.alloc HL1.out _
    exact h0.below hl2
  have B2 : Below w.heap.size w w2 := (hl1.alloc hl1.size _).trans (hl2.mono (by rw [World.size_alloc]; omega))
  clear hv2 hbk hl1 hl2
  go_wp2_with (go_at_call 133; refine (HDL.out _ g cap _ _ HB2.out HC2.out HL2.out (by omega) (by omega)).mono ?_; rintro e w3 ⟨rfl, hb3, hg3⟩; refine Hid.out ?_)
  refine Lib.hid ?_
  have HR3 : Hid (StrR w3 (.slice (some ⟨g, 0, none⟩) ys.length cap) ys) := hb3.row' hcm
  have B3 : Below w.heap.size w w3 := bel_grown B2 hg3 B2.size (by omega)
  clear hb3 hg3
  go_wp2_with (go_at_call 137; refine (HSO.out _ _ HR3.out).mono ?_; rintro e w4 ⟨v4, rfl, hv4, hl4⟩; refine Hid.out ?_)
  refine Lib.hid ?_
  obtain ⟨g4, cap4, hve4, hg4, hcm4, hbk4⟩ := blk_own' hv4
  subst hve4
  have HB4 : Hid (Blk w4 g4 cap4 zs) := hbk4
  have B4 : Below w.heap.size w w4 := B3.trans (hl4.mono B3.size)
  have s3 := B3.size
  clear hv4 hbk4 hl4
  go_wp2_with (go_at_call 136; refine (HCO.out _ _ _ HB4.out).mono ?_; rintro e w5 ⟨rfl, hb5, hg5⟩; have HB5 : Hid (Blk w5 g4 cap4 rs) := hb5; have HG5 : Hid (w4.grownBy w5 (some g4)) := hg5; clear hb5 hg5)
  go_ret
  exact ⟨⟨g4, cap4, rfl, by omega, hcm4, HB5.out⟩, bel_grown B4 HG5.out B4.size (by omega)⟩

end Go.Proofs.YtaoimkjcaienbaaGreatDoor.sr

namespace Go.Proofs.YtaoimkjcaienbaaGreatDoor.rf
open Go.ChangeShapes Go.WideShapes Go.ChangeAt Go.RowKit Go.Deep Go.Shelf Go.Sort
set_option linter.unusedVariables false
set_option linter.unusedSimpArgs false

/-! ### References: the plain model -/

/-- A piece stands in these bytes. -/
def Occ (d p : List UInt8) : Prop := ∃ i, i + p.length ≤ d.length ∧ (d.drop i).take p.length = p
/-- .. in the Data of one of the first n entries. -/
def InE (E : Nat → tt.En) (n : Nat) (p : List UInt8) : Prop := ∃ k, k < n ∧ Occ (E k).data.data.toList p
attribute [local instance] Classical.propDecidable
noncomputable def occB (d p : List UInt8) : Bool := decide (Occ d p)
noncomputable def inB (E : Nat → tt.En) (n : Nat) (p : List UInt8) : Bool := decide (InE E n p)
/-- The addresses among these texts whose words stand there, ascending. -/
noncomputable def rfs (E : Nat → tt.En) (n : Nat) (xs : List (List UInt8)) : List (List UInt8) := (sr.adr xs).filter fun a => inB E n (a.take 13)

theorem occB_iff {d p : List UInt8} : occB d p = true ↔ Occ d p := by unfold occB; simp
theorem inB_iff {E : Nat → tt.En} {n : Nat} {p : List UInt8} : inB E n p = true ↔ InE E n p := by unfold inB; simp

theorem filt_fold (p : List UInt8 → Bool) (xs : List (List UInt8)) : (xs.foldl sr.fadd []).filter p = (xs.filter p).foldl sr.fadd [] := by
  refine sr.asc_ext ((sr.fold_asc xs [] List.Pairwise.nil).filter _) (sr.fold_asc _ [] List.Pairwise.nil) fun x => ?_
  rw [List.mem_filter, sr.fold_mem, sr.fold_mem, List.mem_filter]
  simp

theorem rfs_spec (E : Nat → tt.En) (n : Nat) (xs : List (List UInt8)) : rfs E n xs = ((xs.filter sr.aokL).filter fun a => inB E n (a.take 13)).foldl sr.fadd [] := by
  unfold rfs sr.adr
  exact filt_fold _ _

theorem rfs_len (E : Nat → tt.En) (n : Nat) (xs : List (List UInt8)) : (rfs E n xs).length ≤ xs.length := by
  have h1 := sr.adr_len xs
  have h2 := List.length_filter_le (fun a => inB E n (a.take 13)) (sr.adr xs)
  unfold rfs
  omega

end Go.Proofs.YtaoimkjcaienbaaGreatDoor.rf

namespace Go.Proofs.YtaoimkjcaienbaaGreatDoor.rf
open Go.ChangeShapes Go.WideShapes Go.ChangeAt Go.RowKit Go.Deep Go.Shelf Go.Sort
set_option linter.unusedVariables false
set_option linter.unusedSimpArgs false

/-! ### References: the specification -/

theorem adr_long {l : List UInt8} (h : sr.aokL l = true) : 15 ≤ l.length := by
  unfold sr.aokL wd.aokB at h
  simp only [Bool.and_eq_true, decide_eq_true_eq] at h
  have : (⟨l.toArray⟩ : ByteArray).size = l.length := by show l.toArray.size = _; simp
  omega

theorem ext_at (s : ByteArray) (i n : Nat) : (s.extract i (i + n)).data.toList = (s.data.toList.drop i).take n := by
  rw [tt.bytes_ext, Nat.add_sub_cancel_left]

theorem not_occ {s p : List UInt8} (h : ∀ j, j + p.length ≤ s.length → ¬ (s.drop j).take p.length = p) : occB s p = false := by
  cases e : occB s p with
  | false => rfl
  | true =>
    obtain ⟨i, h1, h2⟩ := occB_iff.1 e
    exact absurd h2 (h i h1)

/-- What has been taken of the texts so far. -/
noncomputable def tk (E : Nat → tt.En) (n : Nat) (xs : List (List UInt8)) (i : Nat) : List (List UInt8) := (((xs.take i).filter sr.aokL).filter fun a => inB E n (a.take 13)).foldl sr.fadd []

theorem tk_no {E : Nat → tt.En} {n : Nat} {xs : List (List UInt8)} {i : Nat} {x : List UInt8} (hx : xs[i]? = some x) (h : sr.aokL x = false ∨ inB E n (x.take 13) = false) : tk E n xs (i + 1) = tk E n xs i := by
  unfold tk
  rw [List.take_add_one, hx]
  simp only [Option.toList_some, List.filter_append, List.foldl_append]
  rcases h with h | h
  · simp [List.filter_cons, h]
  · cases e : sr.aokL x <;> simp [List.filter_cons, h, e]
theorem tk_yes {E : Nat → tt.En} {n : Nat} {xs : List (List UInt8)} {i : Nat} {x : List UInt8} (hx : xs[i]? = some x) (h1 : sr.aokL x = true) (h2 : inB E n (x.take 13) = true) : tk E n xs (i + 1) = sr.fadd (tk E n xs i) x := by
  unfold tk
  rw [List.take_add_one, hx]
  simp [List.filter_cons, List.filter_append, List.foldl_append, h1, h2]
theorem tk_len (E : Nat → tt.En) (n : Nat) (xs : List (List UInt8)) (i : Nat) : (tk E n xs i).length ≤ xs.length := by
  unfold tk
  have h1 := sr.foldl_len (((xs.take i).filter sr.aokL).filter fun a => inB E n (a.take 13)) []
  have h2 := List.length_filter_le (fun a => inB E n (a.take 13)) ((xs.take i).filter sr.aokL)
  have h3 := List.length_filter_le sr.aokL (xs.take i)
  have h4 : (xs.take i).length ≤ xs.length := by simp; omega
  simp only [List.length_nil] at h1
  omega
theorem tk_end (E : Nat → tt.En) (n : Nat) (xs : List (List UInt8)) : tk E n xs xs.length = rfs E n xs := by
  unfold tk
  rw [List.take_length, rfs_spec]

end Go.Proofs.YtaoimkjcaienbaaGreatDoor.rf

namespace Go.Proofs.YtaoimkjcaienbaaGreatDoor.tt
open Go.RowKit Go.Shelf Go.Proofs.YtaoimkjcaienbaaGreatDoor.rt
attribute [local go_sem] Oper.semAt_some
set_option linter.unusedVariables false
set_option linter.unusedSimpArgs false

end Go.Proofs.YtaoimkjcaienbaaGreatDoor.tt
namespace Go.Proofs
open Go.Shelf
def YtaoimkjcaienbaaGreatDoor.tt.laysIX_ren : Go.Shelf.Ren := ⟨fun | 143 => 126 | 219 => 163 | 217 => 180 | 225 => 181 | 224 => 182 | 267 => 183 | 266 => 185 | 314 => 186 | n => n, fun | 9 => 9 | 3 => 3 | 4 => 4 | 5 => 5 | 46 => 104 | 146 => 185 | 51 => 180 | n => n, fun | 1 => 1 | n => n⟩
theorem YtaoimkjcaienbaaGreatDoor.tt.laysIX : Go.Proofs.Lays.n143 Tryz.prog YtaoimkjcaienbaaGreatDoor.tt.laysIX_ren := {
  mixed := by kernel_rfl
  f143 := Tryz.func126.trans (congrArg some (by kernel_rfl))
  f217 := Tryz.func180.trans (congrArg some (by kernel_rfl))
  f219 := Tryz.func163.trans (congrArg some (by kernel_rfl))
  f224 := Tryz.func182.trans (congrArg some (by kernel_rfl))
  f225 := Tryz.func181.trans (congrArg some (by kernel_rfl))
  f266 := Tryz.func185.trans (congrArg some (by kernel_rfl))
  f267 := Tryz.func183.trans (congrArg some (by kernel_rfl))
  f314 := Tryz.func186.trans (congrArg some (by kernel_rfl))
  t3 := Tryz.underlying3
  a3 := Tryz.isAgg3
  z3 := Tryz.sizeOf3
  v3 := Tryz.zeroValue3
  t4 := Tryz.underlying4
  a4 := Tryz.isAgg4
  z4 := Tryz.sizeOf4
  v4 := Tryz.zeroValue4
  t5 := Tryz.underlying5
  a5 := Tryz.isAgg5
  z5 := Tryz.sizeOf5
  v5 := Tryz.zeroValue5
  t9 := Tryz.underlying9
  a9 := Tryz.isAgg9
  z9 := Tryz.sizeOf9
  v9 := Tryz.zeroValue9
  t46 := Tryz.underlying104
  a46 := Tryz.isAgg104
  z46 := Tryz.sizeOf104
  v46 := Tryz.zeroValue104
  t51 := Tryz.underlying180
  a51 := Tryz.isAgg180
  z51 := Tryz.sizeOf180
  v51 := Tryz.zeroValue180
  t146 := Tryz.underlying185
  a146 := Tryz.isAgg185
  z146 := Tryz.sizeOf185
  v146 := Tryz.zeroValue185
  g1 := by kernel_rfl }
end Go.Proofs
namespace Go.Proofs.YtaoimkjcaienbaaGreatDoor.tt
open Go.RowKit Go.Shelf Go.Proofs.YtaoimkjcaienbaaGreatDoor.rt
attribute [local go_sem] Oper.semAt_some
set_option linter.unusedVariables false
set_option linter.unusedSimpArgs false
theorem ix_ren : laysIX_ren.f 143 = 126 := by kernel_rfl

theorem seq_any (s : ByteArray) (w : World) :
    Calls Tryz.prog 106 #[.string s, .string ⟨#[47]⟩] w fun e w' => e = .returned (.func (.func 167) #[] #[.pointer (some ⟨w.heap.size + 1, 0, none⟩), .pointer (some ⟨w.heap.size, 0, none⟩), .pointer (some ⟨w.heap.size + 1 + 1, 0, none⟩)]) ∧ w' = ((w.alloc (.cells #[.string s] 9)).alloc (.cells #[.string ⟨#[47]⟩] 9)).alloc (.cells #[.int .i64 0] 3) := by
  have HS : Hid (Calls Tryz.prog 140 #[.string s, .string ⟨#[47]⟩, .int .i64 0] w fun e w' => e = .returned (.func (.func 167) #[] #[.pointer (some ⟨w.heap.size + 1, 0, none⟩), .pointer (some ⟨w.heap.size, 0, none⟩), .pointer (some ⟨w.heap.size + 1 + 1, 0, none⟩)]) ∧ w' = ((w.alloc (.cells #[.string s] 9)).alloc (.cells #[.string ⟨#[47]⟩] 9)).alloc (.cells #[.int .i64 0] 3)) := by
    unfold Hid
    go_enter Tryz.func140, Tryz.ntmps140
    go_wp2
    go_ret
    exact ⟨rfl, rfl⟩
  go_enter Tryz.func106, Tryz.ntmps106
  go_wp2_with (go_at_call 140; refine HS.out.mono ?_; rintro e w1 ⟨rfl, rfl⟩)
  go_ret
  exact ⟨rfl, rfl⟩

theorem index_any (u : ByteArray) (w : World) :
    Calls Tryz.prog 126 #[.string u, .string ⟨#[47]⟩] w fun e w' => e = .returned (.int .i64 (Lib.index u.data.toList sl)) ∧ w' = w := by
  have := Any.strings_Index_one laysIX u 47 w
  rw [← Lib.index_one] at this
  exact this

/-- The three boxes of the iterator over a text's pieces. -/
structure Sq (W : World) (B : Nat) (u : ByteArray) : Prop where
  s : Boxed W B 9 (.string u)
  p : Boxed W (B + 1) 9 (.string ⟨#[47]⟩)
  v : Boxed W (B + 1 + 1) 3 (.int .i64 0)

def Kb (B : Nat) (W W' : World) : Prop := W.heap.size ≤ W'.heap.size ∧ W'.heap[B]? = W.heap[B]? ∧ W'.heap[B + 1]? = W.heap[B + 1]? ∧ W'.heap[B + 1 + 1]? = W.heap[B + 1 + 1]?
theorem Sq.kb {W W' : World} {B : Nat} {u : ByteArray} (h : Sq W B u) (k : Kb B W W') : Sq W' B u := ⟨k.2.1.trans h.s, k.2.2.1.trans h.p, k.2.2.2.trans h.v⟩
theorem Sq.set {W : World} {B : Nat} {u : ByteArray} (h : Sq W B u) (u' : ByteArray) : Sq (W.setCell ⟨B, 0, none⟩ (.string u')) B u' := ⟨h.s.set _, h.p.other (by omega) _, h.v.other (by omega) _⟩
theorem Sq.below {W W' : World} {B : Nat} {u : ByteArray} (h : Sq W B u) (k : Below W.heap.size W W') : Sq W' B u := h.kb ⟨k.size, k.block _ h.s.lt, k.block _ h.p.lt, k.block _ h.v.lt⟩

def PL (s : ByteArray) : List ByteArray := (spl [] s.data.toList).map fun x => ⟨x.toArray⟩
def szAt (W : World) (B : Nat) : Nat := match W.cell? ⟨B, 0, none⟩ with | some (.string u) => u.size | _ => 0
theorem szAt_of {W : World} {B : Nat} {u : ByteArray} (h : Sq W B u) : szAt W B = u.size := by unfold szAt; rw [h.s.cell]

theorem PL_miss {u : ByteArray} (h : Lib.index u.data.toList sl = -1) : PL u = [u] := by unfold PL; rw [spl_miss _ _ h]; rfl
theorem ix_lt {u : ByteArray} {i : Nat} (h : Lib.index u.data.toList sl = (i : Int)) : i < u.size := by
  have h' : Lib.indexByte u.data.toList 47 = i := by rw [← Lib.index_one]; exact h
  have := (List.getElem?_eq_some_iff.1 (Lib.indexByte_some h').1).1
  simpa using this
theorem PL_hit {u : ByteArray} {i : Nat} (h : Lib.index u.data.toList sl = (i : Int)) : PL u = u.extract 0 i :: PL (u.extract (i + 1) u.size) := by
  have hi := ix_lt h
  unfold PL
  rw [spl_hit _ _ _ h, List.map_cons, ext_drop (by omega)]
  congr 1
  apply ByteArray.ext
  apply Array.ext'
  simp

set_option maxRecDepth 100000 in
set_option maxHeartbeats 2000000 in
theorem split_hands (n B : Nat) (s : ByteArray) (hs : s.size ≤ 1048576) (w : World) (hn : 1 ≤ n) (hS : Sq w B s) :
    Hands n Tryz.prog 167 #[.pointer (some ⟨B + 1, 0, none⟩), .pointer (some ⟨B, 0, none⟩), .pointer (some ⟨B + 1 + 1, 0, none⟩)] (Kb B) (fun r => r = B) (PL s) w := by
  intro l J Jx W hW hJ hJx hY h0
  have hsW : Sq W B s := hS.below hW
  refine callsIn_of_wp Tryz.func167 rfl trivial ?_ rfl
  simp only [Tryz.ntmps167, List.size_toArray, List.length_cons, List.length_nil, Nat.reduceAdd, Nat.reduceSub, Array.replicate_succ, Array.replicate_zero, List.push_toArray, List.append_toArray, List.nil_append, List.cons_append]
  have hp0 := hsW.p.cell
  have hz1 : (ByteArray.mk #[47]).size = 1 := rfl
  gi_wp2
  gi_loopw [7, 8] (fun _ _ wr => ∃ (pre : List ByteArray) (u : ByteArray), PL s = pre ++ PL u ∧ u.size ≤ s.size ∧ Sq wr B u ∧ J pre wr) (fun _ _ wr => szAt wr B)
  case atStart => exact ⟨[], s, rfl, Nat.le_refl _, hsW, h0⟩
  case round =>
    obtain ⟨pre, u, hpl, hus, hsq, hJw⟩ := hrel
    have HPL : Hid (PL s = pre ++ PL u) := hpl
    have hc := hsq.s.cell
    have hcp := hsq.p.cell
    have hcv := hsq.v.cell
    have hB : B < wr.heap.size := hsq.s.lt
    clear hpl hp0
    by_cases hm : Lib.index u.data.toList sl = -1
    · have HI : Hid (Calls Tryz.prog 126 #[.string u, .string ⟨#[47]⟩] wr fun e w' => e = .returned (.int .i64 (-1)) ∧ w' = wr) := by
        have := index_any u wr
        rw [hm] at this
        exact this
      have HL : Hid (PL u = [u]) := PL_miss hm
      clear hm
      obtain ⟨fn, tmps, assign, body, hy, hR⟩ := hY pre u wr hJw ⟨[], by rw [HPL.out, HL.out]; simp⟩
      gi_wp2_with (refine ⟨trivial, ?_⟩; gi_at_call 126; refine (callsIn_wide.2 HI.out).mono ?_; rintro e w1 ⟨rfl, hw⟩; have hw2 := hw.symm; subst hw2; clear hw)
      refine hR.mono ?_
      rintro e W3 (⟨rfl, hJ3, hk3⟩ | ⟨rfl, hJx3⟩)
      · gi_wp2
        go_end0
        exact ⟨⟨_, rfl⟩, .inl (by rw [HPL.out, HL.out]; exact hJ3)⟩
      · gi_wp2
        go_end0
        exact ⟨⟨_, rfl⟩, .inr ⟨_, by rw [HPL.out, HL.out]; exact List.prefix_refl _, hJx3⟩⟩
    · have hge := Lib.index_ge u.data.toList sl
      obtain ⟨i, hi⟩ : ∃ i : Nat, Lib.index u.data.toList sl = (i : Int) := ⟨(Lib.index u.data.toList sl).toNat, by omega⟩
      have hlt := ix_lt hi
      have HI : Hid (Calls Tryz.prog 126 #[.string u, .string ⟨#[47]⟩] wr fun e w' => e = .returned (.int .i64 (i : Int)) ∧ w' = wr) := by
        have := index_any u wr
        rw [hi] at this
        exact this
      have HL : Hid (PL u = u.extract 0 i :: PL (u.extract (i + 1) u.size)) := PL_hit hi
      have hin : ¬ (i : Int) < 0 := by omega
      clear hm hge hi
      obtain ⟨fn, tmps, assign, body, hy, hR⟩ := hY pre (u.extract 0 i) wr hJw ⟨PL (u.extract (i + 1) u.size), by rw [HPL.out, HL.out]; simp⟩
      gi_wp2_with (refine ⟨trivial, ?_⟩; gi_at_call 126; refine (callsIn_wide.2 HI.out).mono ?_; rintro e w1 ⟨rfl, hw⟩; have hw2 := hw.symm; subst hw2; clear hw)
      refine hR.mono ?_
      rintro e W3 (⟨rfl, hJ3, hk3⟩ | ⟨rfl, hJx3⟩)
      · have hsq3 := hsq.kb hk3
        have hc3 := hsq3.s.cell
        have hf3 := hsq3.s.frozen
        have hcp3 := hsq3.p.cell
        have hlt1 : (i : Int) + 1 ≤ (u.size : Int) := by omega
        gi_wp2
        go_roundw
        case rel => exact ⟨pre ++ [u.extract 0 i], u.extract (i + 1) u.size, by rw [HPL.out, HL.out]; simp, by simp; omega, hsq3.set _, hJ _ _ _ _ hJ3 (grownBy_setCell' _ _ _) (fun r e => by cases e; rfl)⟩
        case measure => rw [szAt_of (hsq3.set _), szAt_of hsq]; simp; omega
      · gi_wp2
        refine bodyPost_ret (results_none rfl _ _ _) rfl ?_
        exact ⟨⟨_, rfl⟩, .inr ⟨_, ⟨PL (u.extract (i + 1) u.size), by rw [HPL.out, HL.out]; simp⟩, hJx3⟩⟩

end Go.Proofs.YtaoimkjcaienbaaGreatDoor.tt

namespace Go.Proofs.YtaoimkjcaienbaaGreatDoor.tt
open Go.ChangeShapes Go.WideShapes Go.ChangeAt Go.RowKit Go.Deep Go.Maps Go.Shelf Go.Proofs.YtaoimkjcaienbaaGreatDoor.rt
attribute [local go_sem] Oper.semAt_some
set_option linter.unusedVariables false
set_option linter.unusedSimpArgs false

/-! ### Trees of files: (*branch).at -/

def jo : List (List UInt8) → List UInt8
  | [] => []
  | [x] => x
  | x :: y :: r => x ++ 47 :: jo (y :: r)

theorem jo_snoc : ∀ (pre : List (List UInt8)) (x : List UInt8), pre ≠ [] → jo (pre ++ [x]) = jo pre ++ 47 :: x
  | [], _, h => absurd rfl h
  | [a], x, _ => by simp [jo]
  | a :: b :: r, x, _ => by
    have := jo_snoc (b :: r) x (by simp)
    simp only [List.cons_append] at this ⊢
    rw [jo, this, jo]
    simp

theorem spl_ne (cur l : List UInt8) : spl cur l ≠ [] := fun e => by
  have := spl_len l cur
  rw [e] at this
  simp at this

theorem jo_cons (x : List UInt8) (r : List (List UInt8)) (h : r ≠ []) : jo (x :: r) = x ++ 47 :: jo r := by
  cases r with
  | nil => exact absurd rfl h
  | cons y r => rfl

theorem jo_spl : ∀ (l cur : List UInt8), jo (spl cur l) = cur ++ l
  | [], cur => by simp [spl, jo]
  | b :: l, cur => by
    rw [spl]
    by_cases hb : b = 47
    · rw [if_pos hb, jo_cons _ _ (spl_ne _ _), jo_spl l [], hb]; simp
    · rw [if_neg hb, jo_spl l (cur ++ [b])]; simp

theorem spl_plain : ∀ (l cur : List UInt8), (∀ i : Nat, cur[i]? ≠ some 47) → ∀ x ∈ spl cur l, lst x = none
  | [], cur, h, x, hx => by
    simp [spl] at hx
    subst hx
    exact lst_no h
  | b :: l, cur, h, x, hx => by
    rw [spl] at hx
    by_cases hb : b = 47
    · rw [if_pos hb] at hx
      rcases List.mem_cons.1 hx with rfl | hx
      · exact lst_no h
      · exact spl_plain l [] (by simp) x hx
    · rw [if_neg hb] at hx
      refine spl_plain l (cur ++ [b]) (fun i e => ?_) x hx
      rcases Nat.lt_or_ge i cur.length with hi | hi
      · rw [List.getElem?_append_left hi] at e; exact h i e
      · rw [List.getElem?_append_right hi] at e
        cases hd : i - cur.length with
        | zero => rw [hd] at e; simp at e; exact hb e
        | succ m => rw [hd] at e; simp at e

theorem jo_app : ∀ (a b : List (List UInt8)), a ≠ [] → b ≠ [] → jo (a ++ b) = jo a ++ 47 :: jo b
  | [], _, h, _ => absurd rfl h
  | [x], b, _, hb => by rw [List.singleton_append, jo_cons _ _ hb]; rfl
  | x :: y :: r, b, _, hb => by
    have := jo_app (y :: r) b (by simp) hb
    simp only [List.cons_append] at this ⊢
    rw [jo, this, jo]
    simp

/-- Where the walk stands behind the pieces pre. -/
def nd (E : Nat → En) (B : Nat → Nat) (k rb : Nat) (pre : List ByteArray) : Nat := if pre = [] then rb + 1 else chd E B k (jo (pre.map (·.data.toList)))

theorem nd_all (E : Nat → En) (B : Nat → Nat) (k rb : Nat) (U : ByteArray) : nd E B k rb (PL U) = chd E B k U.data.toList := by
  have h : (PL U).map (·.data.toList) = spl [] U.data.toList := by unfold PL; rw [List.map_map]; exact (List.map_congr_left (fun x _ => by simp)).trans (List.map_id _)
  unfold nd
  rw [h, jo_spl, if_neg]
  · rfl
  · intro e
    rw [e] at h
    exact spl_ne [] U.data.toList h.symm

theorem nd_dead {E : Nat → En} {B : Nat → Nat} {k rb : Nat} (hT : Tr E k) {U : ByteArray} {pre : List ByteArray} (hp : pre <+: PL U) (h : nd E B k rb pre = 0) : chd E B k U.data.toList = 0 := by
  rw [← nd_all E B k rb U]
  obtain ⟨r, hr⟩ := hp
  unfold nd at h ⊢
  by_cases hn : pre = []
  · rw [if_pos hn] at h; cases h
  · rw [if_neg hn] at h
    rw [← hr, if_neg (by simp [hn])]
    by_cases hr0 : r = []
    · rw [hr0, List.append_nil]; exact h
    · rw [List.map_append, jo_app _ _ (by simpa using hn) (by simpa using hr0)]
      exact chd_dead hT _ _ _ (Nat.le_refl _) h

theorem PL_plain {U x : ByteArray} (h : x ∈ PL U) : lst x.data.toList = none ∧ x.size ≤ U.size := by
  unfold PL at h
  obtain ⟨l, hl, rfl⟩ := List.mem_map.1 h
  refine ⟨by simpa using spl_plain _ [] (by simp) l hl, ?_⟩
  have := spl_small _ _ l hl
  have e : (ByteArray.mk l.toArray).size = l.length := by simp [ByteArray.size]
  rw [e]
  simpa using this

end Go.Proofs.YtaoimkjcaienbaaGreatDoor.tt

namespace Go.Proofs.YtaoimkjcaienbaaGreatDoor.tt
open Go.ChangeShapes Go.WideShapes Go.ChangeAt Go.RowKit Go.Deep Go.Maps Go.Shelf Go.Proofs.YtaoimkjcaienbaaGreatDoor.rt
attribute [local go_sem] Oper.semAt_some
set_option linter.unusedVariables false
set_option linter.unusedSimpArgs false

/-! ### Trees of files: (*branch).at -/

theorem look_nil (x : ByteArray) (hx : x.size ≤ 1048576) (w : World) : (Instr.lookup 80 (.map none) (.string x) false).run Tryz.prog w = .ok (ptr 0) w := by
  have hK := string_keyed Tryz.underlying9
  rcases hK.find w (key9 x hx) [] (by simp) with ⟨f1, _⟩ | ⟨j, e0, _, f2, _⟩
  · simp [Instr.lookup, run_underlying Tryz.underlying80, hK.check w _ (key9 x hx), f1, Tryz.zeroValue77 w, Result.andThen, ptr]
  · simp at f2

theorem step {W : World} {E : Nat → En} {k rb rm N : Nat} {B M : Nat → Nat} (h : Br W E k rb rm N B M) (hT : Tr E k) {pre : List ByteArray} {b : Nat} (hb : nd E B k rb pre = b + 1) {x : ByteArray} (hx : lst x.data.toList = none) (hxs : x.size ≤ 1048576) :
    ∃ m, W.cell? ⟨b, 1, none⟩ = some (.map m) ∧ (Instr.lookup 80 (.map m) (.string x) false).run Tryz.prog W = .ok (ptr (nd E B k rb (pre ++ [x]))) W := by
  have hn2 : nd E B k rb (pre ++ [x]) = chd E B k (jo ((pre ++ [x]).map (·.data.toList))) := by unfold nd; rw [if_neg (by simp)]
  rw [hn2, List.map_append]
  by_cases hp : pre = []
  · subst hp
    have : rb = b := by simpa [nd] using hb
    subst this
    refine ⟨some rm, h.root1, ?_⟩
    rw [h.rootM.look x hxs, fM, if_pos hx]
    rfl
  · unfold nd at hb
    rw [if_neg hp] at hb
    rw [List.map_cons, List.map_nil, jo_snoc _ _ (by simpa using hp)]
    rcases chd_cases E B k (jo (pre.map (·.data.toList))) with ⟨j, hj, hpj, e⟩ | ⟨_, e⟩
    · obtain rfl : B j = b := by omega
      rw [← hpj]
      by_cases hk : (E j).kind = 1
      · obtain ⟨c, pm⟩ := h.dir j hj hk
        refine ⟨_, c, ?_⟩
        rw [pm.look x hxs, fM, if_pos hx]
        simp
      · refine ⟨_, h.leaf j hj hk, ?_⟩
        rw [look_nil x hxs, chd_leaf hT hj hk hx]
    · omega

end Go.Proofs.YtaoimkjcaienbaaGreatDoor.tt

namespace Go.Proofs.YtaoimkjcaienbaaGreatDoor.tt
open Go.ChangeShapes Go.WideShapes Go.ChangeAt Go.RowKit Go.Deep Go.Maps Go.Shelf Go.Proofs.YtaoimkjcaienbaaGreatDoor.rt
attribute [local go_sem] Oper.semAt_some
set_option linter.unusedVariables false
set_option linter.unusedSimpArgs false

/-! ### Trees of files: (*branch).at -/

/-- Behind the pieces pre. -/
structure AI (E : Nat → En) (B : Nat → Nat) (k rb : Nat) (w : World) (pre : List ByteArray) (W : World) : Prop where
  b : Boxed W w.heap.size 77 (ptr (nd E B k rb pre))
  n : nd E B k rb pre ≠ 0
  r : Boxed W (w.heap.size + 1) 77 (.pointer none)
  l : Below w.heap.size w W
/-- Where the walk has ended. -/
structure AX (E : Nat → En) (B : Nat → Nat) (k rb : Nat) (w : World) (pre : List ByteArray) (W : World) : Prop where
  n : nd E B k rb pre = 0
  r : Boxed W (w.heap.size + 1) 77 (.pointer none)
  l : Below w.heap.size w W

theorem AI.grow {E : Nat → En} {B : Nat → Nat} {k rb : Nat} {w : World} {pre : List ByteArray} {W W' : World} {row : Option Nat} (h : AI E B k rb w pre W) (hg : W.grownBy W' row) (hr : ∀ j, row = some j → w.heap.size + 1 < j) : AI E B k rb w pre W' :=
  ⟨h.b.kept hg (fun e => by have := hr _ e.symm; omega), h.n, h.r.kept hg (fun e => by have := hr _ e.symm; omega), h.l.grown hg h.l.size (fun j e => by have := hr j e; omega)⟩
theorem AX.grow {E : Nat → En} {B : Nat → Nat} {k rb : Nat} {w : World} {pre : List ByteArray} {W W' : World} {row : Option Nat} (h : AX E B k rb w pre W) (hg : W.grownBy W' row) (hr : ∀ j, row = some j → w.heap.size + 1 < j) : AX E B k rb w pre W' :=
  ⟨h.n, h.r.kept hg (fun e => by have := hr _ e.symm; omega), h.l.grown hg h.l.size (fun j e => by have := hr j e; omega)⟩

theorem kb_set {W : World} {B b : Nat} (h : b < B) (v : Value) : Kb B W (W.setCell ⟨b, 0, none⟩ v) :=
  ⟨(KeepsWalks.setCell W _ v).size, Below.heap_setCell _ _ _ _ (by show _ ≠ b; omega), Below.heap_setCell _ _ _ _ (by show _ ≠ b; omega), Below.heap_setCell _ _ _ _ (by show _ ≠ b; omega)⟩

set_option maxHeartbeats 4000000 in
set_option maxRecDepth 100000 in
theorem at_any (E : Nat → En) : AtC E := by
  intro w k rb rm N B M hBr hT hm U hU
  have HBR : Hid (∀ W, Below w.heap.size w W → Br W E k rb rm N B M) := fun W hb => hBr.below hb
  have HT : Hid (Tr E k) := hT
  have hrb : rb < w.heap.size := World.block_lt_of_cell? _ _ hBr.root0
  clear hBr hT hm
  refine (callsIn_wide (n := 3)).1 ?_
  refine callsIn_of_wp_marks Tryz.func77 rfl trivial ?_ rfl
  simp only [Tryz.ntmps77, List.size_toArray, List.length_cons, List.length_nil, Nat.reduceAdd, Nat.reduceSub, Array.replicate_succ, Array.replicate_zero, List.push_toArray, List.append_toArray, List.nil_append, List.cons_append]
  gi_wp2_with (refine ⟨trivial, ?_⟩; gi_at_call 106; refine (callsIn_wide.2 (seq_any U _)).mono ?_; rintro e w' ⟨rfl, rfl⟩)
  have bB := ((((Boxed.new w 77 (.pointer (some ⟨rb, 0, none⟩))).alloc (.cells #[.pointer none] 77)).alloc (.cells #[.string U] 9)).alloc (.cells #[.string ⟨#[47]⟩] 9)).alloc (.cells #[.int .i64 0] 3)
  have bR := (((Boxed.new (w.alloc (.cells #[.pointer (some ⟨rb, 0, none⟩)] 77)) 77 (.pointer none)).alloc (.cells #[.string U] 9)).alloc (.cells #[.string ⟨#[47]⟩] 9)).alloc (.cells #[.int .i64 0] 3)
  have b2 := ((Boxed.new ((w.alloc (.cells #[.pointer (some ⟨rb, 0, none⟩)] 77)).alloc (.cells #[.pointer none] 77)) 9 (.string U)).alloc (.cells #[.string ⟨#[47]⟩] 9)).alloc (.cells #[.int .i64 0] 3)
  have b3 := (Boxed.new (((w.alloc (.cells #[.pointer (some ⟨rb, 0, none⟩)] 77)).alloc (.cells #[.pointer none] 77)).alloc (.cells #[.string U] 9)) 9 (.string ⟨#[47]⟩)).alloc (.cells #[.int .i64 0] 3)
  have b4 := Boxed.new ((((w.alloc (.cells #[.pointer (some ⟨rb, 0, none⟩)] 77)).alloc (.cells #[.pointer none] 77)).alloc (.cells #[.string U] 9)).alloc (.cells #[.string ⟨#[47]⟩] 9)) 3 (.int .i64 0)
  simp only [World.size_alloc] at bR b2 b3 b4
  have hB0 : Below w.heap.size w (((((w.alloc (.cells #[.pointer (some ⟨rb, 0, none⟩)] 77)).alloc (.cells #[.pointer none] 77)).alloc (.cells #[.string U] 9)).alloc (.cells #[.string ⟨#[47]⟩] 9)).alloc (.cells #[.int .i64 0] 3)) := (((((Below.refl _ w).alloc (Nat.le_refl _) _).alloc (by simp) _).alloc (by simp; omega) _).alloc (by simp; omega) _).alloc (by simp; omega) _
  have hsz : (((((w.alloc (.cells #[.pointer (some ⟨rb, 0, none⟩)] 77)).alloc (.cells #[.pointer none] 77)).alloc (.cells #[.string U] 9)).alloc (.cells #[.string ⟨#[47]⟩] 9)).alloc (.cells #[.int .i64 0] 3)).heap.size = w.heap.size + 5 := by simp
  obtain ⟨W0, hW0⟩ : ∃ W0, ((((w.alloc (.cells #[.pointer (some ⟨rb, 0, none⟩)] 77)).alloc (.cells #[.pointer none] 77)).alloc (.cells #[.string U] 9)).alloc (.cells #[.string ⟨#[47]⟩] 9)).alloc (.cells #[.int .i64 0] 3) = W0 := ⟨_, rfl⟩
  rw [hW0] at bB bR b2 b3 b4 hB0 hsz ⊢
  clear hW0
  refine range_t (by decide) (gf := 167) (lb := #[.pointer (some ⟨w.heap.size + 1 + 1 + 1, 0, none⟩), .pointer (some ⟨w.heap.size + 1 + 1, 0, none⟩), .pointer (some ⟨w.heap.size + 1 + 1 + 1 + 1, 0, none⟩)]) rfl (enters_of Tryz.func167 (by kernel_rfl) rfl)
    (split_hands 2 (w.heap.size + 1 + 1) U hU W0 (by decide) ⟨b2, b3, b4⟩) (fun r e => by rw [e]; omega)
    (fun A X C h1 h2 => ⟨Nat.le_trans h1.1 h2.1, h2.2.1.trans h1.2.1, h2.2.2.1.trans h1.2.2.1, h2.2.2.2.trans h1.2.2.2⟩)
    (fun W l o o' hl h1 h2 h3 => ⟨by simp, World.putObj_heap_other (by omega), World.putObj_heap_other (by omega), World.putObj_heap_other (by omega)⟩) rfl
    (AI E B k rb w) (AX E B k rb w)
    (fun s W W' row h hg hr => h.grow hg (fun j e => by have := (hr j e).1; omega)) (fun s W W' row h hg hr => h.grow hg (fun j e => by have := (hr j e).1; omega))
    (fun s W W' row h hg hr => h.grow hg (fun j e => by have := hr j e; omega)) (fun s W W' row h hg hr => h.grow hg (fun j e => by have := hr j e; omega))
    ⟨bB, by simp [nd], bR, hB0⟩
    (fun x => { tmps := #[.pointer (some ⟨rb, 0, none⟩), .string U, .pointer (some ⟨w.heap.size, 0, none⟩), undef, .pointer (some ⟨w.heap.size + 1, 0, none⟩), .string x, .string U, .func (.func 167) #[] #[.pointer (some ⟨w.heap.size + 1 + 1 + 1, 0, none⟩), .pointer (some ⟨w.heap.size + 1 + 1, 0, none⟩), .pointer (some ⟨w.heap.size + 1 + 1 + 1 + 1, 0, none⟩)], .string x, undef, undef, undef, undef, undef, undef, undef, undef, undef], defers := [] })
    ?assign ?body ?done ?stop
  case assign =>
    intro l x W K hK
    gi_wp2
    exact hK
  case body =>
    intro l pre x W hi hp
    obtain ⟨hx, hxs⟩ := PL_plain (hp.subset (by simp : x ∈ pre ++ [x]))
    obtain ⟨b, hb⟩ : ∃ b, nd E B k rb pre = b + 1 := ⟨nd E B k rb pre - 1, by have := hi.n; omega⟩
    have hc : W.cell? ⟨w.heap.size, 0, none⟩ = some (.pointer (some ⟨b, 0, none⟩)) := by have := hi.b.cell; rwa [hb] at this
    have hf := hi.b.frozen
    have hcr := hi.r.cell
    have hfr := hi.r.frozen
    obtain ⟨m, hcm, hlk⟩ := step (HBR.out W hi.l) HT.out hb hx (by omega)
    cases hnx : nd E B k rb (pre ++ [x]) with
    | zero =>
      rw [hnx] at hlk
      have hlk' : (Instr.lookup 80 (.map m) (.string x) false).run Tryz.prog W = .ok (.pointer none) W := hlk
      clear hlk
      gi_wp2
      exact ⟨((KeepsOthers.setCell _ _ _).trans (KeepsOthers.setCell _ _ _)).from _, ⟨hnx, (hi.r.other (by omega) _).set _, (hi.l.setCell (p := ⟨w.heap.size, 0, none⟩) (Nat.le_refl _) _).setCell (p := ⟨w.heap.size + 1, 0, none⟩) (by simp) _⟩⟩
    | succ c =>
      rw [hnx] at hlk
      have hlk' : (Instr.lookup 80 (.map m) (.string x) false).run Tryz.prog W = .ok (.pointer (some ⟨c, 0, none⟩)) W := hlk
      clear hlk
      gi_wp2
      refine ⟨(KeepsOthers.setCell _ _ _).from _, kb_set (by omega) _, ⟨?_, by omega, hi.r.other (by omega) _, hi.l.setCell (p := ⟨w.heap.size, 0, none⟩) (Nat.le_refl _) _⟩⟩
      rw [hnx]
      exact hi.b.set _
  case done =>
    intro D W hD hi hK
    obtain ⟨b, hb⟩ : ∃ b, nd E B k rb (PL U) = b + 1 := ⟨nd E B k rb (PL U) - 1, by have := hi.n; omega⟩
    have hc : W.cell? ⟨w.heap.size, 0, none⟩ = some (.pointer (some ⟨b, 0, none⟩)) := by have := hi.b.cell; rwa [hb] at this
    have hcr := hi.r.cell
    have hfr := hi.r.frozen
    gi_wp2
    have hK' := (KeepsOthers.setCell W ⟨w.heap.size + 1, 0, none⟩ (.pointer (some ⟨b, 0, none⟩))).same D _ hK rfl
    refine ⟨by simp, .inl ⟨_, _, rfl, run_takeDeferred hK', ?_⟩⟩
    have hc5 := cell_kept (hi.r.set (.pointer (some ⟨b, 0, none⟩))).cell (grownBy_putObj' _ D (.deferred none)) (fun r e => by cases e; exact ⟨_, hK', rfl⟩)
    refine ⟨.pointer (some ⟨b, 0, none⟩), ?_, ?_, (hi.l.setCell (p := ⟨w.heap.size + 1, 0, none⟩) (by simp) _).trans (belowK_b (w := w) (Nat.le_refl _) _ D _ _ (by omega) hK' rfl rfl)⟩
    · simp [results, Tryz.f77, go_sem, hc5]
    · rw [← nd_all E B k rb U, hb]; rfl
  case stop =>
    intro D pre W hD hp hx hK
    have hcr := hx.r.cell
    gi_wp2
    refine ⟨by simp, .inl ⟨_, _, rfl, run_takeDeferred hK, ?_⟩⟩
    have hc5 := cell_kept hcr (grownBy_putObj' _ D (.deferred none)) (fun r e => by cases e; exact ⟨_, hK, rfl⟩)
    refine ⟨.pointer none, ?_, ?_, hx.l.trans (belowK_b (w := w) (Nat.le_refl _) _ D _ _ (by omega) hK rfl rfl)⟩
    · simp [results, Tryz.f77, go_sem, hc5]
    · rw [nd_dead HT.out hp hx.n]; rfl

end Go.Proofs.YtaoimkjcaienbaaGreatDoor.tt

namespace Go.Proofs.YtaoimkjcaienbaaGreatDoor.rf
open Go.RowKit Go.Shelf Go.Proofs.YtaoimkjcaienbaaGreatDoor.rt Go.Maps
attribute [local go_sem] Oper.semAt_some
set_option linter.unusedVariables false
set_option linter.unusedSimpArgs false

/-! ### References: the program's words -/

/-- The words in these bytes. -/
def pcs (d : ByteArray) : List ByteArray := (List.range (d.size - 12)).map fun i => d.extract i (i + 13)
def PW (E : Nat → tt.En) : Nat → List ByteArray
  | 0 => []
  | k + 1 => PW E k ++ pcs (E k).data

theorem pcs_len (d : ByteArray) : (pcs d).length = d.size - 12 := by simp [pcs]
theorem pcs_take {d : ByteArray} {m : Nat} (h : m < d.size - 12) : (pcs d).take (m + 1) = (pcs d).take m ++ [d.extract m (m + 13)] := by
  unfold pcs
  rw [List.take_add_one]
  simp [h]
theorem PW_split {E : Nat → tt.En} {i : Nat} : ∀ {N : Nat}, i < N → ∃ R, PW E N = PW E i ++ (pcs (E i).data ++ R)
  | N + 1, h => by
    rcases Nat.lt_or_ge i N with h' | h'
    · obtain ⟨R, hR⟩ := PW_split (E := E) h'
      exact ⟨R ++ pcs (E N).data, by rw [PW, hR]; simp⟩
    · obtain rfl : i = N := by omega
      exact ⟨[], by simp [PW]⟩

theorem mem_pcs {d x : ByteArray} : x ∈ pcs d ↔ ∃ i, i + 13 ≤ d.size ∧ x = d.extract i (i + 13) := by
  unfold pcs
  simp only [List.mem_map, List.mem_range]
  constructor
  · rintro ⟨i, hi, rfl⟩
    exact ⟨i, by omega, rfl⟩
  · rintro ⟨i, hi, rfl⟩
    exact ⟨i, by omega, rfl⟩
theorem mem_PW {E : Nat → tt.En} {x : ByteArray} : ∀ {N : Nat}, x ∈ PW E N ↔ ∃ k, k < N ∧ x ∈ pcs (E k).data
  | 0 => by simp [PW]
  | N + 1 => by
    rw [PW, List.mem_append, mem_PW]
    constructor
    · rintro (⟨k, hk, h⟩ | h)
      · exact ⟨k, by omega, h⟩
      · exact ⟨N, by omega, h⟩
    · rintro ⟨k, hk, h⟩
      rcases Nat.lt_or_ge k N with h' | h'
      · exact .inl ⟨k, h', h⟩
      · obtain rfl : k = N := by omega
        exact .inr h

/-- Where a word stands, it is one of the pieces. -/
theorem inE_PW {E : Nat → tt.En} {N : Nat} {p : List UInt8} (hp : p.length = 13) : InE E N p ↔ ∃ x ∈ PW E N, x.data.toList = p := by
  constructor
  · rintro ⟨k, hk, i, hi, e⟩
    rw [hp] at hi e
    refine ⟨(E k).data.extract i (i + 13), mem_PW.2 ⟨k, hk, mem_pcs.2 ⟨i, by simpa using hi, rfl⟩⟩, by rw [ext_at]; exact e⟩
  · rintro ⟨x, hx, e⟩
    obtain ⟨k, hk, h⟩ := mem_PW.1 hx
    obtain ⟨i, hi, rfl⟩ := mem_pcs.1 h
    rw [ext_at] at e
    exact ⟨k, hk, i, by rw [hp]; simpa using hi, by rw [hp]; exact e⟩

/-- Cells stay as they are. -/
def KC (W W' : World) : Prop := W.heap.size ≤ W'.heap.size ∧ ∀ (j : Nat) cs t f, W.heap[j]? = some (.cells cs t f) → W'.heap[j]? = some (.cells cs t f)

theorem KC.cell {W W' : World} {b o : Nat} {v : Value} (h : KC W W') (hc : W.cell? ⟨b, o, none⟩ = some v) : W'.cell? ⟨b, o, none⟩ = some v := by
  obtain ⟨cs, t, f, hb⟩ : ∃ cs t f, W.heap[b]? = some (.cells cs t f) := by
    unfold World.cell? at hc
    simp only at hc
    split at hc
    · next cs t f e => exact ⟨_, _, _, e⟩
    all_goals simp at hc
  exact (World.cell?_of_block (a := ⟨b, o, none⟩) ((h.2 b cs t f hb).trans hb.symm)).trans hc
theorem KC.trans {A B C : World} (h : KC A B) (k : KC B C) : KC A C := ⟨Nat.le_trans h.1 k.1, fun j cs t f e => k.2 j cs t f (h.2 j cs t f e)⟩
theorem KC.en {W W' : World} {b o n : Nat} {E : Nat → tt.En} (h : KC W W') (hE : tt.EnR W b o n E) : tt.EnR W' b o n E := fun i hi => by
  obtain ⟨h0, h1, h2, h3⟩ := hE i hi
  exact ⟨h.cell h0, h.cell h1, h.cell h2, h.cell h3⟩

set_option maxRecDepth 100000 in
set_option maxHeartbeats 2000000 in
theorem words_hands (n tb : Nat) (E : Nat → tt.En) (b o N cap : Nat) (w : World) (hn : 1 ≤ n) (ht : w.cell? ⟨tb, 0, none⟩ = some (.slice (some ⟨b, o, none⟩) N cap)) (hE : tt.EnR w b o N E) (hS : tt.SmE N E) (hN : N ≤ 1048576) :
    Hands n Tryz.prog 139 #[.pointer (some ⟨tb, 0, none⟩)] KC (fun _ => False) (PW E N) w := by
  intro l J Jx W hW hJ hJx hY h0
  have hc0 : W.cell? ⟨tb, 0, none⟩ = some (.slice (some ⟨b, o, none⟩) N cap) := (hW.cell (p := ⟨tb, 0, none⟩) (World.block_lt_of_cell? _ _ ht)).trans ht
  have hE0 := hE.below hW
  have HS : Hid (tt.SmE N E) := hS
  clear hS
  refine callsIn_of_wp Tryz.func139 rfl trivial ?_ rfl
  simp only [Tryz.ntmps139, List.size_toArray, List.length_cons, List.length_nil, Nat.reduceAdd, Nat.reduceSub, Array.replicate_succ, Array.replicate_zero, List.push_toArray, List.append_toArray, List.nil_append, List.cons_append]
  gi_wp2
  gi_loopw [8] (fun y wr => ∃ i : Nat, i ≤ N ∧ y = .int .i64 (i : Int) ∧ tt.EnR wr b o N E ∧ J (PW E i) wr) (fun y _ => N - (intOf y).toNat)
  case atStart => exact ⟨0, Nat.zero_le _, rfl, hE0, h0⟩
  case round =>
    obtain ⟨i, hi, rfl, hEw, hJw⟩ := hrel
    have HEW : Hid (tt.EnR wr b o N E) := hEw
    have HJW : Hid (J (PW E i) wr) := hJw
    clear hJw
    by_cases hil : i < N
    · have hil' : (i : Int) < (N : Int) := by omega
      have hi0 : (0 : Int) ≤ (i : Int) := by omega
      obtain ⟨e0, e1, e2, e3⟩ := hEw i hil
      have hds := (HS.out i hil).2
      obtain ⟨R, hR⟩ := PW_split (E := E) hil
      have HPW : Hid (PW E N = PW E i ++ (pcs (E i).data ++ R)) := hR
      have HPX : Hid (PW E (i + 1) = PW E i ++ pcs (E i).data) := rfl
      obtain ⟨d, hd⟩ : ∃ d, (E i).data = d := ⟨_, rfl⟩
      obtain ⟨d0, hd0⟩ : ∃ d, (E i).path = d := ⟨_, rfl⟩
      obtain ⟨d1, hd1⟩ : ∃ d, (E i).kind = d := ⟨_, rfl⟩
      obtain ⟨d3, hd3⟩ : ∃ d, (E i).exec = d := ⟨_, rfl⟩
      rw [hd] at e2 hds HPW HPX
      rw [hd0] at e0
      rw [hd1] at e1
      rw [hd3] at e3
      clear hR hd hd0 hd1 hd3 hEw
      obtain ⟨wo, rfl⟩ : ∃ wo, wo = wr := ⟨_, rfl⟩
      gi_wp2
      gi_loopw [5] (fun y wr => ∃ m : Nat, m ≤ d.size - 12 ∧ y = .int .i64 ((m + 13 : Nat) : Int) ∧ tt.EnR wr b o N E ∧ wr.cell? ⟨wo.heap.size, 2, none⟩ = some (.string d) ∧ J (PW E i ++ (pcs d).take m) wr) (fun y _ => d.size + 14 - (intOf y).toNat)
      case atStart =>
        refine ⟨0, Nat.zero_le _, rfl, HEW.out.below ((Below.refl _ _).alloc (Nat.le_refl _) _), by simp [go_sem], ?_⟩
        rw [List.take_zero, List.append_nil]
        exact hJ _ _ _ none HJW.out (World.grownBy_alloc _ _ _) (fun r e => by cases e)
      case round =>
        obtain ⟨m, hm, rfl, hEr, hbx, hJr⟩ := hrel
        have HER : Hid (tt.EnR wr b o N E) := hEr
        clear hEr
        by_cases hml : m < d.size - 12
        · have hml' : (m : Int) + 13 ≤ (d.size : Int) := by omega
          have hm0 : (0 : Int) ≤ (m : Int) := by omega
          have hm1 : (m : Int) ≤ (m : Int) + 13 := by omega
          have hw1 : IntKind.i64.wrap (m : Int) = (m : Int) := by rw [IntKind.wrap_i64]; omega
          have HTK : Hid ((pcs d).take (m + 1) = (pcs d).take m ++ [d.extract m (m + 13)]) := pcs_take hml
          obtain ⟨fn, tmps, assign, body, hy, hR⟩ := hY (PW E i ++ (pcs d).take m) (d.extract m (m + 13)) wr hJr ⟨(pcs d).drop (m + 1) ++ R, by rw [HPW.out, List.append_assoc (PW E i), ← HTK.out, List.append_assoc, ← List.append_assoc ((pcs d).take (m + 1)), List.take_append_drop]⟩
          gi_wp2
          refine hR.mono ?_
          rintro e W3 (⟨rfl, hJ3, hk3⟩ | ⟨rfl, hJx3⟩)
          · have hE3 := hk3.en HER.out
            have hb3 := hk3.cell hbx
            gi_wp2
            go_roundw
            case rel => exact ⟨m + 1, by omega, by go_num, hE3, hb3, by rw [HTK.out, ← List.append_assoc]; exact hJ3⟩
            case measure => simp [intOf]; omega
          · gi_wp2
            refine bodyPost_ret (results_none rfl _ _ _) rfl ?_
            exact ⟨⟨_, rfl⟩, .inr ⟨_, ⟨(pcs d).drop (m + 1) ++ R, by rw [HPW.out, List.append_assoc (PW E i), ← HTK.out, List.append_assoc, ← List.append_assoc ((pcs d).take (m + 1)), List.take_append_drop]⟩, hJx3⟩⟩
        · have hml' : ¬ (m : Int) + 13 ≤ (d.size : Int) := by omega
          have HJN : Hid (J (PW E (i + 1)) wr) := by
            have h := hJr
            rw [List.take_of_length_le (by rw [pcs_len]; omega), ← HPX.out] at h
            exact h
          clear hJr
          gi_wp2
          go_roundw
          case rel => exact ⟨i + 1, by omega, by go_num, HER.out, HJN.out⟩
          case measure => simp [intOf]; omega
    · have hil' : ¬ (i : Int) < (N : Int) := by omega
      obtain rfl : i = N := by omega
      gi_wp2
      go_end0
      exact ⟨⟨_, rfl⟩, .inl HJW.out⟩

end Go.Proofs.YtaoimkjcaienbaaGreatDoor.rf
