import Derived.Test.YtnicjhapalgpdaaDoorQM
import Derived.Test.YtnicjhapalgpdaaDoorKC
import Derived.Shelf.GgClosure.StringsRunes
import Derived.Shelf.Strings.FieldsFuncAny
import Derived.Shelf.Strings.SplitShaped
import Derived.Ground.GgwProg
import Derived.Ground.NamesProg
import Derived.Deep.RegionHeld3
namespace Go.Proofs.YtnicjhapalgpdaaDoor.rc
open Go.ChangeShapes Go.WideShapes Go.ChangeAt Go.RowKit Go.Deep Go.Lib Go.Shelf Go.Proofs.YtnicjhapalgpdaaDoor.vr
set_option linter.unusedVariables false
set_option linter.unusedSimpArgs false

end Go.Proofs.YtnicjhapalgpdaaDoor.rc
namespace Go.Proofs
open Go.Shelf
def YtnicjhapalgpdaaDoor.rc.laysIF_ren : Go.Shelf.Ren := ⟨fun | 15 => 49 | 20 => 58 | n => n, fun | 9 => 9 | 23 => 73 | 3 => 3 | 4 => 4 | 0 => 0 | 21 => 21 | n => n, fun | n => n⟩
theorem YtnicjhapalgpdaaDoor.rc.laysIF : Go.Proofs.LaysGw.n15 Tryd.prog YtnicjhapalgpdaaDoor.rc.laysIF_ren := {
  mixed := by kernel_rfl
  f15 := Tryd.func49.trans (congrArg some (by kernel_rfl))
  f20 := Tryd.func58.trans (congrArg some (by kernel_rfl))
  t0 := Tryd.underlying0
  a0 := Tryd.isAgg0
  z0 := Tryd.sizeOf0
  v0 := Tryd.zeroValue0
  i0 := by kernel_rfl
  t3 := Tryd.underlying3
  a3 := Tryd.isAgg3
  z3 := Tryd.sizeOf3
  v3 := Tryd.zeroValue3
  i3 := by kernel_rfl
  t4 := Tryd.underlying4
  a4 := Tryd.isAgg4
  z4 := Tryd.sizeOf4
  v4 := Tryd.zeroValue4
  i4 := by kernel_rfl
  t9 := Tryd.underlying9
  a9 := Tryd.isAgg9
  z9 := Tryd.sizeOf9
  v9 := Tryd.zeroValue9
  i9 := by kernel_rfl
  t21 := Tryd.underlying21
  a21 := Tryd.isAgg21
  z21 := Tryd.sizeOf21
  v21 := Tryd.zeroValue21
  i21 := by kernel_rfl
  t23 := Tryd.underlying73
  a23 := Tryd.isAgg73
  z23 := Tryd.sizeOf73
  v23 := Tryd.zeroValue73
  i23 := by kernel_rfl }
def YtnicjhapalgpdaaDoor.rc.laysFF_ren : Go.Shelf.Ren := ⟨fun | 229 => 37 | n => n, fun | 9 => 9 | 40 => 73 | 31 => 39 | 152 => 87 | 3 => 3 | 0 => 0 | 4 => 4 | 21 => 21 | 154 => 89 | n => n, fun | n => n⟩
theorem YtnicjhapalgpdaaDoor.rc.laysFF : Go.Proofs.Lays.n229 Tryd.prog YtnicjhapalgpdaaDoor.rc.laysFF_ren := {
  mixed := by kernel_rfl
  f229 := Tryd.func37.trans (congrArg some (by kernel_rfl))
  t0 := Tryd.underlying0
  a0 := Tryd.isAgg0
  z0 := Tryd.sizeOf0
  v0 := Tryd.zeroValue0
  t3 := Tryd.underlying3
  a3 := Tryd.isAgg3
  z3 := Tryd.sizeOf3
  v3 := Tryd.zeroValue3
  t4 := Tryd.underlying4
  a4 := Tryd.isAgg4
  z4 := Tryd.sizeOf4
  v4 := Tryd.zeroValue4
  t9 := Tryd.underlying9
  a9 := Tryd.isAgg9
  z9 := Tryd.sizeOf9
  v9 := Tryd.zeroValue9
  t21 := Tryd.underlying21
  a21 := Tryd.isAgg21
  z21 := Tryd.sizeOf21
  v21 := Tryd.zeroValue21
  t31 := Tryd.underlying39
  a31 := Tryd.isAgg39
  z31 := Tryd.sizeOf39
  v31 := Tryd.zeroValue39
  t40 := Tryd.underlying73
  a40 := Tryd.isAgg73
  z40 := Tryd.sizeOf73
  v40 := Tryd.zeroValue73
  t152 := Tryd.underlying87
  a152 := Tryd.isAgg87
  z152 := Tryd.sizeOf87
  v152 := Tryd.zeroValue87
  t154 := Tryd.underlying89
  a154 := Tryd.isAgg89
  z154 := Tryd.sizeOf89
  v154 := Tryd.zeroValue89 }
def YtnicjhapalgpdaaDoor.rc.laysSP_ren : Go.Shelf.Ren := ⟨fun | 146 => 29 | 221 => 36 | 268 => 46 | 138 => 47 | 143 => 48 | 195 => 54 | 197 => 55 | 218 => 56 | 219 => 57 | 260 => 61 | 217 => 62 | 225 => 63 | 224 => 64 | 267 => 65 | 266 => 68 | 314 => 69 | n => n, fun | 9 => 9 | 31 => 39 | 3 => 3 | 4 => 4 | 0 => 0 | 105 => 93 | 21 => 21 | 5 => 5 | 46 => 100 | 119 => 102 | 139 => 105 | 138 => 104 | 146 => 107 | 51 => 106 | n => n, fun | 1 => 0 | 3 => 1 | 4 => 2 | n => n⟩
theorem YtnicjhapalgpdaaDoor.rc.laysSP : Go.Proofs.LaysM.n146 Tryd.prog YtnicjhapalgpdaaDoor.rc.laysSP_ren := {
  mixed := by kernel_rfl
  f138 := Tryd.func47.trans (congrArg some (by kernel_rfl))
  f143 := Tryd.func48.trans (congrArg some (by kernel_rfl))
  f146 := Tryd.func29.trans (congrArg some (by kernel_rfl))
  f195 := Tryd.func54.trans (congrArg some (by kernel_rfl))
  f197 := Tryd.func55.trans (congrArg some (by kernel_rfl))
  f217 := Tryd.func62.trans (congrArg some (by kernel_rfl))
  f218 := Tryd.func56.trans (congrArg some (by kernel_rfl))
  f219 := Tryd.func57.trans (congrArg some (by kernel_rfl))
  f221 := Tryd.func36.trans (congrArg some (by kernel_rfl))
  f224 := Tryd.func64.trans (congrArg some (by kernel_rfl))
  f225 := Tryd.func63.trans (congrArg some (by kernel_rfl))
  f260 := Tryd.func61.trans (congrArg some (by kernel_rfl))
  f266 := Tryd.func68.trans (congrArg some (by kernel_rfl))
  f267 := Tryd.func65.trans (congrArg some (by kernel_rfl))
  f268 := Tryd.func46.trans (congrArg some (by kernel_rfl))
  f314 := Tryd.func69.trans (congrArg some (by kernel_rfl))
  t0 := Tryd.underlying0
  a0 := Tryd.isAgg0
  z0 := Tryd.sizeOf0
  v0 := Tryd.zeroValue0
  t3 := Tryd.underlying3
  a3 := Tryd.isAgg3
  z3 := Tryd.sizeOf3
  v3 := Tryd.zeroValue3
  t4 := Tryd.underlying4
  a4 := Tryd.isAgg4
  z4 := Tryd.sizeOf4
  v4 := Tryd.zeroValue4
  t5 := Tryd.underlying5
  a5 := Tryd.isAgg5
  z5 := Tryd.sizeOf5
  v5 := Tryd.zeroValue5
  t9 := Tryd.underlying9
  a9 := Tryd.isAgg9
  z9 := Tryd.sizeOf9
  v9 := Tryd.zeroValue9
  t21 := Tryd.underlying21
  a21 := Tryd.isAgg21
  z21 := Tryd.sizeOf21
  v21 := Tryd.zeroValue21
  t31 := Tryd.underlying39
  a31 := Tryd.isAgg39
  z31 := Tryd.sizeOf39
  v31 := Tryd.zeroValue39
  t46 := Tryd.underlying100
  a46 := Tryd.isAgg100
  z46 := Tryd.sizeOf100
  v46 := Tryd.zeroValue100
  t51 := Tryd.underlying106
  a51 := Tryd.isAgg106
  z51 := Tryd.sizeOf106
  v51 := Tryd.zeroValue106
  t105 := Tryd.underlying93
  a105 := Tryd.isAgg93
  z105 := Tryd.sizeOf93
  v105 := Tryd.zeroValue93
  t119 := Tryd.underlying102
  a119 := Tryd.isAgg102
  z119 := Tryd.sizeOf102
  t138 := Tryd.underlying104
  a138 := Tryd.isAgg104
  z138 := Tryd.sizeOf104
  v138 := Tryd.zeroValue104
  t139 := Tryd.underlying105
  a139 := Tryd.isAgg105
  z139 := Tryd.sizeOf105
  v139 := Tryd.zeroValue105
  t146 := Tryd.underlying107
  a146 := Tryd.isAgg107
  z146 := Tryd.sizeOf107
  v146 := Tryd.zeroValue107
  g1 := by kernel_rfl
  g3 := by kernel_rfl
  g4 := by kernel_rfl
  i0 := by kernel_rfl
  i3 := by kernel_rfl
  i4 := by kernel_rfl
  i5 := by kernel_rfl
  i9 := by kernel_rfl
  i21 := by kernel_rfl
  i31 := by kernel_rfl
  i46 := by kernel_rfl
  i51 := by kernel_rfl
  i105 := by kernel_rfl
  i138 := by kernel_rfl
  i139 := by kernel_rfl
  i146 := by kernel_rfl
  m1 := by kernel_rfl
  s1_3 := fun w h => Go.Proofs.cell_of_shapedOpen_int (zero := #[.int .i64 0]) (t := 3) h (of_decide_eq_true (by kernel_rfl)) (by kernel_rfl) rfl (by kernel_rfl) (by kernel_rfl) Tryd.underlying3
  m3 := by kernel_rfl
  m4 := by kernel_rfl }
end Go.Proofs
namespace Go.Proofs.YtnicjhapalgpdaaDoor.rc
open Go.ChangeShapes Go.WideShapes Go.ChangeAt Go.RowKit Go.Deep Go.Lib Go.Shelf Go.Proofs.YtnicjhapalgpdaaDoor.vr
set_option linter.unusedVariables false
set_option linter.unusedSimpArgs false

theorem idx_ren : laysIF_ren.f 15 = 49 := by kernel_rfl
theorem ff_ren : laysFF_ren.f 229 = 37 := by kernel_rfl
theorem sp_ren : laysSP_ren.f 146 = 29 := by kernel_rfl

def digR (r : Nat) : Bool := decide (48 ≤ r ∧ r ≤ 57)
theorem digR_lt (r : Nat) (h : digR r = true) : r < 128 := by simp [digR] at h; omega
theorem digR_dig (b : UInt8) : digR b.toNat = dig b := rfl

set_option maxRecDepth 100000 in
theorem digit_pays (w : World) : PredAtRunes Tryd.prog 42 #[] digR w := by
  intro W x hx hb
  show Calls Tryd.prog 42 #[.int .i32 (x : Int)] W _
  unfold digR
  by_cases h1 : 48 ≤ x
  · by_cases h2 : x ≤ 57
    · have h1' : (48 : Int) ≤ (x : Int) := by omega
      have h2' : (x : Int) ≤ 57 := by omega
      go_enter Tryd.func42, Tryd.ntmps42
      go_wp2
      go_ret
      exact ⟨by simp [h1, h2], 0, rfl⟩
    · have h1' : (48 : Int) ≤ (x : Int) := by omega
      have h2' : ¬ (x : Int) ≤ 57 := by omega
      go_enter Tryd.func42, Tryd.ntmps42
      go_wp2
      go_ret
      exact ⟨by simp [h1, h2], 0, rfl⟩
  · have h1' : ¬ (48 : Int) ≤ (x : Int) := by omega
    go_enter Tryd.func42, Tryd.ntmps42
    go_wp2
    go_ret
    exact ⟨by simp [h1], 0, rfl⟩

set_option maxRecDepth 100000 in
theorem blank_pays (w : World) : PredAtRunes Tryd.prog 38 #[] blank w := by
  intro W x hx hb
  show Calls Tryd.prog 38 #[.int .i32 (x : Int)] W _
  unfold blank
  by_cases h1 : x = 32
  · subst h1
    go_enter Tryd.func38, Tryd.ntmps38
    go_wp2
    go_ret
    exact ⟨rfl, 0, rfl⟩
  · have h1' : ¬ (x : Int) = 32 := by omega
    go_enter Tryd.func38, Tryd.ntmps38
    go_wp2
    go_ret
    exact ⟨by simp [h1]; omega, 0, rfl⟩

/-- Where the version of a word begins. -/
theorem index_any (s : ByteArray) (w : World) :
    Calls Tryd.prog 49 #[.string s, .func (.func 42) #[] #[]] w fun e w' => e = .returned (.int .i64 (if (opL s.data.toList).length < s.size then ((opL s.data.toList).length : Int) else -1)) ∧ Below w.heap.size w w' := by
  have hC := Any.strings_IndexFunc_runes laysIF 42 #[] (enters_of Tryd.func42 (by kernel_rfl) rfl) digR s w (digit_pays w)
  rw [idx_bytes digR digR_lt] at hC
  exact hC

theorem fields_any (s : ByteArray) (w : World) (hs : s.size ≤ 1048576) :
    Calls Tryd.prog 37 #[.string s, .func (.func 38) #[] #[]] w fun e w' => ∃ A, e = .returned (.slice (some ⟨A, 0, none⟩) (wds [] s.data.toList).length (wds [] s.data.toList).length) ∧ w.heap.size ≤ A ∧ A < w'.heap.size ∧ (∀ i x, (wds [] s.data.toList)[i]? = some x → w'.cell? ⟨A, i, none⟩ = some (.string ⟨x.toArray⟩)) ∧ Below w.heap.size w w' := by
  have hC := Any.strings_FieldsFunc_runes laysFF 38 #[] (enters_of Tryd.func38 (by kernel_rfl) rfl) blank s w (by omega) (blank_pays w) (by kernel_rfl) (by kernel_rfl)
  refine Calls.mono (show Calls Tryd.prog 37 _ _ _ from hC) ?_
  rintro e w' ⟨A, rfl, h1, ho, hb⟩
  have hw := fields_wds s
  have hl : (goFieldsP blank s).length = (wds [] s.data.toList).length := by rw [← hw, List.length_map]
  refine ⟨A, by rw [hl], h1, ?_, fun i x hx => ?_, hb⟩
  · obtain ⟨_, h⟩ := ho
    rcases h with ⟨e, _⟩ | ⟨g, cap, cur, e, hg, hh, _⟩
    · cases e
    · have : A = g := by simpa using (congrArg (fun v : Value => match v with | .slice (some a) _ _ => a.block | _ => 0) e)
      subst this
      exact (Array.getElem?_eq_some_iff.1 hh).1
  · rw [← hw, List.getElem?_map, Option.map_eq_some_iff] at hx
    obtain ⟨b, hb', rfl⟩ := hx
    have := ho.cells (g := A) rfl i (.string b) (by rw [List.getElem?_map, hb']; rfl)
    rw [addr_add, Nat.zero_add] at this
    rw [this]

/-- What strings.Index reads: a number. -/
def ML (w : World) : Prop := ∃ m, w.cell? ⟨laysSP_ren.g 1, 0, none⟩ = some (.int .i64 m)
theorem ML.below {w w' : World} (h : ML w) (hb : Below w.heap.size w w') : ML w' := by
  obtain ⟨m, hm⟩ := h
  exact ⟨m, (hb.cell (p := ⟨_, 0, none⟩) (World.block_lt_of_cell? _ _ hm)).trans hm⟩

theorem split_any (s : ByteArray) (w : World) (hs : s.size ≤ 1048576) (hm : ML w) :
    Calls Tryd.prog 29 #[.string s, .string ⟨#[124, 124]⟩] w fun e w' => e = .returned (.slice (some ⟨w.heap.size, 0, none⟩) (al [] s.data.toList).length (al [] s.data.toList).length) ∧ (∀ i x, (al [] s.data.toList)[i]? = some x → w'.cell? ⟨w.heap.size, i, none⟩ = some (.string ⟨x.toArray⟩)) ∧ Below w.heap.size w w' := by
  obtain ⟨m, hm⟩ := hm
  have hC := Any.strings_Split { laysSP with } laysSP.i9 s ⟨#[124, 124]⟩ m w (by omega) hm (by decide)
  refine Calls.mono (show Calls Tryd.prog 29 _ _ _ from hC) ?_
  rintro e w' ⟨rfl, rfl⟩
  have ha := splitB_al s ⟨#[124, 124]⟩ rfl
  have hl : countB s ⟨#[124, 124]⟩ + 1 = (al [] s.data.toList).length := by
    rw [← ha, List.length_map, splitB_all _ (by decide) 0 _ s rfl]
  refine ⟨by rw [hl], fun i x hx => ?_, (Below.refl _ _).alloc (Nat.le_refl _) _⟩
  rw [← ha, List.getElem?_map, Option.map_eq_some_iff] at hx
  obtain ⟨b, hb, rfl⟩ := hx
  have : (w.alloc (.cells ((splitB ⟨#[124, 124]⟩ 0 (countB s ⟨#[124, 124]⟩) s).map Value.string).toArray (laysSP_ren.t 9))).cell? ⟨w.heap.size, i, none⟩ = some (.string b) := by
    simp [go_sem, hb]
  rw [this]

end Go.Proofs.YtnicjhapalgpdaaDoor.rc
