import Derived.Test.YtccgoodmkanncaaDoorQM
import Derived.Test.YtccgoodmkanncaaDoorKC
import Derived.Shelf.GgClosure.StringsRunes
import Derived.Shelf.Strings.FieldsFuncAny
import Derived.Shelf.Strings.SplitShaped
import Derived.Ground.GgwProg
import Derived.Ground.NamesProg
import Derived.Deep.RegionHeld3
namespace Go.Proofs.YtccgoodmkanncaaDoor.rc
open Go.ChangeShapes Go.WideShapes Go.ChangeAt Go.RowKit Go.Deep Go.Lib Go.Shelf Go.Proofs.YtccgoodmkanncaaDoor.vr
set_option linter.unusedVariables false
set_option linter.unusedSimpArgs false

end Go.Proofs.YtccgoodmkanncaaDoor.rc
namespace Go.Proofs
open Go.Shelf
def YtccgoodmkanncaaDoor.rc.laysIF_ren : Go.Shelf.Ren := ⟨fun | 15 => 85 | 20 => 96 | n => n, fun | 9 => 9 | 23 => 79 | 3 => 3 | 4 => 4 | 0 => 0 | 21 => 21 | n => n, fun | n => n⟩
theorem YtccgoodmkanncaaDoor.rc.laysIF : Go.Proofs.LaysGw.n15 Tryd.prog YtccgoodmkanncaaDoor.rc.laysIF_ren := {
  mixed := by kernel_rfl
  f15 := Tryd.func85.trans (congrArg some (by kernel_rfl))
  f20 := Tryd.func96.trans (congrArg some (by kernel_rfl))
  t0 := Tryd.underlying0
  a0 := Tryd.isAgg0
  z0 := Tryd.sizeOf0
  v0 := Tryd.zeroValue0
  i0 := by kernel_rfl
  t3 := Tryd.underlying3
  a3 := Tryd.isAgg3
  z3 := Tryd.sizeOf3
  v3 := Tryd.zeroValue3
  i3 := by kernel_rfl
  t4 := Tryd.underlying4
  a4 := Tryd.isAgg4
  z4 := Tryd.sizeOf4
  v4 := Tryd.zeroValue4
  i4 := by kernel_rfl
  t9 := Tryd.underlying9
  a9 := Tryd.isAgg9
  z9 := Tryd.sizeOf9
  v9 := Tryd.zeroValue9
  i9 := by kernel_rfl
  t21 := Tryd.underlying21
  a21 := Tryd.isAgg21
  z21 := Tryd.sizeOf21
  v21 := Tryd.zeroValue21
  i21 := by kernel_rfl
  t23 := Tryd.underlying79
  a23 := Tryd.isAgg79
  z23 := Tryd.sizeOf79
  v23 := Tryd.zeroValue79
  i23 := by kernel_rfl }
def YtccgoodmkanncaaDoor.rc.laysFF_ren : Go.Shelf.Ren := ⟨fun | 229 => 66 | n => n, fun | 9 => 9 | 40 => 79 | 31 => 34 | 152 => 118 | 3 => 3 | 0 => 0 | 4 => 4 | 21 => 21 | 154 => 120 | n => n, fun | n => n⟩
theorem YtccgoodmkanncaaDoor.rc.laysFF : Go.Proofs.Lays.n229 Tryd.prog YtccgoodmkanncaaDoor.rc.laysFF_ren := {
  mixed := by kernel_rfl
  f229 := Tryd.func66.trans (congrArg some (by kernel_rfl))
  t0 := Tryd.underlying0
  a0 := Tryd.isAgg0
  z0 := Tryd.sizeOf0
  v0 := Tryd.zeroValue0
  t3 := Tryd.underlying3
  a3 := Tryd.isAgg3
  z3 := Tryd.sizeOf3
  v3 := Tryd.zeroValue3
  t4 := Tryd.underlying4
  a4 := Tryd.isAgg4
  z4 := Tryd.sizeOf4
  v4 := Tryd.zeroValue4
  t9 := Tryd.underlying9
  a9 := Tryd.isAgg9
  z9 := Tryd.sizeOf9
  v9 := Tryd.zeroValue9
  t21 := Tryd.underlying21
  a21 := Tryd.isAgg21
  z21 := Tryd.sizeOf21
  v21 := Tryd.zeroValue21
  t31 := Tryd.underlying34
  a31 := Tryd.isAgg34
  z31 := Tryd.sizeOf34
  v31 := Tryd.zeroValue34
  t40 := Tryd.underlying79
  a40 := Tryd.isAgg79
  z40 := Tryd.sizeOf79
  v40 := Tryd.zeroValue79
  t152 := Tryd.underlying118
  a152 := Tryd.isAgg118
  z152 := Tryd.sizeOf118
  v152 := Tryd.zeroValue118
  t154 := Tryd.underlying120
  a154 := Tryd.isAgg120
  z154 := Tryd.sizeOf120
  v154 := Tryd.zeroValue120 }
def YtccgoodmkanncaaDoor.rc.laysSP_ren : Go.Shelf.Ren := ⟨fun | 146 => 40 | 221 => 65 | 268 => 82 | 138 => 83 | 143 => 84 | 195 => 92 | 197 => 93 | 218 => 94 | 219 => 95 | 260 => 103 | 217 => 104 | 225 => 105 | 224 => 106 | 267 => 107 | 266 => 116 | 314 => 117 | n => n, fun | 9 => 9 | 31 => 34 | 3 => 3 | 4 => 4 | 0 => 0 | 105 => 130 | 21 => 21 | 5 => 5 | 46 => 139 | 119 => 149 | 139 => 152 | 138 => 151 | 146 => 154 | 51 => 153 | n => n, fun | 1 => 0 | 3 => 1 | 4 => 2 | n => n⟩
theorem YtccgoodmkanncaaDoor.rc.laysSP : Go.Proofs.LaysM.n146 Tryd.prog YtccgoodmkanncaaDoor.rc.laysSP_ren := {
  mixed := by kernel_rfl
  f138 := Tryd.func83.trans (congrArg some (by kernel_rfl))
  f143 := Tryd.func84.trans (congrArg some (by kernel_rfl))
  f146 := Tryd.func40.trans (congrArg some (by kernel_rfl))
  f195 := Tryd.func92.trans (congrArg some (by kernel_rfl))
  f197 := Tryd.func93.trans (congrArg some (by kernel_rfl))
  f217 := Tryd.func104.trans (congrArg some (by kernel_rfl))
  f218 := Tryd.func94.trans (congrArg some (by kernel_rfl))
  f219 := Tryd.func95.trans (congrArg some (by kernel_rfl))
  f221 := Tryd.func65.trans (congrArg some (by kernel_rfl))
  f224 := Tryd.func106.trans (congrArg some (by kernel_rfl))
  f225 := Tryd.func105.trans (congrArg some (by kernel_rfl))
  f260 := Tryd.func103.trans (congrArg some (by kernel_rfl))
  f266 := Tryd.func116.trans (congrArg some (by kernel_rfl))
  f267 := Tryd.func107.trans (congrArg some (by kernel_rfl))
  f268 := Tryd.func82.trans (congrArg some (by kernel_rfl))
  f314 := Tryd.func117.trans (congrArg some (by kernel_rfl))
  t0 := Tryd.underlying0
  a0 := Tryd.isAgg0
  z0 := Tryd.sizeOf0
  v0 := Tryd.zeroValue0
  t3 := Tryd.underlying3
  a3 := Tryd.isAgg3
  z3 := Tryd.sizeOf3
  v3 := Tryd.zeroValue3
  t4 := Tryd.underlying4
  a4 := Tryd.isAgg4
  z4 := Tryd.sizeOf4
  v4 := Tryd.zeroValue4
  t5 := Tryd.underlying5
  a5 := Tryd.isAgg5
  z5 := Tryd.sizeOf5
  v5 := Tryd.zeroValue5
  t9 := Tryd.underlying9
  a9 := Tryd.isAgg9
  z9 := Tryd.sizeOf9
  v9 := Tryd.zeroValue9
  t21 := Tryd.underlying21
  a21 := Tryd.isAgg21
  z21 := Tryd.sizeOf21
  v21 := Tryd.zeroValue21
  t31 := Tryd.underlying34
  a31 := Tryd.isAgg34
  z31 := Tryd.sizeOf34
  v31 := Tryd.zeroValue34
  t46 := Tryd.underlying139
  a46 := Tryd.isAgg139
  z46 := Tryd.sizeOf139
  v46 := Tryd.zeroValue139
  t51 := Tryd.underlying153
  a51 := Tryd.isAgg153
  z51 := Tryd.sizeOf153
  v51 := Tryd.zeroValue153
  t105 := Tryd.underlying130
  a105 := Tryd.isAgg130
  z105 := Tryd.sizeOf130
  v105 := Tryd.zeroValue130
  t119 := Tryd.underlying149
  a119 := Tryd.isAgg149
  z119 := Tryd.sizeOf149
  t138 := Tryd.underlying151
  a138 := Tryd.isAgg151
  z138 := Tryd.sizeOf151
  v138 := Tryd.zeroValue151
  t139 := Tryd.underlying152
  a139 := Tryd.isAgg152
  z139 := Tryd.sizeOf152
  v139 := Tryd.zeroValue152
  t146 := Tryd.underlying154
  a146 := Tryd.isAgg154
  z146 := Tryd.sizeOf154
  v146 := Tryd.zeroValue154
  g1 := by kernel_rfl
  g3 := by kernel_rfl
  g4 := by kernel_rfl
  i0 := by kernel_rfl
  i3 := by kernel_rfl
  i4 := by kernel_rfl
  i5 := by kernel_rfl
  i9 := by kernel_rfl
  i21 := by kernel_rfl
  i31 := by kernel_rfl
  i46 := by kernel_rfl
  i51 := by kernel_rfl
  i105 := by kernel_rfl
  i138 := by kernel_rfl
  i139 := by kernel_rfl
  i146 := by kernel_rfl
  m1 := by kernel_rfl
  s1_3 := fun w h => Go.Proofs.cell_of_shapedOpen_int (zero := #[.int .i64 0]) (t := 3) h (of_decide_eq_true (by kernel_rfl)) (by kernel_rfl) rfl (by kernel_rfl) (by kernel_rfl) Tryd.underlying3
  m3 := by kernel_rfl
  m4 := by kernel_rfl }
end Go.Proofs
namespace Go.Proofs.YtccgoodmkanncaaDoor.rc
open Go.ChangeShapes Go.WideShapes Go.ChangeAt Go.RowKit Go.Deep Go.Lib Go.Shelf Go.Proofs.YtccgoodmkanncaaDoor.vr
set_option linter.unusedVariables false
set_option linter.unusedSimpArgs false

theorem idx_ren : laysIF_ren.f 15 = 85 := by kernel_rfl
theorem ff_ren : laysFF_ren.f 229 = 66 := by kernel_rfl
theorem sp_ren : laysSP_ren.f 146 = 40 := by kernel_rfl

def digR (r : Nat) : Bool := decide (48 ≤ r ∧ r ≤ 57)
theorem digR_lt (r : Nat) (h : digR r = true) : r < 128 := by simp [digR] at h; omega
theorem digR_dig (b : UInt8) : digR b.toNat = dig b := rfl

set_option maxRecDepth 100000 in
theorem digit_pays (w : World) : PredAtRunes Tryd.prog 52 #[] digR w := by
  intro W x hx hb
  show Calls Tryd.prog 52 #[.int .i32 (x : Int)] W _
  unfold digR
  by_cases h1 : 48 ≤ x
  · by_cases h2 : x ≤ 57
    · have h1' : (48 : Int) ≤ (x : Int) := by omega
      have h2' : (x : Int) ≤ 57 := by omega
      go_enter Tryd.func52, Tryd.ntmps52
      go_wp2
      go_ret
      exact ⟨by simp [h1, h2], 0, rfl⟩
    · have h1' : (48 : Int) ≤ (x : Int) := by omega
      have h2' : ¬ (x : Int) ≤ 57 := by omega
      go_enter Tryd.func52, Tryd.ntmps52
      go_wp2
      go_ret
      exact ⟨by simp [h1, h2], 0, rfl⟩
  · have h1' : ¬ (48 : Int) ≤ (x : Int) := by omega
    go_enter Tryd.func52, Tryd.ntmps52
    go_wp2
    go_ret
    exact ⟨by simp [h1], 0, rfl⟩

set_option maxRecDepth 100000 in
theorem blank_pays (w : World) : PredAtRunes Tryd.prog 67 #[] blank w := by
  intro W x hx hb
  show Calls Tryd.prog 67 #[.int .i32 (x : Int)] W _
  unfold blank
  by_cases h1 : x = 32
  · subst h1
    go_enter Tryd.func67, Tryd.ntmps67
    go_wp2
    go_ret
    exact ⟨rfl, 0, rfl⟩
  · have h1' : ¬ (x : Int) = 32 := by omega
    go_enter Tryd.func67, Tryd.ntmps67
    go_wp2
    go_ret
    exact ⟨by simp [h1]; omega, 0, rfl⟩

/-- Where the version of a word begins. -/
theorem index_any (s : ByteArray) (w : World) :
    Calls Tryd.prog 85 #[.string s, .func (.func 52) #[] #[]] w fun e w' => e = .returned (.int .i64 (if (opL s.data.toList).length < s.size then ((opL s.data.toList).length : Int) else -1)) ∧ Below w.heap.size w w' := by
  have hC := Any.strings_IndexFunc_runes laysIF 52 #[] (enters_of Tryd.func52 (by kernel_rfl) rfl) digR s w (digit_pays w)
  rw [idx_bytes digR digR_lt] at hC
  exact hC

theorem fields_any (s : ByteArray) (w : World) (hs : s.size ≤ 1048576) :
    Calls Tryd.prog 66 #[.string s, .func (.func 67) #[] #[]] w fun e w' => ∃ A, e = .returned (.slice (some ⟨A, 0, none⟩) (wds [] s.data.toList).length (wds [] s.data.toList).length) ∧ w.heap.size ≤ A ∧ A < w'.heap.size ∧ (∀ i x, (wds [] s.data.toList)[i]? = some x → w'.cell? ⟨A, i, none⟩ = some (.string ⟨x.toArray⟩)) ∧ Below w.heap.size w w' := by
  have hC := Any.strings_FieldsFunc_runes laysFF 67 #[] (enters_of Tryd.func67 (by kernel_rfl) rfl) blank s w (by omega) (blank_pays w) (by kernel_rfl) (by kernel_rfl)
  refine Calls.mono (show Calls Tryd.prog 66 _ _ _ from hC) ?_
  rintro e w' ⟨A, rfl, h1, ho, hb⟩
  have hw := fields_wds s
  have hl : (goFieldsP blank s).length = (wds [] s.data.toList).length := by rw [← hw, List.length_map]
  refine ⟨A, by rw [hl], h1, ?_, fun i x hx => ?_, hb⟩
  · obtain ⟨_, h⟩ := ho
    rcases h with ⟨e, _⟩ | ⟨g, cap, cur, e, hg, hh, _⟩
    · cases e
    · have : A = g := by simpa using (congrArg (fun v : Value => match v with | .slice (some a) _ _ => a.block | _ => 0) e)
      subst this
      exact (Array.getElem?_eq_some_iff.1 hh).1
  · rw [← hw, List.getElem?_map, Option.map_eq_some_iff] at hx
    obtain ⟨b, hb', rfl⟩ := hx
    have := ho.cells (g := A) rfl i (.string b) (by rw [List.getElem?_map, hb']; rfl)
    rw [addr_add, Nat.zero_add] at this
    rw [this]

/-- What strings.Index reads: a number. -/
def ML (w : World) : Prop := ∃ m, w.cell? ⟨laysSP_ren.g 1, 0, none⟩ = some (.int .i64 m)
theorem ML.below {w w' : World} (h : ML w) (hb : Below w.heap.size w w') : ML w' := by
  obtain ⟨m, hm⟩ := h
  exact ⟨m, (hb.cell (p := ⟨_, 0, none⟩) (World.block_lt_of_cell? _ _ hm)).trans hm⟩

theorem split_any (s : ByteArray) (w : World) (hs : s.size ≤ 1048576) (hm : ML w) :
    Calls Tryd.prog 40 #[.string s, .string ⟨#[124, 124]⟩] w fun e w' => e = .returned (.slice (some ⟨w.heap.size, 0, none⟩) (al [] s.data.toList).length (al [] s.data.toList).length) ∧ (∀ i x, (al [] s.data.toList)[i]? = some x → w'.cell? ⟨w.heap.size, i, none⟩ = some (.string ⟨x.toArray⟩)) ∧ Below w.heap.size w w' := by
  obtain ⟨m, hm⟩ := hm
  have hC := Any.strings_Split { laysSP with } laysSP.i9 s ⟨#[124, 124]⟩ m w (by omega) hm (by decide)
  refine Calls.mono (show Calls Tryd.prog 40 _ _ _ from hC) ?_
  rintro e w' ⟨rfl, rfl⟩
  have ha := splitB_al s ⟨#[124, 124]⟩ rfl
  have hl : countB s ⟨#[124, 124]⟩ + 1 = (al [] s.data.toList).length := by
    rw [← ha, List.length_map, splitB_all _ (by decide) 0 _ s rfl]
  refine ⟨by rw [hl], fun i x hx => ?_, (Below.refl _ _).alloc (Nat.le_refl _) _⟩
  rw [← ha, List.getElem?_map, Option.map_eq_some_iff] at hx
  obtain ⟨b, hb, rfl⟩ := hx
  have : (w.alloc (.cells ((splitB ⟨#[124, 124]⟩ 0 (countB s ⟨#[124, 124]⟩) s).map Value.string).toArray (laysSP_ren.t 9))).cell? ⟨w.heap.size, i, none⟩ = some (.string b) := by
    simp [go_sem, hb]
  rw [this]

end Go.Proofs.YtccgoodmkanncaaDoor.rc
