import Derived.Test.YtimcocmjmlejfaaGreatDoorQM
import Derived.Test.YtimcocmjmlejfaaGreatDoorKC
import Derived.Shelf.GgClosure.StringsRunes
import Derived.Shelf.Strings.FieldsFuncAny
import Derived.Shelf.Strings.SplitShaped
import Derived.Ground.GgwProg
import Derived.Ground.NamesProg
import Derived.Deep.RegionHeld3
namespace Go.Proofs.YtimcocmjmlejfaaGreatDoor.rc
open Go.ChangeShapes Go.WideShapes Go.ChangeAt Go.RowKit Go.Deep Go.Lib Go.Shelf Go.Proofs.YtimcocmjmlejfaaGreatDoor.vr
set_option linter.unusedVariables false
set_option linter.unusedSimpArgs false

end Go.Proofs.YtimcocmjmlejfaaGreatDoor.rc
namespace Go.Proofs
open Go.Shelf
def YtimcocmjmlejfaaGreatDoor.rc.laysIF_ren : Go.Shelf.Ren := ⟨fun | 15 => 69 | 20 => 87 | n => n, fun | 9 => 9 | 23 => 76 | 3 => 3 | 4 => 4 | 0 => 0 | 21 => 21 | n => n, fun | n => n⟩
theorem YtimcocmjmlejfaaGreatDoor.rc.laysIF : Go.Proofs.LaysGw.n15 Tryz.prog YtimcocmjmlejfaaGreatDoor.rc.laysIF_ren := {
  mixed := by kernel_rfl
  f15 := Tryz.func69.trans (congrArg some (by kernel_rfl))
  f20 := Tryz.func87.trans (congrArg some (by kernel_rfl))
  t0 := Tryz.underlying0
  a0 := Tryz.isAgg0
  z0 := Tryz.sizeOf0
  v0 := Tryz.zeroValue0
  i0 := by kernel_rfl
  t3 := Tryz.underlying3
  a3 := Tryz.isAgg3
  z3 := Tryz.sizeOf3
  v3 := Tryz.zeroValue3
  i3 := by kernel_rfl
  t4 := Tryz.underlying4
  a4 := Tryz.isAgg4
  z4 := Tryz.sizeOf4
  v4 := Tryz.zeroValue4
  i4 := by kernel_rfl
  t9 := Tryz.underlying9
  a9 := Tryz.isAgg9
  z9 := Tryz.sizeOf9
  v9 := Tryz.zeroValue9
  i9 := by kernel_rfl
  t21 := Tryz.underlying21
  a21 := Tryz.isAgg21
  z21 := Tryz.sizeOf21
  v21 := Tryz.zeroValue21
  i21 := by kernel_rfl
  t23 := Tryz.underlying76
  a23 := Tryz.isAgg76
  z23 := Tryz.sizeOf76
  v23 := Tryz.zeroValue76
  i23 := by kernel_rfl }
def YtimcocmjmlejfaaGreatDoor.rc.laysFF_ren : Go.Shelf.Ren := ⟨fun | 229 => 41 | n => n, fun | 9 => 9 | 40 => 76 | 31 => 24 | 152 => 110 | 3 => 3 | 0 => 0 | 4 => 4 | 21 => 21 | 154 => 112 | n => n, fun | n => n⟩
theorem YtimcocmjmlejfaaGreatDoor.rc.laysFF : Go.Proofs.Lays.n229 Tryz.prog YtimcocmjmlejfaaGreatDoor.rc.laysFF_ren := {
  mixed := by kernel_rfl
  f229 := Tryz.func41.trans (congrArg some (by kernel_rfl))
  t0 := Tryz.underlying0
  a0 := Tryz.isAgg0
  z0 := Tryz.sizeOf0
  v0 := Tryz.zeroValue0
  t3 := Tryz.underlying3
  a3 := Tryz.isAgg3
  z3 := Tryz.sizeOf3
  v3 := Tryz.zeroValue3
  t4 := Tryz.underlying4
  a4 := Tryz.isAgg4
  z4 := Tryz.sizeOf4
  v4 := Tryz.zeroValue4
  t9 := Tryz.underlying9
  a9 := Tryz.isAgg9
  z9 := Tryz.sizeOf9
  v9 := Tryz.zeroValue9
  t21 := Tryz.underlying21
  a21 := Tryz.isAgg21
  z21 := Tryz.sizeOf21
  v21 := Tryz.zeroValue21
  t31 := Tryz.underlying24
  a31 := Tryz.isAgg24
  z31 := Tryz.sizeOf24
  v31 := Tryz.zeroValue24
  t40 := Tryz.underlying76
  a40 := Tryz.isAgg76
  z40 := Tryz.sizeOf76
  v40 := Tryz.zeroValue76
  t152 := Tryz.underlying110
  a152 := Tryz.isAgg110
  z152 := Tryz.sizeOf110
  v152 := Tryz.zeroValue110
  t154 := Tryz.underlying112
  a154 := Tryz.isAgg112
  z154 := Tryz.sizeOf112
  v154 := Tryz.zeroValue112 }
def YtimcocmjmlejfaaGreatDoor.rc.laysSP_ren : Go.Shelf.Ren := ⟨fun | 146 => 18 | 221 => 40 | 268 => 66 | 138 => 67 | 143 => 68 | 195 => 83 | 197 => 84 | 218 => 85 | 219 => 86 | 260 => 94 | 217 => 95 | 225 => 96 | 224 => 97 | 267 => 98 | 266 => 101 | 314 => 102 | n => n, fun | 9 => 9 | 31 => 24 | 3 => 3 | 4 => 4 | 0 => 0 | 105 => 124 | 21 => 21 | 5 => 5 | 46 => 122 | 119 => 137 | 139 => 140 | 138 => 139 | 146 => 142 | 51 => 141 | n => n, fun | 1 => 0 | 3 => 1 | 4 => 2 | n => n⟩
theorem YtimcocmjmlejfaaGreatDoor.rc.laysSP : Go.Proofs.LaysM.n146 Tryz.prog YtimcocmjmlejfaaGreatDoor.rc.laysSP_ren := {
  mixed := by kernel_rfl
  f138 := Tryz.func67.trans (congrArg some (by kernel_rfl))
  f143 := Tryz.func68.trans (congrArg some (by kernel_rfl))
  f146 := Tryz.func18.trans (congrArg some (by kernel_rfl))
  f195 := Tryz.func83.trans (congrArg some (by kernel_rfl))
  f197 := Tryz.func84.trans (congrArg some (by kernel_rfl))
  f217 := Tryz.func95.trans (congrArg some (by kernel_rfl))
  f218 := Tryz.func85.trans (congrArg some (by kernel_rfl))
  f219 := Tryz.func86.trans (congrArg some (by kernel_rfl))
  f221 := Tryz.func40.trans (congrArg some (by kernel_rfl))
  f224 := Tryz.func97.trans (congrArg some (by kernel_rfl))
  f225 := Tryz.func96.trans (congrArg some (by kernel_rfl))
  f260 := Tryz.func94.trans (congrArg some (by kernel_rfl))
  f266 := Tryz.func101.trans (congrArg some (by kernel_rfl))
  f267 := Tryz.func98.trans (congrArg some (by kernel_rfl))
  f268 := Tryz.func66.trans (congrArg some (by kernel_rfl))
  f314 := Tryz.func102.trans (congrArg some (by kernel_rfl))
  t0 := Tryz.underlying0
  a0 := Tryz.isAgg0
  z0 := Tryz.sizeOf0
  v0 := Tryz.zeroValue0
  t3 := Tryz.underlying3
  a3 := Tryz.isAgg3
  z3 := Tryz.sizeOf3
  v3 := Tryz.zeroValue3
  t4 := Tryz.underlying4
  a4 := Tryz.isAgg4
  z4 := Tryz.sizeOf4
  v4 := Tryz.zeroValue4
  t5 := Tryz.underlying5
  a5 := Tryz.isAgg5
  z5 := Tryz.sizeOf5
  v5 := Tryz.zeroValue5
  t9 := Tryz.underlying9
  a9 := Tryz.isAgg9
  z9 := Tryz.sizeOf9
  v9 := Tryz.zeroValue9
  t21 := Tryz.underlying21
  a21 := Tryz.isAgg21
  z21 := Tryz.sizeOf21
  v21 := Tryz.zeroValue21
  t31 := Tryz.underlying24
  a31 := Tryz.isAgg24
  z31 := Tryz.sizeOf24
  v31 := Tryz.zeroValue24
  t46 := Tryz.underlying122
  a46 := Tryz.isAgg122
  z46 := Tryz.sizeOf122
  v46 := Tryz.zeroValue122
  t51 := Tryz.underlying141
  a51 := Tryz.isAgg141
  z51 := Tryz.sizeOf141
  v51 := Tryz.zeroValue141
  t105 := Tryz.underlying124
  a105 := Tryz.isAgg124
  z105 := Tryz.sizeOf124
  v105 := Tryz.zeroValue124
  t119 := Tryz.underlying137
  a119 := Tryz.isAgg137
  z119 := Tryz.sizeOf137
  t138 := Tryz.underlying139
  a138 := Tryz.isAgg139
  z138 := Tryz.sizeOf139
  v138 := Tryz.zeroValue139
  t139 := Tryz.underlying140
  a139 := Tryz.isAgg140
  z139 := Tryz.sizeOf140
  v139 := Tryz.zeroValue140
  t146 := Tryz.underlying142
  a146 := Tryz.isAgg142
  z146 := Tryz.sizeOf142
  v146 := Tryz.zeroValue142
  g1 := by kernel_rfl
  g3 := by kernel_rfl
  g4 := by kernel_rfl
  i0 := by kernel_rfl
  i3 := by kernel_rfl
  i4 := by kernel_rfl
  i5 := by kernel_rfl
  i9 := by kernel_rfl
  i21 := by kernel_rfl
  i31 := by kernel_rfl
  i46 := by kernel_rfl
  i51 := by kernel_rfl
  i105 := by kernel_rfl
  i138 := by kernel_rfl
  i139 := by kernel_rfl
  i146 := by kernel_rfl
  m1 := by kernel_rfl
  s1_3 := fun w h => Go.Proofs.cell_of_shapedOpen_int (zero := #[.int .i64 0]) (t := 3) h (of_decide_eq_true (by kernel_rfl)) (by kernel_rfl) rfl (by kernel_rfl) (by kernel_rfl) Tryz.underlying3
  m3 := by kernel_rfl
  m4 := by kernel_rfl }
end Go.Proofs
namespace Go.Proofs.YtimcocmjmlejfaaGreatDoor.rc
open Go.ChangeShapes Go.WideShapes Go.ChangeAt Go.RowKit Go.Deep Go.Lib Go.Shelf Go.Proofs.YtimcocmjmlejfaaGreatDoor.vr
set_option linter.unusedVariables false
set_option linter.unusedSimpArgs false

theorem idx_ren : laysIF_ren.f 15 = 69 := by kernel_rfl
theorem ff_ren : laysFF_ren.f 229 = 41 := by kernel_rfl
theorem sp_ren : laysSP_ren.f 146 = 18 := by kernel_rfl

def digR (r : Nat) : Bool := decide (48 ≤ r ∧ r ≤ 57)
theorem digR_lt (r : Nat) (h : digR r = true) : r < 128 := by simp [digR] at h; omega
theorem digR_dig (b : UInt8) : digR b.toNat = dig b := rfl

set_option maxRecDepth 100000 in
theorem digit_pays (w : World) : PredAtRunes Tryz.prog 59 #[] digR w := by
  intro W x hx hb
  show Calls Tryz.prog 59 #[.int .i32 (x : Int)] W _
  unfold digR
  by_cases h1 : 48 ≤ x
  · by_cases h2 : x ≤ 57
    · have h1' : (48 : Int) ≤ (x : Int) := by omega
      have h2' : (x : Int) ≤ 57 := by omega
      go_enter Tryz.func59, Tryz.ntmps59
      go_wp2
      go_ret
      exact ⟨by simp [h1, h2], 0, rfl⟩
    · have h1' : (48 : Int) ≤ (x : Int) := by omega
      have h2' : ¬ (x : Int) ≤ 57 := by omega
      go_enter Tryz.func59, Tryz.ntmps59
      go_wp2
      go_ret
      exact ⟨by simp [h1, h2], 0, rfl⟩
  · have h1' : ¬ (48 : Int) ≤ (x : Int) := by omega
    go_enter Tryz.func59, Tryz.ntmps59
    go_wp2
    go_ret
    exact ⟨by simp [h1], 0, rfl⟩

set_option maxRecDepth 100000 in
theorem blank_pays (w : World) : PredAtRunes Tryz.prog 42 #[] blank w := by
  intro W x hx hb
  show Calls Tryz.prog 42 #[.int .i32 (x : Int)] W _
  unfold blank
  by_cases h1 : x = 32
  · subst h1
    go_enter Tryz.func42, Tryz.ntmps42
    go_wp2
    go_ret
    exact ⟨rfl, 0, rfl⟩
  · have h1' : ¬ (x : Int) = 32 := by omega
    go_enter Tryz.func42, Tryz.ntmps42
    go_wp2
    go_ret
    exact ⟨by simp [h1]; omega, 0, rfl⟩

/-- Where the version of a word begins. -/
theorem index_any (s : ByteArray) (w : World) :
    Calls Tryz.prog 69 #[.string s, .func (.func 59) #[] #[]] w fun e w' => e = .returned (.int .i64 (if (opL s.data.toList).length < s.size then ((opL s.data.toList).length : Int) else -1)) ∧ Below w.heap.size w w' := by
  have hC := Any.strings_IndexFunc_runes laysIF 59 #[] (enters_of Tryz.func59 (by kernel_rfl) rfl) digR s w (digit_pays w)
  rw [idx_bytes digR digR_lt] at hC
  exact hC

theorem fields_any (s : ByteArray) (w : World) (hs : s.size ≤ 1048576) :
    Calls Tryz.prog 41 #[.string s, .func (.func 42) #[] #[]] w fun e w' => ∃ A, e = .returned (.slice (some ⟨A, 0, none⟩) (wds [] s.data.toList).length (wds [] s.data.toList).length) ∧ w.heap.size ≤ A ∧ A < w'.heap.size ∧ (∀ i x, (wds [] s.data.toList)[i]? = some x → w'.cell? ⟨A, i, none⟩ = some (.string ⟨x.toArray⟩)) ∧ Below w.heap.size w w' := by
  have hC := Any.strings_FieldsFunc_runes laysFF 42 #[] (enters_of Tryz.func42 (by kernel_rfl) rfl) blank s w (by omega) (blank_pays w) (by kernel_rfl) (by kernel_rfl)
  refine Calls.mono (show Calls Tryz.prog 41 _ _ _ from hC) ?_
  rintro e w' ⟨A, rfl, h1, ho, hb⟩
  have hw := fields_wds s
  have hl : (goFieldsP blank s).length = (wds [] s.data.toList).length := by rw [← hw, List.length_map]
  refine ⟨A, by rw [hl], h1, ?_, fun i x hx => ?_, hb⟩
  · obtain ⟨_, h⟩ := ho
    rcases h with ⟨e, _⟩ | ⟨g, cap, cur, e, hg, hh, _⟩
    · cases e
    · have : A = g := by simpa using (congrArg (fun v : Value => match v with | .slice (some a) _ _ => a.block | _ => 0) e)
      subst this
      exact (Array.getElem?_eq_some_iff.1 hh).1
  · rw [← hw, List.getElem?_map, Option.map_eq_some_iff] at hx
    obtain ⟨b, hb', rfl⟩ := hx
    have := ho.cells (g := A) rfl i (.string b) (by rw [List.getElem?_map, hb']; rfl)
    rw [addr_add, Nat.zero_add] at this
    rw [this]

/-- What strings.Index reads: a number. -/
def ML (w : World) : Prop := ∃ m, w.cell? ⟨laysSP_ren.g 1, 0, none⟩ = some (.int .i64 m)
theorem ML.below {w w' : World} (h : ML w) (hb : Below w.heap.size w w') : ML w' := by
  obtain ⟨m, hm⟩ := h
  exact ⟨m, (hb.cell (p := ⟨_, 0, none⟩) (World.block_lt_of_cell? _ _ hm)).trans hm⟩

theorem split_any (s : ByteArray) (w : World) (hs : s.size ≤ 1048576) (hm : ML w) :
    Calls Tryz.prog 18 #[.string s, .string ⟨#[124, 124]⟩] w fun e w' => e = .returned (.slice (some ⟨w.heap.size, 0, none⟩) (al [] s.data.toList).length (al [] s.data.toList).length) ∧ (∀ i x, (al [] s.data.toList)[i]? = some x → w'.cell? ⟨w.heap.size, i, none⟩ = some (.string ⟨x.toArray⟩)) ∧ Below w.heap.size w w' := by
  obtain ⟨m, hm⟩ := hm
  have hC := Any.strings_Split { laysSP with } laysSP.i9 s ⟨#[124, 124]⟩ m w (by omega) hm (by decide)
  refine Calls.mono (show Calls Tryz.prog 18 _ _ _ from hC) ?_
  rintro e w' ⟨rfl, rfl⟩
  have ha := splitB_al s ⟨#[124, 124]⟩ rfl
  have hl : countB s ⟨#[124, 124]⟩ + 1 = (al [] s.data.toList).length := by
    rw [← ha, List.length_map, splitB_all _ (by decide) 0 _ s rfl]
  refine ⟨by rw [hl], fun i x hx => ?_, (Below.refl _ _).alloc (Nat.le_refl _) _⟩
  rw [← ha, List.getElem?_map, Option.map_eq_some_iff] at hx
  obtain ⟨b, hb, rfl⟩ := hx
  have : (w.alloc (.cells ((splitB ⟨#[124, 124]⟩ 0 (countB s ⟨#[124, 124]⟩) s).map Value.string).toArray (laysSP_ren.t 9))).cell? ⟨w.heap.size, i, none⟩ = some (.string b) := by
    simp [go_sem, hb]
  rw [this]

end Go.Proofs.YtimcocmjmlejfaaGreatDoor.rc
