import Derived.Test.YtimcocmjmlejfaaGreatDoorQM
import Derived.Test.YtimcocmjmlejfaaGreatDoorKC
import Derived.Shelf.GgClosure.StringsRunes
import Derived.Shelf.Strings.FieldsFuncAny
import Derived.Shelf.Strings.SplitShaped
import Derived.Shelf.Lay
import Derived.Ground.GgwProg
import Derived.Ground.NamesProg
import Derived.Deep.RegionHeld3
namespace Go.Proofs.YtimcocmjmlejfaaGreatDoor.rc
open Go.ChangeShapes Go.WideShapes Go.ChangeAt Go.RowKit Go.Deep Go.Lib Go.Shelf Go.Proofs.YtimcocmjmlejfaaGreatDoor.vr
set_option linter.unusedVariables false
set_option linter.unusedSimpArgs false

shelf_lay LaysGw.n15 Ggw 15 at Tryz as laysIF
shelf_lay Lays.n229 Nm 229 at Tryz as laysFF
shelf_lay LaysM.n146 Nm 146 at Tryz as laysSP

theorem idx_ren : laysIF_ren.f 15 = 69 := by kernel_rfl
theorem ff_ren : laysFF_ren.f 229 = 41 := by kernel_rfl
theorem sp_ren : laysSP_ren.f 146 = 18 := by kernel_rfl

def digR (r : Nat) : Bool := decide (48 ≤ r ∧ r ≤ 57)
theorem digR_lt (r : Nat) (h : digR r = true) : r < 128 := by simp [digR] at h; omega
theorem digR_dig (b : UInt8) : digR b.toNat = dig b := rfl

set_option maxRecDepth 100000 in
theorem digit_pays (w : World) : PredAtRunes Tryz.prog 59 #[] digR w := by
  intro W x hx hb
  show Calls Tryz.prog 59 #[.int .i32 (x : Int)] W _
  unfold digR
  by_cases h1 : 48 ≤ x
  · by_cases h2 : x ≤ 57
    · have h1' : (48 : Int) ≤ (x : Int) := by omega
      have h2' : (x : Int) ≤ 57 := by omega
      go_enter Tryz.func59, Tryz.ntmps59
      go_wp2
      go_ret
      exact ⟨by simp [h1, h2], 0, rfl⟩
    · have h1' : (48 : Int) ≤ (x : Int) := by omega
      have h2' : ¬ (x : Int) ≤ 57 := by omega
      go_enter Tryz.func59, Tryz.ntmps59
      go_wp2
      go_ret
      exact ⟨by simp [h1, h2], 0, rfl⟩
  · have h1' : ¬ (48 : Int) ≤ (x : Int) := by omega
    go_enter Tryz.func59, Tryz.ntmps59
    go_wp2
    go_ret
    exact ⟨by simp [h1], 0, rfl⟩

set_option maxRecDepth 100000 in
theorem blank_pays (w : World) : PredAtRunes Tryz.prog 42 #[] blank w := by
  intro W x hx hb
  show Calls Tryz.prog 42 #[.int .i32 (x : Int)] W _
  unfold blank
  by_cases h1 : x = 32
  · subst h1
    go_enter Tryz.func42, Tryz.ntmps42
    go_wp2
    go_ret
    exact ⟨rfl, 0, rfl⟩
  · have h1' : ¬ (x : Int) = 32 := by omega
    go_enter Tryz.func42, Tryz.ntmps42
    go_wp2
    go_ret
    exact ⟨by simp [h1]; omega, 0, rfl⟩

/-- Where the version of a word begins. -/
theorem index_any (s : ByteArray) (w : World) :
    Calls Tryz.prog 69 #[.string s, .func (.func 59) #[] #[]] w fun e w' => e = .returned (.int .i64 (if (opL s.data.toList).length < s.size then ((opL s.data.toList).length : Int) else -1)) ∧ Below w.heap.size w w' := by
  have hC := Any.strings_IndexFunc_runes laysIF 59 #[] (enters_of Tryz.func59 (by kernel_rfl) rfl) digR s w (digit_pays w)
  rw [idx_bytes digR digR_lt] at hC
  exact hC

theorem fields_any (s : ByteArray) (w : World) (hs : s.size ≤ 1048576) :
    Calls Tryz.prog 41 #[.string s, .func (.func 42) #[] #[]] w fun e w' => ∃ A, e = .returned (.slice (some ⟨A, 0, none⟩) (wds [] s.data.toList).length (wds [] s.data.toList).length) ∧ w.heap.size ≤ A ∧ A < w'.heap.size ∧ (∀ i x, (wds [] s.data.toList)[i]? = some x → w'.cell? ⟨A, i, none⟩ = some (.string ⟨x.toArray⟩)) ∧ Below w.heap.size w w' := by
  have hC := Any.strings_FieldsFunc_runes laysFF 42 #[] (enters_of Tryz.func42 (by kernel_rfl) rfl) blank s w (by omega) (blank_pays w) (by kernel_rfl) (by kernel_rfl)
  refine Calls.mono (show Calls Tryz.prog 41 _ _ _ from hC) ?_
  rintro e w' ⟨A, rfl, h1, ho, hb⟩
  have hw := fields_wds s
  have hl : (goFieldsP blank s).length = (wds [] s.data.toList).length := by rw [← hw, List.length_map]
  refine ⟨A, by rw [hl], h1, ?_, fun i x hx => ?_, hb⟩
  · obtain ⟨_, h⟩ := ho
    rcases h with ⟨e, _⟩ | ⟨g, cap, cur, e, hg, hh, _⟩
    · cases e
    · have : A = g := by simpa using (congrArg (fun v : Value => match v with | .slice (some a) _ _ => a.block | _ => 0) e)
      subst this
      exact (Array.getElem?_eq_some_iff.1 hh).1
  · rw [← hw, List.getElem?_map, Option.map_eq_some_iff] at hx
    obtain ⟨b, hb', rfl⟩ := hx
    have := ho.cells (g := A) rfl i (.string b) (by rw [List.getElem?_map, hb']; rfl)
    rw [addr_add, Nat.zero_add] at this
    rw [this]

/-- What strings.Index reads: a number. -/
def ML (w : World) : Prop := ∃ m, w.cell? ⟨laysSP_ren.g 1, 0, none⟩ = some (.int .i64 m)
theorem ML.below {w w' : World} (h : ML w) (hb : Below w.heap.size w w') : ML w' := by
  obtain ⟨m, hm⟩ := h
  exact ⟨m, (hb.cell (p := ⟨_, 0, none⟩) (World.block_lt_of_cell? _ _ hm)).trans hm⟩

theorem split_any (s : ByteArray) (w : World) (hs : s.size ≤ 1048576) (hm : ML w) :
    Calls Tryz.prog 18 #[.string s, .string ⟨#[124, 124]⟩] w fun e w' => e = .returned (.slice (some ⟨w.heap.size, 0, none⟩) (al [] s.data.toList).length (al [] s.data.toList).length) ∧ (∀ i x, (al [] s.data.toList)[i]? = some x → w'.cell? ⟨w.heap.size, i, none⟩ = some (.string ⟨x.toArray⟩)) ∧ Below w.heap.size w w' := by
  obtain ⟨m, hm⟩ := hm
  have hC := Any.strings_Split { laysSP with } laysSP.i9 s ⟨#[124, 124]⟩ m w (by omega) hm (by decide)
  refine Calls.mono (show Calls Tryz.prog 18 _ _ _ from hC) ?_
  rintro e w' ⟨rfl, rfl⟩
  have ha := splitB_al s ⟨#[124, 124]⟩ rfl
  have hl : countB s ⟨#[124, 124]⟩ + 1 = (al [] s.data.toList).length := by
    rw [← ha, List.length_map, splitB_all _ (by decide) 0 _ s rfl]
  refine ⟨by rw [hl], fun i x hx => ?_, (Below.refl _ _).alloc (Nat.le_refl _) _⟩
  rw [← ha, List.getElem?_map, Option.map_eq_some_iff] at hx
  obtain ⟨b, hb, rfl⟩ := hx
  have : (w.alloc (.cells ((splitB ⟨#[124, 124]⟩ 0 (countB s ⟨#[124, 124]⟩) s).map Value.string).toArray (laysSP_ren.t 9))).cell? ⟨w.heap.size, i, none⟩ = some (.string b) := by
    simp [go_sem, hb]
  rw [this]

end Go.Proofs.YtimcocmjmlejfaaGreatDoor.rc
