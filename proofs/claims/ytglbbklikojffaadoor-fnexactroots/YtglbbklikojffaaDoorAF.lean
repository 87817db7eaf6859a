import Derived.Test.YtglbbklikojffaaDoorAE
import Derived.Test.YtglbbklikojffaaDoorPB
import Derived.Shelf.SlicesE.DeleteFunc
import Derived.Ground.SlgfProg
import Derived.Lib.Hide
namespace Go.Proofs.YtglbbklikojffaaDoor.sr
open Go.ChangeShapes Go.WideShapes Go.ChangeAt Go.RowKit Go.Deep Go.Shelf Go.Sort
set_option linter.unusedVariables false
set_option linter.unusedSimpArgs false

/-! ### Addresses among texts -/

end Go.Proofs.YtglbbklikojffaaDoor.sr
namespace Go.Proofs
open Go.Shelf
def YtglbbklikojffaaDoor.sr.laysDel_ren : Go.Shelf.Ren := ⟨fun | 10 => 84 | 6 => 97 | n => n, fun | 22 => 38 | 23 => 9 | 25 => 51 | 3 => 3 | 4 => 4 | 0 => 0 | n => n, fun | n => n⟩
theorem YtglbbklikojffaaDoor.sr.laysDel : Go.Proofs.SlLaysH.n10 Tryd.prog YtglbbklikojffaaDoor.sr.laysDel_ren := {
  mixed := by kernel_rfl
  f6 := ⟨Tryd.f97.name, by decide, Tryd.func97.trans (congrArg some (by kernel_rfl))⟩
  f10 := ⟨Tryd.f84.name, by decide, Tryd.func84.trans (congrArg some (by kernel_rfl))⟩
  t0 := Tryd.underlying0
  a0 := Tryd.isAgg0
  z0 := Tryd.sizeOf0
  v0 := Tryd.zeroValue0
  t3 := Tryd.underlying3
  a3 := Tryd.isAgg3
  z3 := Tryd.sizeOf3
  v3 := Tryd.zeroValue3
  t4 := Tryd.underlying4
  a4 := Tryd.isAgg4
  z4 := Tryd.sizeOf4
  v4 := Tryd.zeroValue4
  t22 := Tryd.underlying38
  a22 := Tryd.isAgg38
  z22 := Tryd.sizeOf38
  v22 := Tryd.zeroValue38
  a23 := Tryd.isAgg9
  z23 := Tryd.sizeOf9
  t25 := Tryd.underlying51
  a25 := Tryd.isAgg51
  z25 := Tryd.sizeOf51
  v25 := Tryd.zeroValue51 }
end Go.Proofs
namespace Go.Proofs.YtglbbklikojffaaDoor.sr
open Go.ChangeShapes Go.WideShapes Go.ChangeAt Go.RowKit Go.Deep Go.Shelf Go.Sort
set_option linter.unusedVariables false
set_option linter.unusedSimpArgs false

abbrev Tx : Type := { l : List UInt8 // l.length ≤ 1048576 }
instance : Inhabited Tx := ⟨⟨[], by simp⟩⟩
def encT (x : Tx) : Value := strL x.1
def aokL (l : List UInt8) : Bool := wd.aokB ⟨l.toArray⟩

theorem am1_gives (x : Tx) (vb mb : Nat) (W : World) (hv : W.cell? ⟨vb, 0, none⟩ = some (.map (some mb))) (hL : pf.LV W mb) : FnGives Tryd.prog 85 #[.pointer (some ⟨vb, 0, none⟩)] #[encT x] (.bool (!aokL x.1)) W := by
  show Calls Tryd.prog 85 #[.string ⟨x.1.toArray⟩, .pointer (some ⟨vb, 0, none⟩)] W _
  have HI : Hid (Calls Tryd.prog 72 #[.string ⟨x.1.toArray⟩, .map (some mb)] W fun e w' => e = .returned (.bool (wd.aokB ⟨x.1.toArray⟩)) ∧ w' = W) := wd.isadr_any ⟨x.1.toArray⟩ (by show x.1.toArray.size ≤ _; have := x.2; simpa using this) mb W hL
  have HR : Hid (aokL x.1 = wd.aokB ⟨x.1.toArray⟩) := rfl
  rw [HR.out]
  generalize (⟨x.1.toArray⟩ : ByteArray) = s at *
  generalize wd.aokB s = r at *
  clear hL HR
  go_enter Tryd.func85, Tryd.ntmps85
  go_wp2_with (go_at_call 72; refine HI.out.mono ?_; rintro e w1 ⟨rfl, rfl⟩)
  go_ret
  exact ⟨by first | rfl | simp, 0, rfl⟩

def mkT (xs : List (List UInt8)) (h : ∀ x ∈ xs, x.length ≤ 1048576) : List Tx := xs.pmap (fun x hx => ⟨x, hx⟩) h
theorem mkT_len (xs : List (List UInt8)) (h : ∀ x ∈ xs, x.length ≤ 1048576) : (mkT xs h).length = xs.length := by simp [mkT]
theorem mkT_val (xs : List (List UInt8)) (h : ∀ x ∈ xs, x.length ≤ 1048576) : (mkT xs h).map (fun x => x.1) = xs := by simp [mkT, List.map_pmap]
theorem mkT_filter : ∀ (l : List Tx), (l.filter fun x => !!aokL x.1).map (fun x => x.1) = (l.map fun x => x.1).filter aokL
  | [] => rfl
  | x :: l => by
    have ih := mkT_filter l
    simp only [Bool.not_not] at ih ⊢
    cases h : aokL x.1 <;> simp [List.filter_cons, h, ih]

theorem putRow_T (w : World) (g : Nat) (d : List Tx) : putRow encT w g 0 d.toArray = putRow encStr w g 0 (d.map fun x => x.1).toArray := by
  unfold putRow
  congr 1
  funext cur
  unfold putCells
  congr 1
  funext i
  simp only [List.size_toArray, List.length_map]
  split
  · next h =>
    have hi : i < d.length := by have := h.2; omega
    simp [encT, enc_strL, List.getElem?_eq_getElem hi]
  · rfl

theorem del_any (g cap vb mb : Nat) (xs : List (List UInt8)) (hx : ∀ x ∈ xs, x.length ≤ 1048576) (w : World) (h : Blk w g cap xs) (hn : xs.length ≤ 4000) (hv : w.cell? ⟨vb, 0, none⟩ = some (.map (some mb))) (hL : pf.LV w mb) (hvg : vb ≠ g) (hmg : mb ≠ g) :
    Calls Tryd.prog 84 #[.slice (some ⟨g, 0, none⟩) xs.length cap, .func (.func 85) #[] #[.pointer (some ⟨vb, 0, none⟩)]] w fun e w' => e = .returned (.slice (some ⟨g, 0, none⟩) (xs.filter aokL).length cap) ∧ Blk w' g cap (xs.filter aokL) ∧ w.grownBy w' (some g) := by
  have eg : ∀ args w, (callFunc 85 args).run Tryd.prog w = .ok (.enter 85 args) w := enters_of Tryd.func85 (by kernel_rfl) rfl
  have hvl := World.block_lt_of_cell? _ _ hv
  have hp : PredAt Tryd.prog 85 #[.pointer (some ⟨vb, 0, none⟩)] encT (fun x => !aokL x.1) w := fun W x hb => am1_gives x vb mb W ((hb.cell (p := ⟨vb, 0, none⟩) hvl).trans hv) (hL.below hb)
  have hpo : PredOver Tryd.prog 85 #[.pointer (some ⟨vb, 0, none⟩)] encT (fun x => !aokL x.1) g 0 (mkT xs hx).toArray.size w := fun n os dk x _ => by
    have hgr : w.grownBy (sortWorld encT w g 0 n dk os) (some g) := by
      unfold sortWorld
      rw [show dk = dk.toList.toArray by simp, putRow_T]
      exact grownBy_sorted _
    refine am1_gives x vb mb _ ?_ (World.ownsMap.kept hL hgr (by simpa using hmg))
    have := hgr.block vb hvl (by simpa using hvg)
    rw [World.cell?_of_block (a := ⟨vb, 0, none⟩) this]
    exact hv
  have hH : Holds encT w g 0 (mkT xs hx).toArray := fun j hj => by
    have hj' : j < xs.length := by simpa [mkT_len] using hj
    obtain ⟨h1, h2⟩ := h.holds j (by simpa using hj')
    refine ⟨?_, h2⟩
    rw [h1]
    have e1 : (xs.toArray[j]!) = xs[j] := by simp [hj']
    have e2 : ((mkT xs hx).toArray[j]!) = ⟨xs[j], hx _ (List.getElem_mem hj')⟩ := by simp [mkT, hj']
    rw [e1, e2, enc_strL]
    rfl
  have hcon := AnyE.slices_DeleteFunc laysDel encT (fun _ => rfl) (fun x => !aokL x.1) 85 #[.pointer (some ⟨vb, 0, none⟩)] eg default Tryd.zeroValue9 g 0 cap (mkT xs hx).toArray w hp hpo hH (by simp [mkT_len]; omega) (by simp [mkT_len]; exact h.le)
  have hfl : ((mkT xs hx).filter fun x => !!aokL x.1).map (fun x => x.1) = xs.filter aokL := by rw [mkT_filter, mkT_val]
  have hll : ((mkT xs hx).filter fun x => !!aokL x.1).length = (xs.filter aokL).length := by have := congrArg List.length hfl; rwa [List.length_map] at this
  have hsz : (mkT xs hx).toArray.size = xs.length := by simp [mkT_len]
  rw [hsz] at hcon
  refine Calls.mono hcon ?_
  rintro e w' ⟨rfl, q, rfl⟩
  have hfle : (xs.filter aokL).length ≤ xs.length := List.length_filter_le _ _
  simp only [] at hll ⊢
  rw [putRow_T, List.map_append, hfl, List.map_replicate]
  refine ⟨by rw [hll], ?_, ?_⟩
  · have := h.put (n := q) (os := #[]) (ys := xs.filter aokL) (List.replicate (xs.length - ((mkT xs hx).filter fun x : Tx => !!aokL x.1).length) []) (by rw [List.length_append, List.length_replicate, hll]; omega)
    rwa [grow_empty] at this
  · have := grownBy_sorted (w := w) (g := g) (n := q) (os := #[]) (xs.filter aokL ++ List.replicate (xs.length - ((mkT xs hx).filter fun x : Tx => !!aokL x.1).length) []).toArray
    rwa [grow_empty] at this

end Go.Proofs.YtglbbklikojffaaDoor.sr
