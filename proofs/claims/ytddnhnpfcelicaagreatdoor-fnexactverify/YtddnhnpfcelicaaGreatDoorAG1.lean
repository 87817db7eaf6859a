import Derived.Test.YtddnhnpfcelicaaGreatDoorRS1
import Derived.Test.YtddnhnpfcelicaaGreatDoorPB
import Derived.Shelf.SlicesE.DeleteFunc
import Derived.Ground.SlgfProg
import Derived.Lib.Hide
import Derived.Test.YtddnhnpfcelicaaGreatDoorKC
import Derived.Deep.DeepAppendRoom
namespace Go.Proofs.YtddnhnpfcelicaaGreatDoor.sr
open Go.ChangeShapes Go.WideShapes Go.ChangeAt Go.RowKit Go.Deep Go.Shelf Go.Sort
set_option linter.unusedVariables false
set_option linter.unusedSimpArgs false

/-! ### Addresses among texts -/

end Go.Proofs.YtddnhnpfcelicaaGreatDoor.sr
namespace Go.Proofs
open Go.Shelf
def YtddnhnpfcelicaaGreatDoor.sr.laysDel_ren : Go.Shelf.Ren := ⟨fun | 10 => 91 | 6 => 100 | n => n, fun | 22 => 24 | 23 => 9 | 25 => 55 | 3 => 3 | 4 => 4 | 0 => 0 | n => n, fun | n => n⟩
theorem YtddnhnpfcelicaaGreatDoor.sr.laysDel : Go.Proofs.SlLaysH.n10 Tryz.prog YtddnhnpfcelicaaGreatDoor.sr.laysDel_ren := {
  mixed := by kernel_rfl
  f6 := ⟨Tryz.f100.name, by decide, Tryz.func100.trans (congrArg some (by kernel_rfl))⟩
  f10 := ⟨Tryz.f91.name, by decide, Tryz.func91.trans (congrArg some (by kernel_rfl))⟩
  t0 := Tryz.underlying0
  a0 := Tryz.isAgg0
  z0 := Tryz.sizeOf0
  v0 := Tryz.zeroValue0
  t3 := Tryz.underlying3
  a3 := Tryz.isAgg3
  z3 := Tryz.sizeOf3
  v3 := Tryz.zeroValue3
  t4 := Tryz.underlying4
  a4 := Tryz.isAgg4
  z4 := Tryz.sizeOf4
  v4 := Tryz.zeroValue4
  t22 := Tryz.underlying24
  a22 := Tryz.isAgg24
  z22 := Tryz.sizeOf24
  v22 := Tryz.zeroValue24
  a23 := Tryz.isAgg9
  z23 := Tryz.sizeOf9
  t25 := Tryz.underlying55
  a25 := Tryz.isAgg55
  z25 := Tryz.sizeOf55
  v25 := Tryz.zeroValue55 }
end Go.Proofs
namespace Go.Proofs.YtddnhnpfcelicaaGreatDoor.sr
open Go.ChangeShapes Go.WideShapes Go.ChangeAt Go.RowKit Go.Deep Go.Shelf Go.Sort
set_option linter.unusedVariables false
set_option linter.unusedSimpArgs false

abbrev Tx : Type := { l : List UInt8 // l.length ≤ 1048576 }
instance : Inhabited Tx := ⟨⟨[], by simp⟩⟩
def encT (x : Tx) : Value := strL x.1
def aokL (l : List UInt8) : Bool := wd.aokB ⟨l.toArray⟩

theorem am1_gives (x : Tx) (vb mb : Nat) (W : World) (hv : W.cell? ⟨vb, 0, none⟩ = some (.map (some mb))) (hL : pf.LV W mb) : FnGives Tryz.prog 92 #[.pointer (some ⟨vb, 0, none⟩)] #[encT x] (.bool (!aokL x.1)) W := by
  show Calls Tryz.prog 92 #[.string ⟨x.1.toArray⟩, .pointer (some ⟨vb, 0, none⟩)] W _
  have HI : Hid (Calls Tryz.prog 93 #[.string ⟨x.1.toArray⟩, .map (some mb)] W fun e w' => e = .returned (.bool (wd.aokB ⟨x.1.toArray⟩)) ∧ w' = W) := wd.isadr_any ⟨x.1.toArray⟩ (by show x.1.toArray.size ≤ _; have := x.2; simpa using this) mb W hL
  have HR : Hid (aokL x.1 = wd.aokB ⟨x.1.toArray⟩) := rfl
  rw [HR.out]
  generalize (⟨x.1.toArray⟩ : ByteArray) = s at *
  generalize wd.aokB s = r at *
  clear hL HR
  go_enter Tryz.func92, Tryz.ntmps92
  go_wp2_with (go_at_call 93; refine HI.out.mono ?_; rintro e w1 ⟨rfl, rfl⟩)
  go_ret
  exact ⟨by first | rfl | simp, 0, rfl⟩

def mkT (xs : List (List UInt8)) (h : ∀ x ∈ xs, x.length ≤ 1048576) : List Tx := xs.pmap (fun x hx => ⟨x, hx⟩) h
theorem mkT_len (xs : List (List UInt8)) (h : ∀ x ∈ xs, x.length ≤ 1048576) : (mkT xs h).length = xs.length := by simp [mkT]
theorem mkT_val (xs : List (List UInt8)) (h : ∀ x ∈ xs, x.length ≤ 1048576) : (mkT xs h).map (fun x => x.1) = xs := by simp [mkT, List.map_pmap]
theorem mkT_filter : ∀ (l : List Tx), (l.filter fun x => !!aokL x.1).map (fun x => x.1) = (l.map fun x => x.1).filter aokL
  | [] => rfl
  | x :: l => by
    have ih := mkT_filter l
    simp only [Bool.not_not] at ih ⊢
    cases h : aokL x.1 <;> simp [List.filter_cons, h, ih]

theorem putRow_T (w : World) (g : Nat) (d : List Tx) : putRow encT w g 0 d.toArray = putRow encStr w g 0 (d.map fun x => x.1).toArray := by
  unfold putRow
  congr 1
  funext cur
  unfold putCells
  congr 1
  funext i
  simp only [List.size_toArray, List.length_map]
  split
  · next h =>
    have hi : i < d.length := by have := h.2; omega
    simp [encT, enc_strL, List.getElem?_eq_getElem hi]
  · rfl

theorem del_any (g cap vb mb : Nat) (xs : List (List UInt8)) (hx : ∀ x ∈ xs, x.length ≤ 1048576) (w : World) (h : Blk w g cap xs) (hn : xs.length ≤ 4000) (hv : w.cell? ⟨vb, 0, none⟩ = some (.map (some mb))) (hL : pf.LV w mb) (hvg : vb ≠ g) (hmg : mb ≠ g) :
    Calls Tryz.prog 91 #[.slice (some ⟨g, 0, none⟩) xs.length cap, .func (.func 92) #[] #[.pointer (some ⟨vb, 0, none⟩)]] w fun e w' => e = .returned (.slice (some ⟨g, 0, none⟩) (xs.filter aokL).length cap) ∧ Blk w' g cap (xs.filter aokL) ∧ w.grownBy w' (some g) := by
  have eg : ∀ args w, (callFunc 92 args).run Tryz.prog w = .ok (.enter 92 args) w := enters_of Tryz.func92 (by kernel_rfl) rfl
  have hvl := World.block_lt_of_cell? _ _ hv
  have hp : PredAt Tryz.prog 92 #[.pointer (some ⟨vb, 0, none⟩)] encT (fun x => !aokL x.1) w := fun W x hb => am1_gives x vb mb W ((hb.cell (p := ⟨vb, 0, none⟩) hvl).trans hv) (hL.below hb)
  have hpo : PredOver Tryz.prog 92 #[.pointer (some ⟨vb, 0, none⟩)] encT (fun x => !aokL x.1) g 0 (mkT xs hx).toArray.size w := fun n os dk x _ => by
    have hgr : w.grownBy (sortWorld encT w g 0 n dk os) (some g) := by
      unfold sortWorld
      rw [show dk = dk.toList.toArray by simp, putRow_T]
      exact grownBy_sorted _
    refine am1_gives x vb mb _ ?_ (World.ownsMap.kept hL hgr (by simpa using hmg))
    have := hgr.block vb hvl (by simpa using hvg)
    rw [World.cell?_of_block (a := ⟨vb, 0, none⟩) this]
    exact hv
  have hH : Holds encT w g 0 (mkT xs hx).toArray := fun j hj => by
    have hj' : j < xs.length := by simpa [mkT_len] using hj
    obtain ⟨h1, h2⟩ := h.holds j (by simpa using hj')
    refine ⟨?_, h2⟩
    rw [h1]
    have e1 : (xs.toArray[j]!) = xs[j] := by simp [hj']
    have e2 : ((mkT xs hx).toArray[j]!) = ⟨xs[j], hx _ (List.getElem_mem hj')⟩ := by simp [mkT, hj']
    rw [e1, e2, enc_strL]
    rfl
  have hcon := AnyE.slices_DeleteFunc laysDel encT (fun _ => rfl) (fun x => !aokL x.1) 92 #[.pointer (some ⟨vb, 0, none⟩)] eg default Tryz.zeroValue9 g 0 cap (mkT xs hx).toArray w hp hpo hH (by simp [mkT_len]; omega) (by simp [mkT_len]; exact h.le)
  have hfl : ((mkT xs hx).filter fun x => !!aokL x.1).map (fun x => x.1) = xs.filter aokL := by rw [mkT_filter, mkT_val]
  have hll : ((mkT xs hx).filter fun x => !!aokL x.1).length = (xs.filter aokL).length := by have := congrArg List.length hfl; rwa [List.length_map] at this
  have hsz : (mkT xs hx).toArray.size = xs.length := by simp [mkT_len]
  rw [hsz] at hcon
  refine Calls.mono hcon ?_
  rintro e w' ⟨rfl, q, rfl⟩
  have hfle : (xs.filter aokL).length ≤ xs.length := List.length_filter_le _ _
  simp only [] at hll ⊢
  rw [putRow_T, List.map_append, hfl, List.map_replicate]
  refine ⟨by rw [hll], ?_, ?_⟩
  · have := h.put (n := q) (os := #[]) (ys := xs.filter aokL) (List.replicate (xs.length - ((mkT xs hx).filter fun x : Tx => !!aokL x.1).length) []) (by rw [List.length_append, List.length_replicate, hll]; omega)
    rwa [grow_empty] at this
  · have := grownBy_sorted (w := w) (g := g) (n := q) (os := #[]) (xs.filter aokL ++ List.replicate (xs.length - ((mkT xs hx).filter fun x : Tx => !!aokL x.1).length) []).toArray
    rwa [grow_empty] at this

end Go.Proofs.YtddnhnpfcelicaaGreatDoor.sr

namespace Go.Proofs.YtddnhnpfcelicaaGreatDoor.sr
open Go.ChangeShapes Go.WideShapes Go.ChangeAt Go.RowKit Go.Deep Go.Shelf Go.Sort
set_option linter.unusedVariables false
set_option linter.unusedSimpArgs false

/-! ### addressesAmong, clonedTexts -/

theorem Blk.row' {w : World} {g cap : Nat} {xs : List (List UInt8)} (h : Blk w g cap xs) (hm : cap ≤ maxLen) : StrR w (.slice (some ⟨g, 0, none⟩) xs.length cap) xs := by
  obtain ⟨cur, hb, hs, ht⟩ := h.row
  refine ⟨g, 0, cap, rfl, h.le, hm, fun i x hx => ?_⟩
  have hi := (List.getElem?_eq_some_iff.1 hx).1
  have h1 : (cur.toList.take xs.length)[i]? = (xs.map encStr)[i]? := by rw [ht]
  rw [List.getElem?_take_of_lt hi, List.getElem?_map, hx, Array.getElem?_toList] at h1
  rw [Nat.zero_add]
  simp [World.cell?, hb, h1, enc_strL]
theorem Blk.lt {w : World} {g cap : Nat} {xs : List (List UInt8)} (h : Blk w g cap xs) : g < w.heap.size := by obtain ⟨cur, hb, _⟩ := h.row; exact (Array.getElem?_eq_some_iff.1 hb).1
theorem Blk.kept {w w' : World} {g cap : Nat} {xs : List (List UInt8)} (h : Blk w g cap xs) (hb : w'.heap[g]? = w.heap[g]?) : Blk w' g cap xs := by
  obtain ⟨cur, h1, h2⟩ := h.row
  exact ⟨⟨cur, hb.trans h1, h2⟩, h.le⟩

theorem blk_own' {w : World} {B : Nat} {v : Value} {xs : List (List UInt8)} (h : OwnS B w v xs) : ∃ g cap, v = .slice (some ⟨g, 0, none⟩) xs.length cap ∧ B ≤ g ∧ cap ≤ maxLen ∧ Blk w g cap xs := by
  obtain ⟨hl, h'⟩ := h.1
  rcases h' with ⟨e, _⟩ | ⟨g, cap, cur, rfl, hb, hg, hc, hm, hz, ht⟩
  · exact absurd e h.2
  · exact ⟨g, cap, rfl, hb, hm, ⟨⟨cur, hg, by omega, by rw [enc_strL]; simpa using ht⟩, hc⟩⟩

theorem bel_grown {B g : Nat} {w w1 w2 : World} (h : Below B w w1) (hg : w1.grownBy w2 (some g)) (hB : B ≤ w1.heap.size) (hb : B ≤ g) : Below B w w2 := h.grown hg hB (fun k hk => by cases hk; exact hb)

def adr (xs : List (List UInt8)) : List (List UInt8) := (xs.filter aokL).foldl fadd []
theorem adr_len (xs : List (List UInt8)) : (adr xs).length ≤ xs.length := by
  have h1 := foldl_len (xs.filter aokL) []
  have h2 := List.length_filter_le aokL xs
  unfold adr
  simp at h1
  omega

set_option maxHeartbeats 4000000 in
set_option maxRecDepth 100000 in
theorem among_any (xs : List (List UInt8)) (hx : ∀ x ∈ xs, x.length ≤ 1048576) (v : Value) (w : World) (hR : StrR w v xs) (hn : xs.length ≤ 4000) (hT : wd.TabB w) :
    Calls Tryz.prog 69 #[v] w fun e w' => (∃ g c, e = .returned (.slice (some ⟨g, 0, none⟩) (adr xs).length c) ∧ w.heap.size ≤ g ∧ c ≤ maxLen ∧ Blk w' g c (adr xs)) ∧ Below w.heap.size w w' := by
  have HLV : Hid (Calls Tryz.prog 90 #[] w fun e w' => e = .returned (.map (some w.heap.size)) ∧ pf.LV w' w.heap.size ∧ Below w.heap.size w w') := wd.lv_any w hT
  have HCL : Hid (∀ W, Below w.heap.size w W → Calls Tryz.prog 53 #[v] W fun e w' => ∃ v', e = .returned v' ∧ OwnS W.heap.size w' v' xs ∧ Below W.heap.size W w') := fun W hb => clone_any xs v W (hR.below hb) hn
  have HDL : Hid (∀ W g cap vb mb, Blk W g cap xs → W.cell? ⟨vb, 0, none⟩ = some (.map (some mb)) → pf.LV W mb → vb ≠ g → mb ≠ g → Calls Tryz.prog 91 #[.slice (some ⟨g, 0, none⟩) xs.length cap, .func (.func 92) #[] #[.pointer (some ⟨vb, 0, none⟩)]] W fun e w' => e = .returned (.slice (some ⟨g, 0, none⟩) (xs.filter aokL).length cap) ∧ Blk w' g cap (xs.filter aokL) ∧ W.grownBy w' (some g)) := fun W g cap vb mb h1 h2 h3 h4 h5 => del_any g cap vb mb xs hx W h1 hn h2 h3 h4 h5
  have hfl : (xs.filter aokL).length ≤ 4000 := by have := List.length_filter_le aokL xs; omega
  have HSO : Hid (∀ W v', StrR W v' (xs.filter aokL) → Calls Tryz.prog 55 #[v', FV] W fun e w' => ∃ v', e = .returned v' ∧ OwnS W.heap.size w' v' (srt 12 (xs.filter aokL)) ∧ Below W.heap.size W w') := fun W v' h => sorted_all 12 (xs.filter aokL) v' W h (by simp; omega) hfl
  have HCO : Hid (∀ W g cap, Blk W g cap (srt 12 (xs.filter aokL)) → Calls Tryz.prog 94 #[.slice (some ⟨g, 0, none⟩) (srt 12 (xs.filter aokL)).length cap] W fun e w' => e = .returned (.slice (some ⟨g, 0, none⟩) (adr xs).length cap) ∧ Blk w' g cap (adr xs) ∧ W.grownBy w' (some g)) := fun W g cap h => by
    have := compact_any g cap (srt 12 (xs.filter aokL)) W h (by rw [srt_len]; exact hfl)
    rw [srt_compact 12 (xs.filter aokL) (by simp; omega)] at this
    exact this
  clear hR hx hn hT hfl
  obtain ⟨n, hnn⟩ : ∃ t, xs.length = t := ⟨_, rfl⟩
  obtain ⟨ys, hys⟩ : ∃ t, xs.filter aokL = t := ⟨_, rfl⟩
  obtain ⟨zs, hzs⟩ : ∃ t, srt 12 ys = t := ⟨_, rfl⟩
  obtain ⟨rs, hrs⟩ : ∃ t, adr xs = t := ⟨_, rfl⟩
  rw [hys] at HDL HSO HCO
  rw [hzs] at HSO HCO
  rw [hrs] at HCO ⊢
  have HNN : Hid (xs.length = n) := hnn
  rw [hnn] at HDL
  clear hnn hys hzs hrs
  go_enter Tryz.func69, Tryz.ntmps69
  go_wp2_with (first
    | (go_at_call 90; refine HLV.out.mono ?_; rintro e w1 ⟨rfl, hlv, hl1⟩; have HL1 : Hid (pf.LV w1 w.heap.size) := hlv; have hs1 := hl1.size; clear hlv)
    | (go_at_call 53; refine (HCL.out _ (hl1.alloc hl1.size _)).mono ?_; rintro e w2 ⟨v2, rfl, hv2, hl2⟩; refine Hid.out ?_))
  refine Lib.hid ?_
  obtain ⟨g, cap, hve, hg2, hcm, hbk⟩ := blk_own' hv2
  rw [HNN.out] at hve
  subst hve
  have HB2 : Hid (Blk w2 g cap xs) := hbk
  rw [World.size_alloc] at hg2
  have hlt1 : w.heap.size < w1.heap.size := HL1.out.lt
  have HC2 : Hid (w2.cell? ⟨w1.heap.size, 0, none⟩ = some (.map (some w.heap.size))) := by
    show _ = _
    rw [(bcell hl2).1 w1.heap.size 0 (by simp)]
    simp [go_sem]
  have HL2 : Hid (pf.LV w2 w.heap.size) := by
    have h0 : pf.LV (w1.alloc (.cells #[.map (some w.heap.size)] 107)) w.heap.size := World.ownsMap.alloc HL1.out _
    exact h0.below hl2
  have B2 : Below w.heap.size w w2 := (hl1.alloc hl1.size _).trans (hl2.mono (by rw [World.size_alloc]; omega))
  clear hv2 hbk hl1 hl2
  go_wp2_with (go_at_call 91; refine (HDL.out _ g cap _ _ HB2.out HC2.out HL2.out (by omega) (by omega)).mono ?_; rintro e w3 ⟨rfl, hb3, hg3⟩; refine Hid.out ?_)
  refine Lib.hid ?_
  have HR3 : Hid (StrR w3 (.slice (some ⟨g, 0, none⟩) ys.length cap) ys) := hb3.row' hcm
  have B3 : Below w.heap.size w w3 := bel_grown B2 hg3 B2.size (by omega)
  clear hb3 hg3
  go_wp2_with (go_at_call 55; refine (HSO.out _ _ HR3.out).mono ?_; rintro e w4 ⟨v4, rfl, hv4, hl4⟩; refine Hid.out ?_)
  refine Lib.hid ?_
  obtain ⟨g4, cap4, hve4, hg4, hcm4, hbk4⟩ := blk_own' hv4
  subst hve4
  have HB4 : Hid (Blk w4 g4 cap4 zs) := hbk4
  have B4 : Below w.heap.size w w4 := B3.trans (hl4.mono B3.size)
  have s3 := B3.size
  clear hv4 hbk4 hl4
  go_wp2_with (go_at_call 94; refine (HCO.out _ _ _ HB4.out).mono ?_; rintro e w5 ⟨rfl, hb5, hg5⟩; have HB5 : Hid (Blk w5 g4 cap4 rs) := hb5; have HG5 : Hid (w4.grownBy w5 (some g4)) := hg5; clear hb5 hg5)
  go_ret
  exact ⟨⟨g4, cap4, rfl, by omega, hcm4, HB5.out⟩, bel_grown B4 HG5.out B4.size (by omega)⟩

set_option maxRecDepth 100000 in
set_option maxHeartbeats 4000000 in
theorem clonedT_any (xs : List (List UInt8)) (hx : ∀ x ∈ xs, x.length ≤ 1048576) (v : Value) (w : World) (hR : StrR w v xs) (hn : xs.length ≤ 4000) :
    Calls Tryz.prog 54 #[v] w fun e w' => e = .returned (.slice (some ⟨w.heap.size, 0, none⟩) xs.length xs.length) ∧ Blk w' w.heap.size xs.length xs ∧ Below w.heap.size w w' := by
  obtain ⟨bb, off, cap, rfl, h1, h2, hc⟩ := hR
  have HC : Hid (∀ i x, xs[i]? = some x → w.cell? ⟨bb, off + i, none⟩ = some (strL x)) := hc
  have HXS : Hid (∀ x ∈ xs, x.length ≤ 1048576) := hx
  obtain ⟨n, hnn⟩ : ∃ n, xs.length = n := ⟨_, rfl⟩
  have HNN : Hid (xs.length = n) := hnn
  rw [hnn] at hn ⊢
  have hmk := make_run n (by omega)
  have HO0 : Hid ((w.alloc (.cells (madeCells (Value.string ⟨#[]⟩).cells n) 9)).ownsRow w.heap.size 9 1 (.slice (some ⟨w.heap.size, 0, none⟩) 0 n) 0 ((xs.take 0).map strL)) := made_row w n (by omega)
  obtain ⟨i9, hi9, hz0, hz1, hz2⟩ := info_parts info9
  clear hnn hc hx h1 h2
  go_enter Tryz.func54, Tryz.ntmps54
  go_wp2
  clear hmk
  go_loopw [3, 5, 11] (fun v _ x wr => ∃ i : Nat, i ≤ n ∧ x = .int .i64 (i : Int) ∧ v = .slice (some ⟨w.heap.size, 0, none⟩) i n ∧ wr.ownsRow w.heap.size 9 1 (.slice (some ⟨w.heap.size, 0, none⟩) i n) i ((xs.take i).map strL) ∧ Below w.heap.size w wr) (fun _ _ x _ => n - (intOf x).toNat)
  case atStart => exact ⟨0, Nat.zero_le _, rfl, rfl, HO0.out, (Below.refl _ _).alloc (Nat.le_refl _) _⟩
  case round =>
    obtain ⟨i, hi, rfl, rfl, hown, hbel⟩ := hrel
    have HBE : Hid (Below w.heap.size w wr) := hbel
    have HOW : Hid (wr.ownsRow w.heap.size 9 1 (.slice (some ⟨w.heap.size, 0, none⟩) i n) i ((xs.take i).map strL)) := hown
    by_cases hil : i < n
    · have hil' : (i : Int) < (n : Int) := by omega
      have hi0' : (0 : Int) ≤ (i : Int) := by omega
      obtain ⟨x, hx⟩ : ∃ x, xs[i]? = some x := ⟨_, List.getElem?_eq_getElem (by rw [HNN.out]; exact hil)⟩
      have c0 := (hbel.cell (p := ⟨bb, _, none⟩) (World.block_lt_of_cell? _ _ (HC.out i x hx))).trans (HC.out i x hx)
      have HNX : Hid ((xs.take (i + 1)).map strL = (xs.take i).map strL ++ [strL x]) := by show _ = _; rw [List.take_add_one, hx]; simp
      have hps := HXS.out x (List.mem_of_getElem? hx)
      have HCL0 : Hid (∀ W : World, Calls Tryz.prog 47 #[.string ⟨x.toArray⟩] W fun e w' => e = .returned (.string ⟨x.toArray⟩) ∧ Below W.heap.size W w') := fun W => cl.clone_any _ W (by show x.toArray.size ≤ _; simp; omega)
      have hst : strL x = .string ⟨x.toArray⟩ := rfl
      rw [hst] at c0 HNX
      obtain ⟨s, hs⟩ : ∃ s : ByteArray, (⟨x.toArray⟩ : ByteArray) = s := ⟨_, rfl⟩
      rw [hs] at c0 HNX HCL0
      clear hs hst hx hps hown hbel
      go_wp2_with (go_at_call 47; refine (HCL0.out _).mono ?_; rintro e w1 ⟨rfl, hb1⟩; refine Hid.out ?_)
      refine Lib.hid ?_
      have hB1 : Below w.heap.size w w1 := HBE.out.trans (hb1.mono HBE.out.size)
      have HO1 : Hid (∀ ob, (w1.alloc ob).ownsRow w.heap.size 9 1 (.slice (some ⟨w.heap.size, 0, none⟩) i n) i ((xs.take i).map strL)) := fun ob => own_below HOW.out (hb1.alloc hb1.size _)
      clear hb1
      go_wp2_with (first
        | (at_builtin; refine wpList_append_own_spare _ rfl _ _ 24 rfl w.heap.size 9 i9 1 Tryz.underlying24 hi9 hz1 w.heap.size i n ((xs.take i).map strL) rfl (HO1.out _) ⟨w1.heap.size, 0, none⟩ 1 1 [.string s] rfl rfl (one_new w1 _ _) (by intro u hu; simp only [List.mem_singleton] at hu; subst hu; rfl) (by omega) ?_; intro w4 hown4 hg4; refine Hid.out ?_)
        | go_in)
      refine Lib.hid ?_
      have HB4 : Hid (Below w.heap.size w w4) := bel_grown (hB1.alloc hB1.size _) hg4 (Nat.le_trans hB1.size (by rw [World.size_alloc]; omega)) (Nat.le_refl _)
      have HO4 : Hid (w4.ownsRow w.heap.size 9 1 (.slice (some ⟨w.heap.size, 0, none⟩) (i + 1) n) (i + 1) ((xs.take (i + 1)).map strL)) := by show World.ownsRow _ _ _ _ _ _ _; rw [HNX.out]; exact hown4
      clear hown4 hg4
      go_wp2
      go_roundw
      case rel => exact ⟨i + 1, by omega, by go_num, rfl, HO4.out, HB4.out⟩
      case measure => simp [intOf]; omega
    · have hil' : ¬ (i : Int) < (n : Int) := by omega
      obtain rfl : i = n := by omega
      have HE : Hid (Blk wr w.heap.size i xs) := by
        have h := HOW.out
        rw [List.take_of_length_le (by rw [HNN.out]; exact Nat.le_refl _)] at h
        obtain ⟨g, c, e1, _, _, hbk⟩ := blk_own' (B := w.heap.size) (v := .slice (some ⟨w.heap.size, 0, none⟩) i i) (xs := xs) ⟨by rw [HNN.out]; exact h, by intro e; cases e⟩
        cases e1
        exact hbk
      clear hown hbel
      go_wp2
      go_ret
      exact ⟨rfl, HE.out, HBE.out⟩

end Go.Proofs.YtddnhnpfcelicaaGreatDoor.sr

