import Derived.Test.YtjbdklkingfmpaaGreatDoorLqr
import Derived.Test.YtjbdklkingfmpaaGreatDoorRows
import Derived.Test.YtjbdklkingfmpaaGreatDoorLr
import Derived.LaidLaws
import Derived.ChangeArms
import Derived.ChangeSame
import Derived.Deep.Slices
import Derived.Deep.RegionWith
import Derived.Test.YtjbdklkingfmpaaGreatDoorWF2r
import Derived.Deep.RegionHeld3
import Derived.Sort.Walk0
import Derived.Lib.Hide
set_option linter.unusedVariables false
set_option linter.unusedSimpArgs false
set_option maxRecDepth 100000
set_option maxHeartbeats 16000000
namespace Go.Proofs.YtjbdklkingfmpaaGreatDoor.pf
open Go.ChangeShapes Go.WideShapes Go.ChangeAt Go.RowKit Go.Deep
structure Gn where
 n : Int
 p : ByteArray
structure Pr where
 name : ByteArray
 now : Int
 gens : List Gn
instance : Inhabited Gn := ⟨⟨0, ⟨#[]⟩⟩⟩
instance : Inhabited Pr := ⟨⟨⟨#[]⟩, 0, []⟩⟩
def G2 (w : World) (b o : Nat) (x : Gn) : Prop := w.cell? ⟨b, o, none⟩ = some (.int .i64 x.n) ∧ w.cell? ⟨b, o + 1, none⟩ = some (.string x.p)
theorem G2.below {w w' : World} {b o : Nat} {x : Gn} (h : G2 w b o x) (hb : Below w.heap.size w w') : G2 w' b o x :=
 ⟨(hb.cell (p := ⟨b, _, none⟩) (World.block_lt_of_cell? _ _ h.1)).trans h.1, (hb.cell (p := ⟨b, _, none⟩) (World.block_lt_of_cell? _ _ h.2)).trans h.2⟩
theorem G2.kept {w w' : World} {b o : Nat} {x : Gn} (h : G2 w b o x) (hb : w'.heap[b]? = w.heap[b]?) : G2 w' b o x :=
 ⟨(World.cell?_of_block (a := ⟨b, _, none⟩) hb).trans h.1, (World.cell?_of_block (a := ⟨b, _, none⟩) hb).trans h.2⟩
def SrcG (w : World) (a : Option Addr) (l : List Gn) : Prop := l = [] ∨ ∃ b o, a = some ⟨b, o, none⟩ ∧ ∀ (i : Nat) (x : Gn), l[i]? = some x → G2 w b (o + i * 2) x
theorem SrcG.below {w w' : World} {a : Option Addr} {l : List Gn} (h : SrcG w a l) (hb : Below w.heap.size w w') : SrcG w' a l := by
 rcases h with h | ⟨b, o, e, h⟩
 ·exact .inl h
 ·exact .inr ⟨b, o, e, fun i x hx => (h i x hx).below hb⟩
def P3 (w : World) (b o : Nat) (x : Pr) : Prop := ∃ a c, w.cell? ⟨b, o, none⟩ = some (.string x.name) ∧ w.cell? ⟨b, o + 1, none⟩ = some (.int .i64 x.now) ∧ w.cell? ⟨b, o + 2, none⟩ = some (.slice a x.gens.length c) ∧ SrcG w a x.gens
theorem P3.below {w w' : World} {b o : Nat} {x : Pr} (h : P3 w b o x) (hb : Below w.heap.size w w') : P3 w' b o x := by
 obtain ⟨a, c, h0, h1, h2, h3⟩ := h
 have k : ∀ {p v}, w.cell? ⟨b, p, none⟩ = some v → w'.cell? ⟨b, p, none⟩ = some v := fun {p v} h => (hb.cell (p := ⟨b, p, none⟩) (World.block_lt_of_cell? _ _ h)).trans h
 exact ⟨a, c, k h0, k h1, k h2, h3.below hb⟩
def SrcP (w : World) (a : Option Addr) (ps : List Pr) : Prop := ps = [] ∨ ∃ b o, a = some ⟨b, o, none⟩ ∧ ∀ (i : Nat) (x : Pr), ps[i]? = some x → P3 w b (o + i * 3) x
theorem SrcP.below {w w' : World} {a : Option Addr} {ps : List Pr} (h : SrcP w a ps) (hb : Below w.heap.size w w') : SrcP w' a ps := by
 rcases h with h | ⟨b, o, e, h⟩
 ·exact .inl h
 ·exact .inr ⟨b, o, e, fun i x hx => (h i x hx).below hb⟩
def wtS (l : List Gn) (k : Nat) : Nat := ((l.take k).map fun x => x.p.size).sum
def wtG (l : List Gn) : Nat := l.length + wtS l l.length
def wt1 (x : Pr) : Nat := x.name.size + wtG x.gens
def wtSP (ps : List Pr) (k : Nat) : Nat := ((ps.take k).map wt1).sum
def wtP (ps : List Pr) : Nat := ps.length + wtSP ps ps.length
theorem sum_mem {α : Type} (f : α → Nat) : ∀ {l : List α} {x : α}, x ∈ l → f x ≤ (l.map f).sum
 | y :: l, x, h => by
  rw [List.map_cons, List.sum_cons]
  rcases List.mem_cons.1 h with rfl | h
  ·omega
  ·have := sum_mem f h; omega
theorem wt_mem {ps : List Pr} {x : Pr} (h : x ∈ ps) : ps.length + wt1 x ≤ wtP ps := by
 unfold wtP wtSP
 rw [List.take_length]
 have := sum_mem wt1 h
 omega
theorem wtG_mem {l : List Gn} {x : Gn} (h : x ∈ l) : l.length + x.p.size ≤ wtG l := by
 unfold wtG wtS
 rw [List.take_length]
 have := sum_mem (fun x : Gn => x.p.size) h
 omega
theorem wt_name {ps : List Pr} {x : Pr} (h : x ∈ ps) : x.name.size ≤ wtP ps := by have := wt_mem h; unfold wt1 at this; omega
theorem wt_gens {ps : List Pr} {x : Pr} (h : x ∈ ps) : x.gens.length ≤ wtP ps := by have := wt_mem h; unfold wt1 wtG at this; omega
theorem wt_path {ps : List Pr} {x : Pr} {y : Gn} (h : x ∈ ps) (hy : y ∈ x.gens) : y.p.size ≤ wtP ps := by have := wt_mem h; have := wtG_mem hy; unfold wt1 at *; omega
theorem wt_len (ps : List Pr) : ps.length ≤ wtP ps := by unfold wtP; omega
theorem cellsI : Tryz.prog.cellsOf 2 = 1 := by kernel_rfl
theorem cellsS : Tryz.prog.cellsOf 9 = 1 := by kernel_rfl
def AdjG (l : List Gn) : Prop := ∀ (i : Nat) (x y : Gn), l[i]? = some x → l[i + 1]? = some y → x.n < y.n
def AdjP (ps : List Pr) : Prop := ∀ (i : Nat) (x y : Pr), ps[i]? = some x → ps[i + 1]? = some y → x.name.data.toList < y.name.data.toList
def gIx (l : List Gn) (n : Int) : Int := match l.findIdx? (fun x => decide (x.n = n)) with
 | some i => (i : Int)
 | none => -1
theorem gIx_yes {l : List Gn} {n : Int} {i : Nat} {x : Gn} (hx : l[i]? = some x) (hn : x.n = n) (hj : ∀ (j : Nat) (y : Gn), j < i → l[j]? = some y → y.n ≠ n) : gIx l n = (i : Int) := by
 obtain ⟨hi, he⟩ := List.getElem?_eq_some_iff.1 hx
 have : l.findIdx? (fun x => decide (x.n = n)) = some i := by
  rw [List.findIdx?_eq_some_iff_getElem]
  refine ⟨hi, by simp [he, hn], fun j hji => ?_⟩
  have := hj j l[j] hji (List.getElem?_eq_getElem (by omega))
  simpa using this
 unfold gIx
 rw [this]
theorem gIx_no {l : List Gn} {n : Int} (hj : ∀ (j : Nat) (y : Gn), l[j]? = some y → y.n ≠ n) : gIx l n = -1 := by
 have : l.findIdx? (fun x => decide (x.n = n)) = none := by
  rw [List.findIdx?_eq_none_iff]
  intro x hx
  obtain ⟨i, hi⟩ := List.mem_iff_getElem?.1 hx
  simpa using hj i x hi
 unfold gIx
 rw [this]
structure POk (x : Pr) : Prop where
 name : nm.nameB x.name = true
 few : x.gens.length ≤ 50
 asc : AdjG x.gens
 gen : ∀ (i : Nat) (g : Gn), x.gens[i]? = some g → 1 ≤ g.n ∧ g.n ≤ 9007199254740992 ∧ wd.aokB g.p = true
 now : x.now = 0 ∨ 0 ≤ gIx x.gens x.now
noncomputable def pOkB (x : Pr) : Bool := @decide (POk x) (Classical.propDecidable _)
theorem pOkB_yes {x : Pr} (h : POk x) : pOkB x = true := by unfold pOkB; exact @decide_eq_true _ (Classical.propDecidable _) h
theorem pOkB_no {x : Pr} (h : ¬ POk x) : pOkB x = false := by unfold pOkB; exact @decide_eq_false _ (Classical.propDecidable _) h
theorem pOkB_iff {x : Pr} : pOkB x = true ↔ POk x := by unfold pOkB; exact @decide_eq_true_iff _ (Classical.propDecidable _)
structure PsOk (ps : List Pr) : Prop where
 few : ps.length ≤ 20
 asc : AdjP ps
 each : ∀ (i : Nat) (x : Pr), ps[i]? = some x → POk x
noncomputable def psB (ps : List Pr) : Bool := @decide (PsOk ps) (Classical.propDecidable _)
theorem psB_yes {ps : List Pr} (h : PsOk ps) : psB ps = true := by unfold psB; exact @decide_eq_true _ (Classical.propDecidable _) h
theorem psB_no {ps : List Pr} (h : ¬ PsOk ps) : psB ps = false := by unfold psB; exact @decide_eq_false _ (Classical.propDecidable _) h
theorem bl (x y : ByteArray) : Op.bytesLess x.toList y.toList = decide (x.data.toList < y.data.toList) := by
 rw [ByteArray.toList_eq, ByteArray.toList_eq, Go.Proofs.bytesLess_eq]
theorem adjG_next {l : List Gn} {i K : Nat} {x y : Gn} (h : AdjG (l.take i)) (hK : i = K + 1) (hx : l[K]? = some x) (hy : l[K + 1]? = some y) (hlt : x.n < y.n) : AdjG (l.take (i + 1)) := fun j a b ha hb => by
 have hj := (List.getElem?_eq_some_iff.1 hb).1
 rw [List.length_take] at hj
 rw [List.getElem?_take_of_lt (by omega)] at ha hb
 rcases Nat.lt_or_ge j K with h1 | h1
 ·exact h j a b (by rw [List.getElem?_take_of_lt (by omega)]; exact ha) (by rw [List.getElem?_take_of_lt (by omega)]; exact hb)
 ·obtain rfl : j = K := by omega
  rw [hx] at ha
  rw [hy] at hb
  cases ha
  cases hb
  exact hlt
theorem adjP_next {l : List Pr} {i K : Nat} {x y : Pr} (h : AdjP (l.take i)) (hK : i = K + 1) (hx : l[K]? = some x) (hy : l[K + 1]? = some y) (hlt : x.name.data.toList < y.name.data.toList) : AdjP (l.take (i + 1)) := fun j a b ha hb => by
 have hj := (List.getElem?_eq_some_iff.1 hb).1
 rw [List.length_take] at hj
 rw [List.getElem?_take_of_lt (by omega)] at ha hb
 rcases Nat.lt_or_ge j K with h1 | h1
 ·exact h j a b (by rw [List.getElem?_take_of_lt (by omega)]; exact ha) (by rw [List.getElem?_take_of_lt (by omega)]; exact hb)
 ·obtain rfl : j = K := by omega
  rw [hx] at ha
  rw [hy] at hb
  cases ha
  cases hb
  exact hlt
theorem lessG_any (n n' : Int) (p p' : ByteArray) (w : World) :
  Calls Tryz.prog 150 #[.agg #[.int .i64 n, .string p], .agg #[.int .i64 n', .string p']] w fun e w' => e = .returned (.bool (decide (n < n'))) ∧ Below w.heap.size w w' := by
 go_enter Tryz.func150, Tryz.ntmps150
 go_wp2
 go_ret
 exact ⟨by first | rfl | simp, ((Below.refl _ _).alloc (Nat.le_refl _) _).alloc (by simp) _⟩
theorem lessP_any (p p' : ByteArray) (z z' : Int) (u u' : Option Addr) (m m' c c' : Nat) (w : World) :
  Calls Tryz.prog 106 #[.agg #[.string p, .int .i64 z, .slice u m c], .agg #[.string p', .int .i64 z', .slice u' m' c']] w fun e w' => e = .returned (.bool (Op.bytesLess p.toList p'.toList)) ∧ Below w.heap.size w w' := by
 obtain ⟨r, hr⟩ : ∃ r, Op.bytesLess p.toList p'.toList = r := ⟨_, rfl⟩
 go_enter Tryz.func106, Tryz.ntmps106
 go_wp2
 go_ret
 exact ⟨by first | rfl | simp [hr], ((Below.refl _ _).alloc (Nat.le_refl _) _).alloc (by simp) _⟩
noncomputable def adjGB (l : List Gn) : Bool := @decide (AdjG l) (Classical.propDecidable _)
theorem adjGB_yes {l : List Gn} (h : AdjG l) : adjGB l = true := by unfold adjGB; exact @decide_eq_true _ (Classical.propDecidable _) h
theorem adjGB_no {l : List Gn} (h : ¬ AdjG l) : adjGB l = false := by unfold adjGB; exact @decide_eq_false _ (Classical.propDecidable _) h
theorem adjGB_iff {l : List Gn} : adjGB l = true ↔ AdjG l := by unfold adjGB; exact @decide_eq_true_iff _ (Classical.propDecidable _)
theorem ascG_any (l : List Gn) (a : Option Addr) (cap : Nat) (w : World) (hR : SrcG w a l) (hn : l.length ≤ 1048576) :
  Calls Tryz.prog 149 #[.slice a l.length cap, .func (.func 150) #[] #[]] w fun e w' => e = .returned (.bool (adjGB l)) ∧ Below w.heap.size w w' := by
 have HER : Hid (SrcG w a l) := hR
 clear hR
 obtain ⟨n, hnn⟩ : ∃ n, l.length = n := ⟨_, rfl⟩
 have HNN : Hid (l.length = n) := hnn
 rw [hnn] at hn ⊢
 clear hnn
 go_enter Tryz.func149, Tryz.ntmps149
 go_wp2
 go_loopw [5, 8] (fun _ x wr => ∃ i : Nat, i ≤ n ∧ x = .int .i64 (i : Int) ∧ AdjG (l.take i) ∧ Below w.heap.size w wr) (fun _ x _ => n - (intOf x).toNat)
 case atStart => exact ⟨0, Nat.zero_le _, rfl, fun i x y h => by simp at h, Below.refl _ _⟩
 case round =>
  obtain ⟨i, hi, rfl, hadj, hbel⟩ := hrel
  have HAD : Hid (AdjG (l.take i)) := hadj
  have HBE : Hid (Below w.heap.size w wr) := hbel
  clear hadj
  by_cases hil : i < n
  ·have hil' : (i : Int) < (n : Int) := by omega
   have hi0 : (0 : Int) ≤ (i : Int) := by omega
   obtain ⟨xP, hxP⟩ : ∃ x, l[i]? = some x := ⟨_, List.getElem?_eq_getElem (by rw [HNN.out]; exact hil)⟩
   by_cases hi1 : 0 < i
   ·have hi1' : (0 : Int) < (i : Int) := by omega
    obtain ⟨K, hKk⟩ : ∃ K, i = K + 1 := ⟨i - 1, by omega⟩
    have HKk : Hid (i = K + 1) := hKk
    have hK1 : (i : Int) - 1 = (K : Int) := by omega
    have hK2 : (K : Int) < (n : Int) := by omega
    have hK0 : (0 : Int) ≤ (K : Int) := by omega
    have hK3 : IntKind.i64.wrap ((i : Int) - 1) = (K : Int) := by rw [IntKind.wrap_i64]; omega
    have hK4 : IntKind.i64.wrap (K : Int) = (K : Int) := by rw [IntKind.wrap_i64]; omega
    obtain ⟨xM, hxM⟩ : ∃ x, l[K]? = some x := ⟨_, List.getElem?_eq_getElem (by rw [HNN.out]; omega)⟩
    rcases HER.out with h | ⟨b, o, rfl, hc⟩
    ·have := HNN.out; rw [h] at this; simp at this; omega
    obtain ⟨qM0, qM1⟩ := hc K xM hxM
    obtain ⟨qP0, qP1⟩ := hc i xP hxP
    obtain ⟨nM, hnM⟩ : ∃ t, xM.n = t := ⟨_, rfl⟩
    obtain ⟨zM, hzM⟩ : ∃ t, xM.p = t := ⟨_, rfl⟩
    obtain ⟨nP, hnP⟩ : ∃ t, xP.n = t := ⟨_, rfl⟩
    obtain ⟨zP, hzP⟩ : ∃ t, xP.p = t := ⟨_, rfl⟩
    rw [hnM] at qM0
    rw [hzM] at qM1
    rw [hnP] at qP0
    rw [hzP] at qP1
    have HLI : Hid (decide (nM < nP) = decide (xM.n < xP.n)) := by show _ = _; rw [hnM, hnP]
    have K0 : ∀ {W : World} {q p v}, Below w.heap.size w W → w.cell? ⟨q, p, none⟩ = some v → W.cell? ⟨q, p, none⟩ = some v := fun {W q p v} hW h => (hW.cell (p := ⟨q, p, none⟩) (World.block_lt_of_cell? _ _ h)).trans h
    have HCC : Hid (∀ w' : World, Below w.heap.size w w' → (w'.cell? ⟨b, o + K * 2, none⟩ = some (.int .i64 nM) ∧ w'.cell? ⟨b, o + K * 2 + 1, none⟩ = some (.string zM)) ∧ w'.cell? ⟨b, o + i * 2, none⟩ = some (.int .i64 nP) ∧ w'.cell? ⟨b, o + i * 2 + 1, none⟩ = some (.string zP)) := fun w' hb => ⟨⟨K0 hb qM0, K0 hb qM1⟩, K0 hb qP0, K0 hb qP1⟩
    have HLE : Hid (∀ W, Calls Tryz.prog 150 #[.agg #[.int .i64 nM, .string zM], .agg #[.int .i64 nP, .string zP]] W fun e w' => e = .returned (.bool (decide (nM < nP))) ∧ Below W.heap.size W w') := fun W => lessG_any _ _ _ _ W
    have HXM : Hid (l[K]? = some xM) := hxM
    have HXP : Hid (l[K + 1]? = some xP) := hKk ▸ hxP
    clear qM0 qM1 qP0 qP1 hnM hzM hnP hzP hKk hbel hxM hxP hc K0
    cases hbl : decide (nM < nP) with
    | true =>
     rw [hbl] at HLE
     have HN : Hid (AdjG (l.take (i + 1))) := adjG_next HAD.out HKk.out HXM.out HXP.out (by have := HLI.out; rw [hbl] at this; simpa using this.symm)
     clear hbl HLI
     go_wp2_with fail
     refine wq 16 (S := fun w' => (w'.cell? ⟨b, o + K * 2, none⟩ = some (.int .i64 nM) ∧ w'.cell? ⟨b, o + K * 2 + 1, none⟩ = some (.string zM)) ∧ w'.cell? ⟨b, o + i * 2, none⟩ = some (.int .i64 nP) ∧ w'.cell? ⟨b, o + i * 2 + 1, none⟩ = some (.string zP)) (by kernel_rfl) (HCC.out _ HBE.out.drew) fun hHeld => ?_
     iterate 13 (refine un 16 rfl ?_;try simp only [aP])
     refine rq 13 rfl fun K hK => ?_
     go_simp
     (go_at_call 150; refine (HLE.out _).mono ?_; rintro e w2 ⟨rfl, hl2⟩; have hb2 : Below w.heap.size w w2 := HBE.out.drew.trans (hl2.mono HBE.out.size))
     try go_wp2_with fail
     refine hK.out _ _ (HCC.out _ hb2) (fun hHeld => ?_)
     clear hK K
     try simp only [aP]
     iterate 2 (refine un 16 rfl ?_;try simp only [aP])
     refine dq ?_
     go_wp2_with fail
     go_roundw
     case rel => exact ⟨i + 1, by omega, by go_num, HN.out, hb2⟩
     case measure => simp [intOf] <;> omega
    | false =>
     rw [hbl] at HLE
     have HF : Hid (¬ AdjG l) := fun h => by
      have h2 : xM.n < xP.n := h K xM xP HXM.out HXP.out
      have := HLI.out
      rw [hbl] at this
      exact absurd h2 (by simpa using this.symm)
     clear hbl HLI
     go_wp2_with fail
     refine wq 16 (S := fun w' => (w'.cell? ⟨b, o + K * 2, none⟩ = some (.int .i64 nM) ∧ w'.cell? ⟨b, o + K * 2 + 1, none⟩ = some (.string zM)) ∧ w'.cell? ⟨b, o + i * 2, none⟩ = some (.int .i64 nP) ∧ w'.cell? ⟨b, o + i * 2 + 1, none⟩ = some (.string zP)) (by kernel_rfl) (HCC.out _ HBE.out.drew) fun hHeld => ?_
     iterate 13 (refine un 16 rfl ?_;try simp only [aP])
     refine rq 13 rfl fun K hK => ?_
     go_simp
     (go_at_call 150; refine (HLE.out _).mono ?_; rintro e w2 ⟨rfl, hl2⟩; have hb2 : Below w.heap.size w w2 := HBE.out.drew.trans (hl2.mono HBE.out.size))
     try go_wp2_with fail
     refine hK.out _ _ (HCC.out _ hb2) (fun hHeld => ?_)
     clear hK K
     try simp only [aP]
     iterate 2 (refine un 16 rfl ?_;try simp only [aP])
     refine dq ?_
     go_wp2_with fail
     go_ret
     exact ⟨by rw [adjGB_no HF.out]; first | done | rfl, hb2⟩
   ·have hi1' : ¬ (0 : Int) < (i : Int) := by omega
    have HN : Hid (AdjG (l.take (i + 1))) := fun j x y hx hy => by
     have := (List.getElem?_eq_some_iff.1 hy).1
     simp at this
     omega
    clear hbel hxP
    go_wp2_with fail
    refine wq 16 (S := fun _ => True) (by kernel_rfl) (trivial) fun hHeld => ?_
    iterate 16 ((first|refine sn 16 rfl ?_|refine un 16 rfl ?_);try simp only [aP])
    refine dq ?_
    go_wp2_with fail
    go_roundw
    case rel => exact ⟨i + 1, by omega, by go_num, HN.out, HBE.out.drew⟩
    case measure => simp [intOf] <;> omega
  ·have hil' : ¬ (i : Int) < (n : Int) := by omega
   have HT : Hid (AdjG l) := by
    have h := HAD.out
    rwa [List.take_of_length_le (by rw [HNN.out]; omega)] at h
   clear hbel
   go_wp2
   go_ret
   exact ⟨by rw [adjGB_yes HT.out]; first | done | rfl, HBE.out⟩
noncomputable def adjPB (ps : List Pr) : Bool := @decide (AdjP ps) (Classical.propDecidable _)
theorem adjPB_yes {ps : List Pr} (h : AdjP ps) : adjPB ps = true := by unfold adjPB; exact @decide_eq_true _ (Classical.propDecidable _) h
theorem adjPB_no {ps : List Pr} (h : ¬ AdjP ps) : adjPB ps = false := by unfold adjPB; exact @decide_eq_false _ (Classical.propDecidable _) h
theorem adjPB_iff {ps : List Pr} : adjPB ps = true ↔ AdjP ps := by unfold adjPB; exact @decide_eq_true_iff _ (Classical.propDecidable _)
theorem ascP_any (ps : List Pr) (a : Option Addr) (cap : Nat) (w : World) (hR : SrcP w a ps) (hn : ps.length ≤ 1048576) :
  Calls Tryz.prog 105 #[.slice a ps.length cap, .func (.func 106) #[] #[]] w fun e w' => e = .returned (.bool (adjPB ps)) ∧ Below w.heap.size w w' := by
 have HER : Hid (SrcP w a ps) := hR
 clear hR
 obtain ⟨n, hnn⟩ : ∃ n, ps.length = n := ⟨_, rfl⟩
 have HNN : Hid (ps.length = n) := hnn
 rw [hnn] at hn ⊢
 clear hnn
 go_enter Tryz.func105, Tryz.ntmps105
 go_wp2
 go_loopw [5, 8] (fun _ x wr => ∃ i : Nat, i ≤ n ∧ x = .int .i64 (i : Int) ∧ AdjP (ps.take i) ∧ Below w.heap.size w wr) (fun _ x _ => n - (intOf x).toNat)
 case atStart => exact ⟨0, Nat.zero_le _, rfl, fun i x y h => by simp at h, Below.refl _ _⟩
 case round =>
  obtain ⟨i, hi, rfl, hadj, hbel⟩ := hrel
  have HAD : Hid (AdjP (ps.take i)) := hadj
  have HBE : Hid (Below w.heap.size w wr) := hbel
  clear hadj
  by_cases hil : i < n
  ·have hil' : (i : Int) < (n : Int) := by omega
   have hi0 : (0 : Int) ≤ (i : Int) := by omega
   obtain ⟨xP, hxP⟩ : ∃ x, ps[i]? = some x := ⟨_, List.getElem?_eq_getElem (by rw [HNN.out]; exact hil)⟩
   by_cases hi1 : 0 < i
   ·have hi1' : (0 : Int) < (i : Int) := by omega
    obtain ⟨K, hKk⟩ : ∃ K, i = K + 1 := ⟨i - 1, by omega⟩
    have HKk : Hid (i = K + 1) := hKk
    have hK1 : (i : Int) - 1 = (K : Int) := by omega
    have hK2 : (K : Int) < (n : Int) := by omega
    have hK0 : (0 : Int) ≤ (K : Int) := by omega
    have hK3 : IntKind.i64.wrap ((i : Int) - 1) = (K : Int) := by rw [IntKind.wrap_i64]; omega
    have hK4 : IntKind.i64.wrap (K : Int) = (K : Int) := by rw [IntKind.wrap_i64]; omega
    obtain ⟨xM, hxM⟩ : ∃ x, ps[K]? = some x := ⟨_, List.getElem?_eq_getElem (by rw [HNN.out]; omega)⟩
    rcases HER.out with h | ⟨b, o, rfl, hc⟩
    ·have := HNN.out; rw [h] at this; simp at this; omega
    obtain ⟨uM, cM, qM0, qM1, qM2, -⟩ := hc K xM hxM
    obtain ⟨uP, cP, qP0, qP1, qP2, -⟩ := hc i xP hxP
    obtain ⟨nM, hnM⟩ : ∃ t, xM.name = t := ⟨_, rfl⟩
    obtain ⟨zM, hzM⟩ : ∃ t, xM.now = t := ⟨_, rfl⟩
    obtain ⟨mM, hmM⟩ : ∃ t, xM.gens.length = t := ⟨_, rfl⟩
    obtain ⟨nP, hnP⟩ : ∃ t, xP.name = t := ⟨_, rfl⟩
    obtain ⟨zP, hzP⟩ : ∃ t, xP.now = t := ⟨_, rfl⟩
    obtain ⟨mP, hmP⟩ : ∃ t, xP.gens.length = t := ⟨_, rfl⟩
    rw [hnM] at qM0
    rw [hzM] at qM1
    rw [hmM] at qM2
    rw [hnP] at qP0
    rw [hzP] at qP1
    rw [hmP] at qP2
    have HLI : Hid (Op.bytesLess nM.toList nP.toList = decide (xM.name.data.toList < xP.name.data.toList)) := by show _ = _; rw [hnM, hnP]; exact bl nM nP
    have K0 : ∀ {W : World} {q p v}, Below w.heap.size w W → w.cell? ⟨q, p, none⟩ = some v → W.cell? ⟨q, p, none⟩ = some v := fun {W q p v} hW h => (hW.cell (p := ⟨q, p, none⟩) (World.block_lt_of_cell? _ _ h)).trans h
    have HCC : Hid (∀ w' : World, Below w.heap.size w w' → (w'.cell? ⟨b, o + K * 3, none⟩ = some (.string nM) ∧ w'.cell? ⟨b, o + K * 3 + 1, none⟩ = some (.int .i64 zM) ∧ w'.cell? ⟨b, o + K * 3 + 2, none⟩ = some (.slice uM mM cM)) ∧ w'.cell? ⟨b, o + i * 3, none⟩ = some (.string nP) ∧ w'.cell? ⟨b, o + i * 3 + 1, none⟩ = some (.int .i64 zP) ∧ w'.cell? ⟨b, o + i * 3 + 2, none⟩ = some (.slice uP mP cP)) := fun w' hb => ⟨⟨K0 hb qM0, K0 hb qM1, K0 hb qM2⟩, K0 hb qP0, K0 hb qP1, K0 hb qP2⟩
    have HLE : Hid (∀ W, Calls Tryz.prog 106 #[.agg #[.string nM, .int .i64 zM, .slice uM mM cM], .agg #[.string nP, .int .i64 zP, .slice uP mP cP]] W fun e w' => e = .returned (.bool (Op.bytesLess nM.toList nP.toList)) ∧ Below W.heap.size W w') := fun W => lessP_any _ _ _ _ _ _ _ _ _ _ W
    have HXM : Hid (ps[K]? = some xM) := hxM
    have HXP : Hid (ps[K + 1]? = some xP) := hKk ▸ hxP
    clear qM0 qM1 qM2 qP0 qP1 qP2 hnM hzM hmM hnP hzP hmP hKk hbel hxM hxP hc K0
    cases hbl : Op.bytesLess nM.toList nP.toList with
    | true =>
     rw [hbl] at HLE
     have HN : Hid (AdjP (ps.take (i + 1))) := adjP_next HAD.out HKk.out HXM.out HXP.out (by have := HLI.out; rw [hbl] at this; simpa using this.symm)
     clear hbl HLI
     go_wp2_with fail
     refine wq 16 (S := fun w' => (w'.cell? ⟨b, o + K * 3, none⟩ = some (.string nM) ∧ w'.cell? ⟨b, o + K * 3 + 1, none⟩ = some (.int .i64 zM) ∧ w'.cell? ⟨b, o + K * 3 + 2, none⟩ = some (.slice uM mM cM)) ∧ w'.cell? ⟨b, o + i * 3, none⟩ = some (.string nP) ∧ w'.cell? ⟨b, o + i * 3 + 1, none⟩ = some (.int .i64 zP) ∧ w'.cell? ⟨b, o + i * 3 + 2, none⟩ = some (.slice uP mP cP)) (by kernel_rfl) (HCC.out _ HBE.out.drew) fun hHeld => ?_
     iterate 13 (refine un 16 rfl ?_;try simp only [aP])
     refine rq 13 rfl fun K hK => ?_
     go_simp
     (go_at_call 106; refine (HLE.out _).mono ?_; rintro e w2 ⟨rfl, hl2⟩; have hb2 : Below w.heap.size w w2 := HBE.out.drew.trans (hl2.mono HBE.out.size))
     try go_wp2_with fail
     refine hK.out _ _ (HCC.out _ hb2) (fun hHeld => ?_)
     clear hK K
     try simp only [aP]
     iterate 2 (refine un 16 rfl ?_;try simp only [aP])
     refine dq ?_
     go_wp2_with fail
     go_roundw
     case rel => exact ⟨i + 1, by omega, by go_num, HN.out, hb2⟩
     case measure => simp [intOf] <;> omega
    | false =>
     rw [hbl] at HLE
     have HF : Hid (¬ AdjP ps) := fun h => by
      have h2 : xM.name.data.toList < xP.name.data.toList := h K xM xP HXM.out HXP.out
      have := HLI.out
      rw [hbl] at this
      exact absurd h2 (by simpa using this.symm)
     clear hbl HLI
     go_wp2_with fail
     refine wq 16 (S := fun w' => (w'.cell? ⟨b, o + K * 3, none⟩ = some (.string nM) ∧ w'.cell? ⟨b, o + K * 3 + 1, none⟩ = some (.int .i64 zM) ∧ w'.cell? ⟨b, o + K * 3 + 2, none⟩ = some (.slice uM mM cM)) ∧ w'.cell? ⟨b, o + i * 3, none⟩ = some (.string nP) ∧ w'.cell? ⟨b, o + i * 3 + 1, none⟩ = some (.int .i64 zP) ∧ w'.cell? ⟨b, o + i * 3 + 2, none⟩ = some (.slice uP mP cP)) (by kernel_rfl) (HCC.out _ HBE.out.drew) fun hHeld => ?_
     iterate 13 (refine un 16 rfl ?_;try simp only [aP])
     refine rq 13 rfl fun K hK => ?_
     go_simp
     (go_at_call 106; refine (HLE.out _).mono ?_; rintro e w2 ⟨rfl, hl2⟩; have hb2 : Below w.heap.size w w2 := HBE.out.drew.trans (hl2.mono HBE.out.size))
     try go_wp2_with fail
     refine hK.out _ _ (HCC.out _ hb2) (fun hHeld => ?_)
     clear hK K
     try simp only [aP]
     iterate 2 (refine un 16 rfl ?_;try simp only [aP])
     refine dq ?_
     go_wp2_with fail
     go_ret
     exact ⟨by rw [adjPB_no HF.out]; first | done | rfl, hb2⟩
   ·have hi1' : ¬ (0 : Int) < (i : Int) := by omega
    have HN : Hid (AdjP (ps.take (i + 1))) := fun j x y hx hy => by
     have := (List.getElem?_eq_some_iff.1 hy).1
     simp at this
     omega
    clear hbel hxP
    go_wp2_with fail
    refine wq 16 (S := fun _ => True) (by kernel_rfl) (trivial) fun hHeld => ?_
    iterate 16 ((first|refine sn 16 rfl ?_|refine un 16 rfl ?_);try simp only [aP])
    refine dq ?_
    go_wp2_with fail
    go_roundw
    case rel => exact ⟨i + 1, by omega, by go_num, HN.out, HBE.out.drew⟩
    case measure => simp [intOf] <;> omega
  ·have hil' : ¬ (i : Int) < (n : Int) := by omega
   have HT : Hid (AdjP ps) := by
    have h := HAD.out
    rwa [List.take_of_length_le (by rw [HNN.out]; omega)] at h
   clear hbel
   go_wp2
   go_ret
   exact ⟨by rw [adjPB_yes HT.out]; first | done | rfl, HBE.out⟩
open Go.Maps
theorem grown_of {w w' : World} (hb : Below w.heap.size w w') : w.grownBy w' none := ⟨hb.os, hb.tape, hb.output, hb.size, fun k hk _ => hb.block k hk⟩
def LV (w : World) (mb : Nat) : Prop := w.ownsMap Tryz.prog 5 (plainElem Tryz.prog 133) mb 32 (wd.lvD 32)
theorem LV.below {w w' : World} {mb : Nat} (h : LV w mb) (hb : Below w.heap.size w w') : LV w' mb := World.ownsMap.kept h (grown_of hb) (by simp)
theorem now1_any (n z : Int) (p : ByteArray) (bx : Nat) (w : World) (hz : w.cell? ⟨bx, 1, none⟩ = some (.int .i64 z)) :
  Calls Tryz.prog 124 #[.agg #[.int .i64 n, .string p], .pointer (some ⟨bx, 0, none⟩)] w fun e w' => e = .returned (.bool (decide (n = z))) ∧ Below w.heap.size w w' := by
 have hlt := World.block_lt_of_cell? _ _ hz
 go_enter Tryz.func124, Tryz.ntmps124
 go_wp2
 go_ret
 exact ⟨by first | rfl | simp, (Below.refl _ _).alloc (Nat.le_refl _) _⟩
theorem ixG_any (l : List Gn) (a : Option Addr) (cap bx : Nat) (z : Int) (w : World) (hR : SrcG w a l) (hn : l.length ≤ 1048576) (hz : w.cell? ⟨bx, 1, none⟩ = some (.int .i64 z)) :
  Calls Tryz.prog 123 #[.slice a l.length cap, .func (.func 124) #[] #[.pointer (some ⟨bx, 0, none⟩)]] w fun e w' => e = .returned (.int .i64 (gIx l z)) ∧ Below w.heap.size w w' := by
 have HR : Hid (SrcG w a l) := hR
 have HC : Hid (∀ n p W, Below w.heap.size w W → Calls Tryz.prog 124 #[.agg #[.int .i64 n, .string p], .pointer (some ⟨bx, 0, none⟩)] W fun e w' => e = .returned (.bool (decide (n = z))) ∧ Below W.heap.size W w') := fun n p W hW => now1_any n z p bx W ((hW.cell (p := ⟨bx, 1, none⟩) (World.block_lt_of_cell? _ _ hz)).trans hz)
 clear hR hz
 obtain ⟨n, hnn⟩ : ∃ n, l.length = n := ⟨_, rfl⟩
 have HNN : Hid (l.length = n) := hnn
 rw [hnn] at hn ⊢
 clear hnn
 go_enter Tryz.func123, Tryz.ntmps123
 go_wp2
 go_loopw [5, 8] (fun _ x wr => ∃ i : Nat, i ≤ n ∧ x = .int .i64 (i : Int) ∧ (∀ (j : Nat) (y : Gn), j < i → l[j]? = some y → y.n ≠ z) ∧ Below w.heap.size w wr) (fun _ x _ => n - (intOf x).toNat)
 case atStart => exact ⟨0, Nat.zero_le _, rfl, fun j y h => by omega, Below.refl _ _⟩
 case round =>
  obtain ⟨i, hi, rfl, h1, hbel⟩ := hrel
  have H1 := Lib.hid h1
  have HBE : Hid (Below w.heap.size w wr) := hbel
  clear h1
  by_cases hin : i < n
  ·have hin' : (i : Int) < (n : Int) := by omega
   have hi0 : (0 : Int) ≤ (i : Int) := by omega
   obtain ⟨x, hx⟩ : ∃ x, l[i]? = some x := ⟨_, List.getElem?_eq_getElem (by rw [HNN.out]; exact hin)⟩
   rcases HR.out with h | ⟨b, o, rfl, hc⟩
   ·have := HNN.out; rw [h] at this; simp at this; omega
   obtain ⟨c0, c1⟩ := (hc i x hx).below hbel
   have HX : Hid (l[i]? = some x) := hx
   obtain ⟨m, hm⟩ : ∃ m, x.n = m := ⟨_, rfl⟩
   obtain ⟨p, hp⟩ : ∃ m, x.p = m := ⟨_, rfl⟩
   rw [hm] at c0
   rw [hp] at c1
   have HM : Hid (x.n = m) := hm
   have HCM := Lib.hid (HC.out m p wr hbel)
   clear hm hp hbel hc hx
   by_cases hu : m = z
   ·rw [decide_eq_true hu] at HCM
    have HF : Hid (gIx l z = (i : Int)) := gIx_yes HX.out (HM.out.trans hu) H1.out
    clear hu
    go_wp2_with (go_at_call 124; refine HCM.out.mono ?_; rintro e w1 ⟨rfl, hl1⟩)
    go_ret
    exact ⟨by rw [HF.out]; first | done | rfl, HBE.out.trans (hl1.mono HBE.out.size)⟩
   ·rw [decide_eq_false hu] at HCM
    have HN : Hid (∀ (j : Nat) (y : Gn), j < i + 1 → l[j]? = some y → y.n ≠ z) := fun j y hj hy => by
     rcases Nat.lt_or_ge j i with h | h
     ·exact H1.out j y h hy
     ·obtain rfl : j = i := by omega
      rw [HX.out] at hy
      cases hy
      rw [HM.out]; exact hu
    clear hu
    go_wp2_with (go_at_call 124; refine HCM.out.mono ?_; rintro e w1 ⟨rfl, hl1⟩)
    go_roundw
    case rel => exact ⟨i + 1, by omega, by go_num, HN.out, HBE.out.trans (hl1.mono HBE.out.size)⟩
    case measure => simp [intOf] <;> omega
  ·have hin' : ¬ (i : Int) < (n : Int) := by omega
   have HF : Hid (gIx l z = -1) := gIx_no fun j y hy => H1.out j y (by have := (List.getElem?_eq_some_iff.1 hy).1; have := HNN.out; omega) hy
   clear hbel
   go_wp2
   go_ret
   exact ⟨by rw [HF.out]; first | done | rfl, HBE.out⟩
theorem nowN_any (A : ByteArray) (z : Int) (l : List Gn) (a : Option Addr) (cap : Nat) (w : World) (hR : SrcG w a l) (hn : l.length ≤ 1048576) :
  Calls Tryz.prog 74 #[.agg #[.string A, .int .i64 z, .slice a l.length cap]] w fun e w' => e = .returned (.tuple #[.int .i64 (gIx l z), .bool (decide (0 ≤ gIx l z))]) ∧ Below w.heap.size w w' := by
 have HC : Hid (∀ W bx, Below w.heap.size w W → W.cell? ⟨bx, 1, none⟩ = some (.int .i64 z) → Calls Tryz.prog 123 #[.slice a l.length cap, .func (.func 124) #[] #[.pointer (some ⟨bx, 0, none⟩)]] W fun e w' => e = .returned (.int .i64 (gIx l z)) ∧ Below W.heap.size W w') := fun W bx hb hz => ixG_any l a cap bx z W (hR.below hb) hn hz
 clear hR
 obtain ⟨r, hr⟩ : ∃ r, gIx l z = r := ⟨_, rfl⟩
 rw [hr] at HC ⊢
 clear hr
 go_enter Tryz.func74, Tryz.ntmps74
 go_wp2_with (go_at_call 123; refine (HC.out _ _ ((Below.refl _ _).alloc (Nat.le_refl _) _) (by simp [go_sem])).mono ?_; rintro e w1 ⟨rfl, hl1⟩)
 go_ret2
 exact ⟨by first | rfl | simp, ((Below.refl _ _).alloc (Nat.le_refl _) _).trans (hl1.mono (by simp))⟩
def GOk (g : Gn) : Prop := 1 ≤ g.n ∧ g.n ≤ 9007199254740992 ∧ wd.aokB g.p = true
theorem isOk_any (x : Pr) (a : Option Addr) (cap mb : Nat) (w : World) (hR : SrcG w a x.gens) (hn : x.gens.length ≤ 1048576) (hA : x.name.size ≤ 1048576) (hG : ∀ g ∈ x.gens, g.p.size ≤ 1048576) (hL : LV w mb) :
  Calls Tryz.prog 110 #[.agg #[.string x.name, .int .i64 x.now, .slice a x.gens.length cap], .map (some mb)] w fun e w' => e = .returned (.bool (pOkB x)) ∧ Below w.heap.size w w' := by
 have HNA := Lib.hid fun (W : World) => nm.impl_any x.name hA W
 have HAS := Lib.hid fun (W : World) (hb : Below w.heap.size w W) => ascG_any x.gens a cap W (hR.below hb) hn
 have HNO := Lib.hid fun (W : World) (hb : Below w.heap.size w W) => nowN_any x.name x.now x.gens a cap W (hR.below hb) hn
 have HAD : Hid (∀ s W, s.size ≤ 1048576 → Below w.heap.size w W → Calls Tryz.prog 151 #[.string s, .map (some mb)] W fun e w' => e = .returned (.bool (wd.aokB s)) ∧ w' = W) := fun s W hs hb => wd.isadr_any s hs mb W (hL.below hb)
 have HR : Hid (SrcG w a x.gens) := hR
 have HGS := Lib.hid hG
 have HP : ∀ {v : Bool}, (v = true ↔ POk x) → v = pOkB x := fun {v} h => by
  rw [Bool.eq_iff_iff, h, pOkB_iff]
 have HPK : Hid (∀ v : Bool, (v = true ↔ POk x) → v = pOkB x) := fun v h => HP h
 clear hR hG hL HP hA
 obtain ⟨z, hz⟩ : ∃ z, x.now = z := ⟨_, rfl⟩
 obtain ⟨A, hA⟩ : ∃ z, x.name = z := ⟨_, rfl⟩
 obtain ⟨n, hnn⟩ : ∃ z, x.gens.length = z := ⟨_, rfl⟩
 have HZ : Hid (x.now = z) := hz
 have HA : Hid (x.name = A) := hA
 have HNN : Hid (x.gens.length = n) := hnn
 rw [hA] at HNA
 rw [hnn] at HAS hn
 rw [hA, hz, hnn] at HNO
 rw [hA, hz, hnn]
 clear hz hA hnn
 obtain ⟨W0, hW0⟩ : ∃ W0, W0 = w.alloc (.cells #[.string A, .int .i64 z, .slice a n cap] 55) := ⟨_, rfl⟩
 have HW0 := Lib.hid hW0
 have HB0 : Hid (Below w.heap.size w W0) := by show Below _ _ _; rw [hW0]; exact (Below.refl _ _).alloc (Nat.le_refl _) _
 have HS0 : Hid (w.heap.size < W0.heap.size) := by show _ < _; rw [hW0]; simp
 have HC0 : Hid (∀ W, Below W0.heap.size W0 W → W.cell? ⟨w.heap.size, 0, none⟩ = some (.string A) ∧ W.cell? ⟨w.heap.size, 1, none⟩ = some (.int .i64 z) ∧ W.cell? ⟨w.heap.size, 2, none⟩ = some (.slice a n cap)) := fun W hb => by
  have k := (bcell hb).1 w.heap.size
  rw [k 0 (by rw [hW0]; simp), k 1 (by rw [hW0]; simp), k 2 (by rw [hW0]; simp), hW0]
  exact ⟨by simp [go_sem], by simp [go_sem], by simp [go_sem]⟩
 clear hW0
 cases h1 : nm.nameB A with
 | false =>
  rw [h1] at HNA
  have HF : Hid (pOkB x = false) := pOkB_no fun h => by have := h.name; rw [HA.out, h1] at this; cases this
  clear h1
  go_enter Tryz.func110, Tryz.ntmps110
  go_wp2_with (go_at_call 148; refine (HNA.out _).mono ?_; rintro e w1 ⟨rfl, rfl⟩)
  go_ret
  exact ⟨by rw [HF.out]; first | done | rfl, (Below.refl _ _).alloc (Nat.le_refl _) _⟩
 | true =>
  rw [h1] at HNA
  by_cases h2 : 50 < n
  ·have h2' : (50 : Int) < (n : Int) := by omega
   have HF : Hid (pOkB x = false) := pOkB_no fun h => by have := h.few; rw [HNN.out] at this; omega
   clear h1
   go_enter Tryz.func110, Tryz.ntmps110
   go_wp2_with (go_at_call 148; refine (HNA.out _).mono ?_; rintro e w1 ⟨rfl, rfl⟩)
   go_ret
   exact ⟨by rw [HF.out]; first | done | rfl, (Below.refl _ _).alloc (Nat.le_refl _) _⟩
  have h2' : ¬ (50 : Int) < (n : Int) := by omega
  cases h3 : adjGB x.gens with
  | false =>
   rw [h3] at HAS
   have HF : Hid (pOkB x = false) := pOkB_no fun h => by rw [adjGB_yes h.asc] at h3; cases h3
   clear h1 h3
   go_enter Tryz.func110, Tryz.ntmps110
   go_wp2_with (first
    | (go_at_call 148; refine (HNA.out _).mono ?_; rintro e w1 ⟨rfl, rfl⟩)
    | (go_at_call 149; refine (HAS.out _ ((Below.refl _ _).alloc (Nat.le_refl _) _)).mono ?_; rintro e w2 ⟨rfl, hl2⟩))
   go_ret
   exact ⟨by rw [HF.out]; first | done | rfl, ((Below.refl _ _).alloc (Nat.le_refl _) _).trans (hl2.mono (by simp))⟩
  | true =>
   rw [h3] at HAS
   have HN1 : Hid (nm.nameB x.name = true) := by show _ = _; rw [HA.out]; exact h1
   have HA1 : Hid (AdjG x.gens) := adjGB_iff.1 h3
   clear h1 h3
   go_enter Tryz.func110, Tryz.ntmps110
   go_wp2_with (first
    | (go_at_call 148; refine (HNA.out _).mono ?_; rintro e w1 ⟨rfl, rfl⟩)
    | (go_at_call 149; refine (HAS.out _ ((Below.refl _ _).alloc (Nat.le_refl _) _)).mono ?_; rintro e w2 ⟨rfl, hl2⟩; rw [← HW0.out] at hl2; obtain ⟨c0, c1, c2⟩ := HC0.out _ hl2))
   clear c0 c1 c2
   go_loopw [6, 28] (fun _ y wr => ∃ k : Nat, k ≤ n ∧ y = .int .i64 (k : Int) ∧ (∀ (j : Nat) (g : Gn), j < k → x.gens[j]? = some g → GOk g) ∧ Below W0.heap.size W0 wr) (fun _ y _ => n - (intOf y).toNat)
   case atStart => exact ⟨0, Nat.zero_le _, rfl, fun j g h => by omega, hl2⟩
   case round =>
    obtain ⟨k, hk, rfl, hok, hbel⟩ := hrel
    have HOK := Lib.hid hok
    have HBE : Hid (Below W0.heap.size W0 wr) := hbel
    have HBW : Hid (Below w.heap.size w wr) := HB0.out.trans (hbel.mono (by have := HS0.out; omega))
    clear hok hl2
    by_cases hlt : k < n
    ·have hlt' : (k : Int) < (n : Int) := by omega
     have hk0 : (0 : Int) ≤ (k : Int) := by omega
     obtain ⟨g, hg⟩ : ∃ g, x.gens[k]? = some g := ⟨_, List.getElem?_eq_getElem (by rw [HNN.out]; exact hlt)⟩
     rcases HR.out with h | ⟨b, o, rfl, hc⟩
     ·have := HNN.out; rw [h] at this; simp at this; omega
     obtain ⟨q0, q1⟩ := (hc k g hg).below HBW.out
     have HX : Hid (x.gens[k]? = some g) := hg
     have hps := HGS.out g (List.mem_of_getElem? hg)
     obtain ⟨m, hm⟩ : ∃ m, g.n = m := ⟨_, rfl⟩
     obtain ⟨p, hp⟩ : ∃ m, g.p = m := ⟨_, rfl⟩
     rw [hm] at q0
     rw [hp] at q1 hps
     have HM : Hid (g.n = m ∧ g.p = p) := ⟨hm, hp⟩
     have HADK := Lib.hid fun (W : World) (hb : Below w.heap.size w W) => HAD.out p W hps hb
     have HNF : Hid (¬ GOk g → pOkB x = false) := fun h => pOkB_no fun h2 => h (h2.gen k g HX.out)
     clear hm hp hbel hc hg hps
     by_cases e1 : m < 1
     ·have HF : Hid (pOkB x = false) := HNF.out fun h => by have := h.1; rw [HM.out.1] at this; omega
      go_wp2
      go_ret
      exact ⟨by rw [HF.out]; first | done | rfl, HBW.out.alloc (HBW.out.size) _⟩
     by_cases e2 : 9007199254740992 < m
     ·have HF : Hid (pOkB x = false) := HNF.out fun h => by have := h.2.1; rw [HM.out.1] at this; omega
      go_wp2
      go_ret
      exact ⟨by rw [HF.out]; first | done | rfl, HBW.out.alloc (HBW.out.size) _⟩
     cases e3 : wd.aokB p with
     | false =>
      rw [e3] at HADK
      have HF : Hid (pOkB x = false) := HNF.out fun h => by have := h.2.2; rw [HM.out.2, e3] at this; cases this
      clear e3
      go_wp2_with (go_at_call 151; refine (HADK.out _ (HBW.out.alloc HBW.out.size _)).mono ?_; rintro e w3 ⟨rfl, rfl⟩)
      go_ret
      exact ⟨by rw [HF.out]; first | done | rfl, HBW.out.alloc (HBW.out.size) _⟩
     | true =>
      rw [e3] at HADK
      have HN : Hid (∀ (j : Nat) (y : Gn), j < k + 1 → x.gens[j]? = some y → GOk y) := fun j y hj hy => by
       rcases Nat.lt_or_ge j k with h | h
       ·exact HOK.out j y h hy
       ·obtain rfl : j = k := by omega
        rw [HX.out] at hy
        cases hy
        obtain ⟨r1, r2⟩ := HM.out
        unfold GOk
        rw [r1, r2]
        exact ⟨by omega, by omega, e3⟩
      clear e3
      go_wp2_with (go_at_call 151; refine (HADK.out _ (HBW.out.alloc HBW.out.size _)).mono ?_; rintro e w3 ⟨rfl, rfl⟩)
      go_roundw
      case rel => exact ⟨k + 1, by omega, by go_num, HN.out, HBE.out.alloc HBE.out.size _⟩
      case measure => simp [intOf] <;> omega
    ·have hlt' : ¬ (k : Int) < (n : Int) := by omega
     obtain ⟨c0, c1, c2⟩ := HC0.out _ hbel
     have hwl : w.heap.size < wr.heap.size := by have := HS0.out; have := hbel.size; omega
     have HAL : Hid (∀ (i : Nat) (g : Gn), x.gens[i]? = some g → GOk g) := fun i g hg => HOK.out i g (by have := (List.getElem?_eq_some_iff.1 hg).1; have := HNN.out; omega) hg
     obtain ⟨r, hr⟩ : ∃ r, gIx x.gens z = r := ⟨_, rfl⟩
     have HE : Hid (x.now = 0 ∨ 0 ≤ gIx x.gens x.now ↔ POk x) := ⟨fun h => ⟨HN1.out, by rw [HNN.out]; omega, HA1.out, HAL.out, h⟩, fun h => h.now⟩
     have HNO2 : Hid (Calls Tryz.prog 74 #[.agg #[.string A, .int .i64 z, .slice a n cap]] wr fun e w' => e = .returned (.tuple #[.int .i64 r, .bool (decide (0 ≤ r))]) ∧ Below wr.heap.size wr w') := by
      have := HNO.out wr HBW.out
      rwa [hr] at this
     have HR2 : Hid (gIx x.gens x.now = r) := by show _ = _; rw [HZ.out]; exact hr
     clear hr hbel
     by_cases hr0 : 0 ≤ r
     ·have HT : Hid (pOkB x = true) := pOkB_yes (HE.out.1 (.inr (by rw [HR2.out]; exact hr0)))
      rw [decide_eq_true hr0] at HNO2
      go_wp2_with (go_at_call 74; refine HNO2.out.mono ?_; rintro e w4 ⟨rfl, hl4⟩)
      go_ret
      exact ⟨by rw [HT.out]; first | done | rfl, HBW.out.trans (hl4.mono HBW.out.size)⟩
     ·rw [decide_eq_false hr0] at HNO2
      have HV : Hid ((z == 0) = pOkB x) := HPK.out _ (by rw [← HE.out, HR2.out, HZ.out]; simp; omega)
      go_wp2_with (go_at_call 74; refine HNO2.out.mono ?_; rintro e w4 ⟨rfl, hl4⟩; have c5 := ((bcell hl4).1 w.heap.size 1 hwl).trans c1)
      go_ret
      exact ⟨by rw [← HV.out]; first | done | rfl | simp, HBW.out.trans (hl4.mono HBW.out.size)⟩
theorem p2_any (x : Pr) (a : Option Addr) (cap mb vb : Nat) (w : World) (hR : SrcG w a x.gens) (hn : x.gens.length ≤ 1048576) (hA : x.name.size ≤ 1048576) (hG : ∀ g ∈ x.gens, g.p.size ≤ 1048576) (hL : LV w mb) (hv : w.cell? ⟨vb, 0, none⟩ = some (.map (some mb))) :
  Calls Tryz.prog 109 #[.agg #[.string x.name, .int .i64 x.now, .slice a x.gens.length cap], .pointer (some ⟨vb, 0, none⟩)] w fun e w' => e = .returned (.bool (!pOkB x)) ∧ Below w.heap.size w w' := by
 have HI := Lib.hid fun (W : World) (hb : Below w.heap.size w W) => isOk_any x a cap mb W (hR.below hb) hn hA hG (hL.below hb)
 have hlt := World.block_lt_of_cell? _ _ hv
 clear hR hn hA hG hL
 generalize x.name = A at *
 generalize x.now = z at *
 generalize x.gens.length = n at *
 generalize pOkB x = r at *
 go_enter Tryz.func109, Tryz.ntmps109
 go_wp2_with (go_at_call 110; refine (HI.out _ ((Below.refl _ _).alloc (Nat.le_refl _) _)).mono ?_; rintro e w1 ⟨rfl, hl1⟩)
 go_ret
 exact ⟨by first | rfl | simp, ((Below.refl _ _).alloc (Nat.le_refl _) _).trans (hl1.mono (by simp))⟩
def Bad (ps : List Pr) : Prop := ∃ (i : Nat) (x : Pr), ps[i]? = some x ∧ ¬ POk x
theorem ixP_any (ps : List Pr) (a : Option Addr) (cap mb vb : Nat) (w : World) (hR : SrcP w a ps) (hn : ps.length ≤ 1048576) (hw : wtP ps ≤ 1048576) (hL : LV w mb) (hv : w.cell? ⟨vb, 0, none⟩ = some (.map (some mb))) :
  Calls Tryz.prog 147 #[.slice a ps.length cap, .func (.func 109) #[] #[.pointer (some ⟨vb, 0, none⟩)]] w fun e w' => (∃ r : Int, e = .returned (.int .i64 r) ∧ (0 ≤ r ∧ Bad ps ∨ r = -1 ∧ ¬ Bad ps)) ∧ Below w.heap.size w w' := by
 have HR : Hid (SrcP w a ps) := hR
 have HC : Hid (∀ (x : Pr) (a' : Option Addr) (c' : Nat) W, x ∈ ps → Below w.heap.size w W → SrcG W a' x.gens → Calls Tryz.prog 109 #[.agg #[.string x.name, .int .i64 x.now, .slice a' x.gens.length c'], .pointer (some ⟨vb, 0, none⟩)] W fun e w' => e = .returned (.bool (!pOkB x)) ∧ Below W.heap.size W w') := fun x a' c' W hx hW hs => p2_any x a' c' mb vb W hs (by have := wt_gens hx; omega) (by have := wt_name hx; omega) (fun g hg => by have := wt_path hx hg; omega) (hL.below hW) ((hW.cell (p := ⟨vb, 0, none⟩) (World.block_lt_of_cell? _ _ hv)).trans hv)
 clear hR hL hv hw
 obtain ⟨n, hnn⟩ : ∃ n, ps.length = n := ⟨_, rfl⟩
 have HNN : Hid (ps.length = n) := hnn
 rw [hnn] at hn ⊢
 clear hnn
 go_enter Tryz.func147, Tryz.ntmps147
 go_wp2
 go_loopw [5, 8] (fun _ y wr => ∃ i : Nat, i ≤ n ∧ y = .int .i64 (i : Int) ∧ (∀ (j : Nat) (y : Pr), j < i → ps[j]? = some y → POk y) ∧ Below w.heap.size w wr) (fun _ y _ => n - (intOf y).toNat)
 case atStart => exact ⟨0, Nat.zero_le _, rfl, fun j y h => by omega, Below.refl _ _⟩
 case round =>
  obtain ⟨i, hi, rfl, h1, hbel⟩ := hrel
  have H1 := Lib.hid h1
  have HBE : Hid (Below w.heap.size w wr) := hbel
  clear h1
  by_cases hin : i < n
  ·have hin' : (i : Int) < (n : Int) := by omega
   have hi0 : (0 : Int) ≤ (i : Int) := by omega
   obtain ⟨x, hx⟩ : ∃ x, ps[i]? = some x := ⟨_, List.getElem?_eq_getElem (by rw [HNN.out]; exact hin)⟩
   rcases HR.out with h | ⟨b, o, rfl, hc⟩
   ·have := HNN.out; rw [h] at this; simp at this; omega
   obtain ⟨a', c', q0, q1, q2, hs⟩ := (hc i x hx).below hbel
   have HX : Hid (ps[i]? = some x) := hx
   have HCM : Hid (Calls Tryz.prog 109 #[.agg #[.string x.name, .int .i64 x.now, .slice a' x.gens.length c'], .pointer (some ⟨vb, 0, none⟩)] wr fun e w' => e = .returned (.bool (!pOkB x)) ∧ Below wr.heap.size wr w') := HC.out x a' c' wr (List.mem_of_getElem? hx) hbel hs
   obtain ⟨z, hz⟩ : ∃ z, x.now = z := ⟨_, rfl⟩
   obtain ⟨A, hA⟩ : ∃ z, x.name = z := ⟨_, rfl⟩
   obtain ⟨m, hm⟩ : ∃ z, x.gens.length = z := ⟨_, rfl⟩
   rw [hA] at q0
   rw [hz] at q1
   rw [hm] at q2
   rw [hA, hz, hm] at HCM
   clear hA hz hm hbel hc hx hs
   cases hp : pOkB x with
   | false =>
    rw [hp, Bool.not_false] at HCM
    have HF : Hid (Bad ps) := ⟨i, x, HX.out, fun h => by rw [pOkB_yes h] at hp; cases hp⟩
    clear hp
    go_wp2_with (go_at_call 109; refine HCM.out.mono ?_; rintro e w1 ⟨rfl, hl1⟩)
    go_ret
    exact ⟨⟨_, rfl, .inl ⟨hi0, HF.out⟩⟩, HBE.out.trans (hl1.mono HBE.out.size)⟩
   | true =>
    rw [hp, Bool.not_true] at HCM
    have HN : Hid (∀ (j : Nat) (y : Pr), j < i + 1 → ps[j]? = some y → POk y) := fun j y hj hy => by
     rcases Nat.lt_or_ge j i with h | h
     ·exact H1.out j y h hy
     ·obtain rfl : j = i := by omega
      rw [HX.out] at hy
      cases hy
      exact pOkB_iff.1 hp
    clear hp
    go_wp2_with (go_at_call 109; refine HCM.out.mono ?_; rintro e w1 ⟨rfl, hl1⟩)
    go_roundw
    case rel => exact ⟨i + 1, by omega, by go_num, HN.out, HBE.out.trans (hl1.mono HBE.out.size)⟩
    case measure => simp [intOf] <;> omega
  ·have hin' : ¬ (i : Int) < (n : Int) := by omega
   have HF : Hid (¬ Bad ps) := fun ⟨j, y, hy, hn⟩ => hn (H1.out j y (by have := (List.getElem?_eq_some_iff.1 hy).1; have := HNN.out; omega) hy)
   clear hbel
   go_wp2
   go_ret
   exact ⟨⟨_, rfl, .inr ⟨rfl, HF.out⟩⟩, HBE.out⟩
noncomputable def badB (ps : List Pr) : Bool := @decide (Bad ps) (Classical.propDecidable _)
theorem badB_yes {ps : List Pr} (h : Bad ps) : badB ps = true := by unfold badB; exact @decide_eq_true _ (Classical.propDecidable _) h
theorem badB_no {ps : List Pr} (h : ¬ Bad ps) : badB ps = false := by unfold badB; exact @decide_eq_false _ (Classical.propDecidable _) h
theorem conP_any (ps : List Pr) (a : Option Addr) (cap mb vb : Nat) (w : World) (hR : SrcP w a ps) (hn : ps.length ≤ 1048576) (hw : wtP ps ≤ 1048576) (hL : LV w mb) (hv : w.cell? ⟨vb, 0, none⟩ = some (.map (some mb))) :
  Calls Tryz.prog 108 #[.slice a ps.length cap, .func (.func 109) #[] #[.pointer (some ⟨vb, 0, none⟩)]] w fun e w' => e = .returned (.bool (badB ps)) ∧ Below w.heap.size w w' := by
 have HC : Hid (∀ W : World, W = w → Calls Tryz.prog 147 #[.slice a ps.length cap, .func (.func 109) #[] #[.pointer (some ⟨vb, 0, none⟩)]] W fun e w' => (∃ r : Int, e = .returned (.int .i64 r) ∧ (0 ≤ r ∧ Bad ps ∨ r = -1 ∧ ¬ Bad ps)) ∧ Below w.heap.size w w') := fun W hW => by subst hW; exact ixP_any ps a cap mb vb W hR hn hw hL hv
 clear hR hL hv hw
 generalize ps.length = n at *
 go_enter Tryz.func108, Tryz.ntmps108
 go_wp2_with (go_at_call 147; refine (HC.out _ rfl).mono ?_; rintro e w1 ⟨⟨r, rfl, hr⟩, hl1⟩)
 go_ret
 refine ⟨?_, hl1⟩
 rcases hr with ⟨h1, h2⟩ | ⟨h1, h2⟩
 ·rw [badB_yes h2]
  simp [h1]
 ·rw [badB_no h2]
  subst h1
  simp
theorem ips_any (ps : List Pr) (a : Option Addr) (cap : Nat) (w : World) (hR : SrcP w a ps) (hw : wtP ps ≤ 1048576) (hT : wd.TabB w) :
  Calls Tryz.prog 65 #[.slice a ps.length cap] w fun e w' => e = .returned (.bool (psB ps)) ∧ Below w.heap.size w w' := by
 have hn : ps.length ≤ 1048576 := by have := wt_len ps; omega
 have HAS := Lib.hid fun (W : World) (hb : Below w.heap.size w W) => ascP_any ps a cap W (hR.below hb) hn
 have HCO : Hid (∀ W mb vb, Below w.heap.size w W → LV W mb → W.cell? ⟨vb, 0, none⟩ = some (.map (some mb)) → Calls Tryz.prog 108 #[.slice a ps.length cap, .func (.func 109) #[] #[.pointer (some ⟨vb, 0, none⟩)]] W fun e w' => e = .returned (.bool (badB ps)) ∧ Below W.heap.size W w') := fun W mb vb hb hL hv => conP_any ps a cap mb vb W (hR.below hb) hn hw hL hv
 have HT : Hid (wd.TabB w) := hT
 clear hR hT hw
 obtain ⟨n, hnn⟩ : ∃ n, ps.length = n := ⟨_, rfl⟩
 have HNN : Hid (ps.length = n) := hnn
 rw [hnn] at hn HAS HCO ⊢
 clear hnn
 by_cases h2 : 20 < n
 ·have h2' : (20 : Int) < (n : Int) := by omega
  have HF : Hid (psB ps = false) := psB_no fun h => by have := h.few; rw [HNN.out] at this; omega
  go_enter Tryz.func65, Tryz.ntmps65
  go_wp2
  go_ret
  exact ⟨by rw [HF.out]; first | done | rfl, Below.refl _ _⟩
 have h2' : ¬ (20 : Int) < (n : Int) := by omega
 cases h3 : adjPB ps with
 | false =>
  rw [h3] at HAS
  have HF : Hid (psB ps = false) := psB_no fun h => by rw [adjPB_yes h.asc] at h3; cases h3
  clear h3
  go_enter Tryz.func65, Tryz.ntmps65
  go_wp2_with (go_at_call 105; refine (HAS.out _ (Below.refl _ _)).mono ?_; rintro e w2 ⟨rfl, hl2⟩)
  go_ret
  exact ⟨by rw [HF.out]; first | done | rfl, hl2⟩
 | true =>
  rw [h3] at HAS
  have HV : Hid (psB ps = !badB ps) := by
   show _ = _
   by_cases hb : Bad ps
   ·rw [badB_yes hb, psB_no (fun h => by obtain ⟨i, x, hx, hn⟩ := hb; exact hn (h.each i x hx))]; rfl
   ·rw [badB_no hb, psB_yes ⟨by rw [HNN.out]; omega, adjPB_iff.1 h3, fun i x hx => Classical.byContradiction fun h => hb ⟨i, x, hx, h⟩⟩]; rfl
  obtain ⟨r, hr⟩ : ∃ r, badB ps = r := ⟨_, rfl⟩
  rw [hr] at HV HCO
  clear h3 hr
  go_enter Tryz.func65, Tryz.ntmps65
  go_wp2_with (first
   | (go_at_call 105; refine (HAS.out _ (Below.refl _ _)).mono ?_; rintro e w2 ⟨rfl, hl2⟩)
   | (go_at_call 107; refine (wd.lv_any _ (HT.out.below hl2)).mono ?_; rintro e w3 ⟨rfl, hown, hl3⟩; have hs3 := hl3.size)
   | (go_at_call 108; refine (HCO.out _ _ _ ((hl2.trans (hl3.mono hl2.size)).alloc (Nat.le_trans hl2.size hl3.size) _) (World.ownsMap.alloc hown _) (by simp [go_sem])).mono ?_; rintro e w4 ⟨rfl, hl4⟩))
  go_ret
  exact ⟨by rw [HV.out]; first | done | rfl | simp, ((hl2.trans (hl3.mono hl2.size)).alloc (Nat.le_trans hl2.size hl3.size) _).trans (hl4.mono (by have := hl2.size; have := hl3.size; simp; omega))⟩
end Go.Proofs.YtjbdklkingfmpaaGreatDoor.pf
