import Derived.Test.YtklgeahgaeodiaaDoorRD1
import Derived.Deep.LoopGhost
namespace Go.Proofs.YtklgeahgaeodiaaDoor.cr
open Go.ChangeShapes Go.WideShapes Go.ChangeAt Go.RowKit Go.Deep
open cd (Tr Cn infoE)
set_option linter.unusedVariables false
set_option linter.unusedSimpArgs false

/-! ### The specification's reader: what stands there, lists put together -/

def srF (S : ByteArray) (i : Nat) (b : Bool) (j : Nat) : Value := if j = 0 then .string S else if j = 1 then .int .i64 (i : Int) else .bool b
def Sr (W : World) (rb : Nat) (S : ByteArray) (i : Nat) (b : Bool) : Prop := W.rowIs rb 30 3 (srF S i b)
theorem Sr.c0 {W : World} {rb i : Nat} {S : ByteArray} {b : Bool} (h : Sr W rb S i b) : W.cell? ⟨rb, 0, none⟩ = some (.string S) := World.rowIs.cell h (i := 0) (by omega)
theorem Sr.c1 {W : World} {rb i : Nat} {S : ByteArray} {b : Bool} (h : Sr W rb S i b) : W.cell? ⟨rb, 1, none⟩ = some (.int .i64 (i : Int)) := World.rowIs.cell h (i := 1) (by omega)
theorem Sr.c2 {W : World} {rb i : Nat} {S : ByteArray} {b : Bool} (h : Sr W rb S i b) : W.cell? ⟨rb, 2, none⟩ = some (.bool b) := World.rowIs.cell h (i := 2) (by omega)
theorem Sr.f {W : World} {rb i : Nat} {S : ByteArray} {b : Bool} (h : Sr W rb S i b) (j : Nat) : W.frozen? ⟨rb, j, none⟩ = false := World.rowIs.frozen h j
theorem Sr.lt {W : World} {rb i : Nat} {S : ByteArray} {b : Bool} (h : Sr W rb S i b) : rb < W.heap.size := World.rowIs.lt h
theorem Sr.to {W W' : World} {rb i : Nat} {S : ByteArray} {b : Bool} (h : Sr W rb S i b) (e : W'.heap[rb]? = W.heap[rb]?) : Sr W' rb S i b := World.rowIs.of_block h e
theorem Sr.seti {W : World} {rb i : Nat} {S : ByteArray} {b : Bool} (h : Sr W rb S i b) (k : Nat) : Sr (W.setCell ⟨rb, 1, none⟩ (.int .i64 (k : Int))) rb S k b := (World.rowIs.set h 1 _).congr fun j hj => by
  match j, hj with
  | 0, _ => rfl
  | 1, _ => rfl
  | 2, _ => rfl
theorem Sr.setb {W : World} {rb i : Nat} {S : ByteArray} {b : Bool} (h : Sr W rb S i b) (c : Bool) : Sr (W.setCell ⟨rb, 2, none⟩ (.bool c)) rb S i c := (World.rowIs.set h 2 _).congr fun j hj => by
  match j, hj with
  | 0, _ => rfl
  | 1, _ => rfl
  | 2, _ => rfl
theorem gr_set (w : World) (rb o : Nat) (v : Value) : w.grownBy (w.setCell ⟨rb, o, none⟩ v) (some rb) := ⟨rfl, rfl, rfl, by simp, fun k hk hne => blk_setCell_other w ⟨rb, o, none⟩ _ k (fun e => hne (by rw [e]))⟩
theorem gr_drew {A B : World} {c : Nat} (h : A.grownBy B (some c)) : A.grownBy B.drew (some c) := ⟨h.os, h.tape, h.output, h.size, h.block⟩
theorem gr_refl (A : World) (c : Nat) : A.grownBy A (some c) := ⟨rfl, rfl, rfl, Nat.le_refl _, fun _ _ _ => rfl⟩
theorem gr_below {A B C : World} {c : Nat} (h : A.grownBy B (some c)) (hb : Below B.heap.size B C) : A.grownBy C (some c) := ⟨hb.os.trans h.os, hb.tape.trans h.tape, hb.output.trans h.output, Nat.le_trans h.size hb.size, fun j hj hne => (hb.block j (Nat.lt_of_lt_of_le hj h.size)).trans (h.block j hj hne)⟩

theorem dropS {S : ByteArray} {i : Nat} (h : i < S.size) : S.data.toList.drop i = S[i] :: S.data.toList.drop (i + 1) := by
  rw [List.drop_eq_getElem_cons (by rw [lenS]; exact h)]; rfl
theorem drop_end {S : ByteArray} {i : Nat} (h : ¬ i < S.size) : S.data.toList.drop i = [] := List.drop_eq_nil_of_le (by rw [lenS]; omega)
theorem skip_blank {l : List UInt8} {c : UInt8} (h : c = 32) : skip (c :: l) = skip l := by unfold skip; rw [List.dropWhile_cons, if_pos (by rw [h]; rfl)]
theorem skip_other {l : List UInt8} {c : UInt8} (h : c ≠ 32) : skip (c :: l) = c :: l := by unfold skip; rw [List.dropWhile_cons, if_neg (by simpa using h)]
/-- What stands there. -/
def pkN (l : List UInt8) : Nat := match skip l with
  | [] => 0
  | c :: _ => c.toNat
/-- What Peek leaves and answers. -/
def PkR (S : ByteArray) (rb i : Nat) (b : Bool) (w w' : World) (e : Ending) : Prop := e = .returned (.int .u8 (pkN (S.data.toList.drop i) : Int)) ∧ w.grownBy w' (some rb) ∧ w'.heap.size = w.heap.size ∧ ∃ k, i ≤ k ∧ (i ≤ S.size → k ≤ S.size) ∧ (S.size ≤ i → k = i) ∧ S.data.toList.drop k = skip (S.data.toList.drop i) ∧ Sr w' rb S k b

set_option maxRecDepth 100000 in
set_option maxHeartbeats 4000000 in
theorem peek_any (S : ByteArray) (rb i : Nat) (b : Bool) (w : World) (h : Sr w rb S i b) (hs : S.size ≤ 4000) (hi : i ≤ 100000) :
    Calls Tryd.prog 10 #[.pointer (some ⟨rb, 0, none⟩)] w fun e w' => PkR S rb i b w w' e := by
  have HS := Lib.hid h
  clear h
  go_enter Tryd.func10, Tryd.ntmps10
  go_wp2
  go_loopg [] (100001 - i + S.size) (fun q wr => ∃ k : Nat, i ≤ k ∧ k ≤ 100000 + 0 ∧ (i ≤ S.size → k ≤ S.size) ∧ (S.size ≤ i → k = i) ∧ skip (S.data.toList.drop k) = skip (S.data.toList.drop i) ∧ Sr wr rb S k b ∧ w.grownBy wr (some rb) ∧ wr.heap.size = w.heap.size ∧ S.size - k ≤ q)
  case atStart => exact ⟨i, Nat.le_refl _, by omega, fun h => h, fun _ => rfl, rfl, HS.out, gr_refl _ _, rfl, by omega⟩
  case round =>
    obtain ⟨k, hik, hk, hkl, hke, hsk, hsr, hgr, hsz, hq⟩ := hrel
    have HSR := Lib.hid hsr
    have HGR := Lib.hid hgr
    have HSK := Lib.hid hsk
    have HSZ := Lib.hid hsz
    have d0 : wr.drew.cell? ⟨rb, 0, none⟩ = some (.string S) := hsr.c0
    have d1 : wr.drew.cell? ⟨rb, 1, none⟩ = some (.int .i64 (k : Int)) := hsr.c1
    have hk0 : (0 : Int) ≤ (k : Int) := by omega
    clear hsr hgr hsk hsz
    by_cases hlt : k < S.size
    · have hlt' : (k : Int) < (S.size : Int) := by omega
      have hbN : (S[k].toNat : Int) ≤ 255 := by have := S[k].toNat_lt; omega
      by_cases hc : S[k] = 32
      · have hcb : (S[k].toNat : Int) = 32 := by rw [hc]; rfl
        have HN : Hid (skip (S.data.toList.drop (k + 1)) = skip (S.data.toList.drop i)) := by show _ = _; rw [← HSK.out, dropS hlt, skip_blank hc]
        have HS2 : Hid (Sr (wr.drew.setCell ⟨rb, 1, none⟩ (.int .i64 ((k + 1 : Nat) : Int))) rb S (k + 1) b) := Sr.seti (W := wr.drew) HSR.out (k + 1)
        have HG2 : Hid (w.grownBy (wr.drew.setCell ⟨rb, 1, none⟩ (.int .i64 ((k + 1 : Nat) : Int))) (some rb)) := gr_trans (gr_drew HGR.out) (gr_set _ _ _ _)
        have f1 : wr.drew.frozen? ⟨rb, 1, none⟩ = false := HSR.out.f 1
        have hwk : IntKind.i64.wrap ((k : Int) + 1) = ((k + 1 : Nat) : Int) := by rw [IntKind.wrap_i64]; omega
        clear hc
        go_upto_region 1 with fail
        refine wq 22 (S := fun W => W.cell? ⟨rb, 0, none⟩ = some (.string S) ∧ W.cell? ⟨rb, 1, none⟩ = some (.int .i64 (k : Int))) (by kernel_rfl) ⟨d0, d1⟩ fun hHeld => ?_
        iterate 22 (refine un 22 rfl ?_; try simp only [aP])
        refine dq ?_
        clear hHeld
        go_wp2
        try rw [show ((k : Int) + 1) = ((k + 1 : Nat) : Int) by simp]
        go_roundg (S.size - (k + 1))
        case measure => omega
        case rel => exact ⟨k + 1, by omega, by omega, fun h => by omega, fun h => by have := hke h; omega, HN.out, HS2.out, HG2.out, by have := HSZ.out; simpa using this, Nat.le_refl _⟩
      · have hcb : ¬ (S[k].toNat : Int) = 32 := fun e => hc (UInt8.toNat_inj.1 (by have : S[k].toNat = 32 := (by omega); rw [this]; rfl))
        have HF : Hid (skip (S.data.toList.drop i) = S[k] :: S.data.toList.drop (k + 1)) := by show _ = _; rw [← HSK.out, dropS hlt, skip_other hc]
        have HPK : Hid (pkN (S.data.toList.drop i) = S[k].toNat) := by show _ = _; unfold pkN; rw [HF.out]
        have HDK : Hid (S.data.toList.drop k = skip (S.data.toList.drop i)) := by show _ = _; rw [HF.out, dropS hlt]
        have e0 : wr.drew.drew.cell? ⟨rb, 0, none⟩ = some (.string S) := d0
        have e1 : wr.drew.drew.cell? ⟨rb, 1, none⟩ = some (.int .i64 (k : Int)) := d1
        have g0 : wr.drew.drew.drew.cell? ⟨rb, 0, none⟩ = some (.string S) := d0
        have g1 : wr.drew.drew.drew.cell? ⟨rb, 1, none⟩ = some (.int .i64 (k : Int)) := d1
        clear hc HF
        go_upto_region 1 with fail
        refine wq 22 (S := fun W => W.cell? ⟨rb, 0, none⟩ = some (.string S) ∧ W.cell? ⟨rb, 1, none⟩ = some (.int .i64 (k : Int))) (by kernel_rfl) ⟨d0, d1⟩ fun hHeld => ?_
        iterate 22 (refine un 22 rfl ?_; try simp only [aP])
        refine dq ?_
        clear hHeld d0 d1
        go_upto_region 3 with fail
        refine wq 10 (S := fun W => W.cell? ⟨rb, 0, none⟩ = some (.string S) ∧ W.cell? ⟨rb, 1, none⟩ = some (.int .i64 (k : Int))) (by kernel_rfl) ⟨e0, e1⟩ fun hHeld => ?_
        iterate 10 (refine un 10 rfl ?_; try simp only [aP])
        refine dq ?_
        clear hHeld e0 e1
        go_upto_region 4 with fail
        refine wq 10 (S := fun W => W.cell? ⟨rb, 0, none⟩ = some (.string S) ∧ W.cell? ⟨rb, 1, none⟩ = some (.int .i64 (k : Int))) (by kernel_rfl) ⟨g0, g1⟩ fun hHeld => ?_
        iterate 10 (refine un 10 rfl ?_; try simp only [aP])
        refine dq ?_
        clear hHeld g0 g1
        go_wp2
        go_ret
        exact ⟨ret_int (by rw [HPK.out]), gr_drew (gr_drew (gr_drew HGR.out)), HSZ.out, k, hik, hkl, hke, HDK.out, HSR.out⟩
    · have hlt' : ¬ (k : Int) < (S.size : Int) := by omega
      have HE : Hid (skip (S.data.toList.drop i) = []) := by show _ = _; rw [← HSK.out, drop_end hlt]; rfl
      have HPK : Hid (pkN (S.data.toList.drop i) = 0) := by show _ = _; unfold pkN; rw [HE.out]
      have HDK : Hid (S.data.toList.drop k = skip (S.data.toList.drop i)) := by show _ = _; rw [HE.out, drop_end hlt]
      have e0 : wr.drew.drew.cell? ⟨rb, 0, none⟩ = some (.string S) := d0
      have e1 : wr.drew.drew.cell? ⟨rb, 1, none⟩ = some (.int .i64 (k : Int)) := d1
      go_upto_region 1 with fail
      refine wq 22 (S := fun W => W.cell? ⟨rb, 0, none⟩ = some (.string S) ∧ W.cell? ⟨rb, 1, none⟩ = some (.int .i64 (k : Int))) (by kernel_rfl) ⟨d0, d1⟩ fun hHeld => ?_
      iterate 11 (refine un 22 rfl ?_; try simp only [aP])
      iterate 10 (refine sn 22 rfl ?_; try simp only [aP])
      refine un 22 rfl ?_
      try simp only [aP]
      refine dq ?_
      clear hHeld d0 d1
      go_upto_region 3 with fail
      refine wq 10 (S := fun W => W.cell? ⟨rb, 0, none⟩ = some (.string S) ∧ W.cell? ⟨rb, 1, none⟩ = some (.int .i64 (k : Int))) (by kernel_rfl) ⟨e0, e1⟩ fun hHeld => ?_
      iterate 10 (refine un 10 rfl ?_; try simp only [aP])
      refine dq ?_
      clear hHeld e0 e1
      go_wp2
      go_ret
      exact ⟨ret_int (by rw [HPK.out]; rfl), gr_drew (gr_drew HGR.out), HSZ.out, k, hik, hkl, hke, HDK.out, HSR.out⟩
end Go.Proofs.YtklgeahgaeodiaaDoor.cr
