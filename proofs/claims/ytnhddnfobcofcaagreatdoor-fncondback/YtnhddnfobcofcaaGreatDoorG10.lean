import Derived.Test.YtnhddnfobcofcaaGreatDoorG06
import Derived.Deep.LoopGhost
import Derived.Test.YtnhddnfobcofcaaGreatDoorG08
namespace Go.Proofs.YtnhddnfobcofcaaGreatDoor.cr
open Go.ChangeShapes Go.WideShapes Go.ChangeAt Go.RowKit Go.Deep
open cd (Tr Cn infoE)
set_option linter.unusedVariables false
set_option linter.unusedSimpArgs false

/-! ### The specification's reader: what stands there, lists put together -/

def srF (S : ByteArray) (i : Nat) (b : Bool) (j : Nat) : Value := if j = 0 then .string S else if j = 1 then .int .i64 (i : Int) else .bool b
def Sr (W : World) (rb : Nat) (S : ByteArray) (i : Nat) (b : Bool) : Prop := W.rowIs rb 83 3 (srF S i b)
theorem Sr.c0 {W : World} {rb i : Nat} {S : ByteArray} {b : Bool} (h : Sr W rb S i b) : W.cell? ⟨rb, 0, none⟩ = some (.string S) := World.rowIs.cell h (i := 0) (by omega)
theorem Sr.c1 {W : World} {rb i : Nat} {S : ByteArray} {b : Bool} (h : Sr W rb S i b) : W.cell? ⟨rb, 1, none⟩ = some (.int .i64 (i : Int)) := World.rowIs.cell h (i := 1) (by omega)
theorem Sr.c2 {W : World} {rb i : Nat} {S : ByteArray} {b : Bool} (h : Sr W rb S i b) : W.cell? ⟨rb, 2, none⟩ = some (.bool b) := World.rowIs.cell h (i := 2) (by omega)
theorem Sr.f {W : World} {rb i : Nat} {S : ByteArray} {b : Bool} (h : Sr W rb S i b) (j : Nat) : W.frozen? ⟨rb, j, none⟩ = false := World.rowIs.frozen h j
theorem Sr.lt {W : World} {rb i : Nat} {S : ByteArray} {b : Bool} (h : Sr W rb S i b) : rb < W.heap.size := World.rowIs.lt h
theorem Sr.to {W W' : World} {rb i : Nat} {S : ByteArray} {b : Bool} (h : Sr W rb S i b) (e : W'.heap[rb]? = W.heap[rb]?) : Sr W' rb S i b := World.rowIs.of_block h e
theorem Sr.seti {W : World} {rb i : Nat} {S : ByteArray} {b : Bool} (h : Sr W rb S i b) (k : Nat) : Sr (W.setCell ⟨rb, 1, none⟩ (.int .i64 (k : Int))) rb S k b := (World.rowIs.set h 1 _).congr fun j hj => by
  match j, hj with
  | 0, _ => rfl
  | 1, _ => rfl
  | 2, _ => rfl
theorem Sr.setb {W : World} {rb i : Nat} {S : ByteArray} {b : Bool} (h : Sr W rb S i b) (c : Bool) : Sr (W.setCell ⟨rb, 2, none⟩ (.bool c)) rb S i c := (World.rowIs.set h 2 _).congr fun j hj => by
  match j, hj with
  | 0, _ => rfl
  | 1, _ => rfl
  | 2, _ => rfl
theorem gr_set (w : World) (rb o : Nat) (v : Value) : w.grownBy (w.setCell ⟨rb, o, none⟩ v) (some rb) := ⟨rfl, rfl, rfl, by simp, fun k hk hne => blk_setCell_other w ⟨rb, o, none⟩ _ k (fun e => hne (by rw [e]))⟩
theorem gr_drew {A B : World} {c : Nat} (h : A.grownBy B (some c)) : A.grownBy B.drew (some c) := ⟨h.os, h.tape, h.output, h.size, h.block⟩
theorem gr_refl (A : World) (c : Nat) : A.grownBy A (some c) := ⟨rfl, rfl, rfl, Nat.le_refl _, fun _ _ _ => rfl⟩
theorem gr_below {A B C : World} {c : Nat} (h : A.grownBy B (some c)) (hb : Below B.heap.size B C) : A.grownBy C (some c) := ⟨hb.os.trans h.os, hb.tape.trans h.tape, hb.output.trans h.output, Nat.le_trans h.size hb.size, fun j hj hne => (hb.block j (Nat.lt_of_lt_of_le hj h.size)).trans (h.block j hj hne)⟩

theorem dropS {S : ByteArray} {i : Nat} (h : i < S.size) : S.data.toList.drop i = S[i] :: S.data.toList.drop (i + 1) := by
  rw [List.drop_eq_getElem_cons (by rw [lenS]; exact h)]; rfl
theorem drop_end {S : ByteArray} {i : Nat} (h : ¬ i < S.size) : S.data.toList.drop i = [] := List.drop_eq_nil_of_le (by rw [lenS]; omega)
theorem skip_blank {l : List UInt8} {c : UInt8} (h : c = 32) : skip (c :: l) = skip l := by unfold skip; rw [List.dropWhile_cons, if_pos (by rw [h]; rfl)]
theorem skip_other {l : List UInt8} {c : UInt8} (h : c ≠ 32) : skip (c :: l) = c :: l := by unfold skip; rw [List.dropWhile_cons, if_neg (by simpa using h)]
/-- What stands there. -/
def pkN (l : List UInt8) : Nat := match skip l with
  | [] => 0
  | c :: _ => c.toNat
/-- What Peek leaves and answers. -/
def PkR (S : ByteArray) (rb i : Nat) (b : Bool) (w w' : World) (e : Ending) : Prop := e = .returned (.int .u8 (pkN (S.data.toList.drop i) : Int)) ∧ w.grownBy w' (some rb) ∧ w'.heap.size = w.heap.size ∧ ∃ k, i ≤ k ∧ (i ≤ S.size → k ≤ S.size) ∧ (S.size ≤ i → k = i) ∧ S.data.toList.drop k = skip (S.data.toList.drop i) ∧ Sr w' rb S k b

set_option maxRecDepth 100000 in
set_option maxHeartbeats 4000000 in
theorem peek_any (S : ByteArray) (rb i : Nat) (b : Bool) (w : World) (h : Sr w rb S i b) (hs : S.size ≤ 4000) (hi : i ≤ 100000) :
    Calls Tryz.prog 52 #[.pointer (some ⟨rb, 0, none⟩)] w fun e w' => PkR S rb i b w w' e := by
  have HS := Lib.hid h
  clear h
  go_enter Tryz.func52, Tryz.ntmps52
  go_wp2
  go_loopg [] (100001 - i + S.size) (fun q wr => ∃ k : Nat, i ≤ k ∧ k ≤ 100000 + 0 ∧ (i ≤ S.size → k ≤ S.size) ∧ (S.size ≤ i → k = i) ∧ skip (S.data.toList.drop k) = skip (S.data.toList.drop i) ∧ Sr wr rb S k b ∧ w.grownBy wr (some rb) ∧ wr.heap.size = w.heap.size ∧ S.size - k ≤ q)
  case atStart => exact ⟨i, Nat.le_refl _, by omega, fun h => h, fun _ => rfl, rfl, HS.out, gr_refl _ _, rfl, by omega⟩
  case round =>
    obtain ⟨k, hik, hk, hkl, hke, hsk, hsr, hgr, hsz, hq⟩ := hrel
    have HSR := Lib.hid hsr
    have HGR := Lib.hid hgr
    have HSK := Lib.hid hsk
    have HSZ := Lib.hid hsz
    have d0 : wr.drew.cell? ⟨rb, 0, none⟩ = some (.string S) := hsr.c0
    have d1 : wr.drew.cell? ⟨rb, 1, none⟩ = some (.int .i64 (k : Int)) := hsr.c1
    have hk0 : (0 : Int) ≤ (k : Int) := by omega
    clear hsr hgr hsk hsz
    by_cases hlt : k < S.size
    · have hlt' : (k : Int) < (S.size : Int) := by omega
      have hbN : (S[k].toNat : Int) ≤ 255 := by have := S[k].toNat_lt; omega
      by_cases hc : S[k] = 32
      · have hcb : (S[k].toNat : Int) = 32 := by rw [hc]; rfl
        have HN : Hid (skip (S.data.toList.drop (k + 1)) = skip (S.data.toList.drop i)) := by show _ = _; rw [← HSK.out, dropS hlt, skip_blank hc]
        have HS2 : Hid (Sr (wr.drew.setCell ⟨rb, 1, none⟩ (.int .i64 ((k + 1 : Nat) : Int))) rb S (k + 1) b) := Sr.seti (W := wr.drew) HSR.out (k + 1)
        have HG2 : Hid (w.grownBy (wr.drew.setCell ⟨rb, 1, none⟩ (.int .i64 ((k + 1 : Nat) : Int))) (some rb)) := gr_trans (gr_drew HGR.out) (gr_set _ _ _ _)
        have f1 : wr.drew.frozen? ⟨rb, 1, none⟩ = false := HSR.out.f 1
        have hwk : IntKind.i64.wrap ((k : Int) + 1) = ((k + 1 : Nat) : Int) := by rw [IntKind.wrap_i64]; omega
        clear hc
        go_upto_region 1 with fail
        refine wq 22 (S := fun W => W.cell? ⟨rb, 0, none⟩ = some (.string S) ∧ W.cell? ⟨rb, 1, none⟩ = some (.int .i64 (k : Int))) (by kernel_rfl) ⟨d0, d1⟩ fun hHeld => ?_
        iterate 22 (refine un 22 rfl ?_; try simp only [aP])
        refine dq ?_
        clear hHeld
        go_wp2
        try rw [show ((k : Int) + 1) = ((k + 1 : Nat) : Int) by simp]
        go_roundg (S.size - (k + 1))
        case measure => omega
        case rel => exact ⟨k + 1, by omega, by omega, fun h => by omega, fun h => by have := hke h; omega, HN.out, HS2.out, HG2.out, by have := HSZ.out; simpa using this, Nat.le_refl _⟩
      · have hcb : ¬ (S[k].toNat : Int) = 32 := fun e => hc (UInt8.toNat_inj.1 (by have : S[k].toNat = 32 := (by omega); rw [this]; rfl))
        have HF : Hid (skip (S.data.toList.drop i) = S[k] :: S.data.toList.drop (k + 1)) := by show _ = _; rw [← HSK.out, dropS hlt, skip_other hc]
        have HPK : Hid (pkN (S.data.toList.drop i) = S[k].toNat) := by show _ = _; unfold pkN; rw [HF.out]
        have HDK : Hid (S.data.toList.drop k = skip (S.data.toList.drop i)) := by show _ = _; rw [HF.out, dropS hlt]
        have e0 : wr.drew.drew.cell? ⟨rb, 0, none⟩ = some (.string S) := d0
        have e1 : wr.drew.drew.cell? ⟨rb, 1, none⟩ = some (.int .i64 (k : Int)) := d1
        have g0 : wr.drew.drew.drew.cell? ⟨rb, 0, none⟩ = some (.string S) := d0
        have g1 : wr.drew.drew.drew.cell? ⟨rb, 1, none⟩ = some (.int .i64 (k : Int)) := d1
        clear hc HF
        go_upto_region 1 with fail
        refine wq 22 (S := fun W => W.cell? ⟨rb, 0, none⟩ = some (.string S) ∧ W.cell? ⟨rb, 1, none⟩ = some (.int .i64 (k : Int))) (by kernel_rfl) ⟨d0, d1⟩ fun hHeld => ?_
        iterate 22 (refine un 22 rfl ?_; try simp only [aP])
        refine dq ?_
        clear hHeld d0 d1
        go_upto_region 3 with fail
        refine wq 10 (S := fun W => W.cell? ⟨rb, 0, none⟩ = some (.string S) ∧ W.cell? ⟨rb, 1, none⟩ = some (.int .i64 (k : Int))) (by kernel_rfl) ⟨e0, e1⟩ fun hHeld => ?_
        iterate 10 (refine un 10 rfl ?_; try simp only [aP])
        refine dq ?_
        clear hHeld e0 e1
        go_upto_region 4 with fail
        refine wq 10 (S := fun W => W.cell? ⟨rb, 0, none⟩ = some (.string S) ∧ W.cell? ⟨rb, 1, none⟩ = some (.int .i64 (k : Int))) (by kernel_rfl) ⟨g0, g1⟩ fun hHeld => ?_
        iterate 10 (refine un 10 rfl ?_; try simp only [aP])
        refine dq ?_
        clear hHeld g0 g1
        go_wp2
        go_ret
        exact ⟨ret_int (by rw [HPK.out]), gr_drew (gr_drew (gr_drew HGR.out)), HSZ.out, k, hik, hkl, hke, HDK.out, HSR.out⟩
    · have hlt' : ¬ (k : Int) < (S.size : Int) := by omega
      have HE : Hid (skip (S.data.toList.drop i) = []) := by show _ = _; rw [← HSK.out, drop_end hlt]; rfl
      have HPK : Hid (pkN (S.data.toList.drop i) = 0) := by show _ = _; unfold pkN; rw [HE.out]
      have HDK : Hid (S.data.toList.drop k = skip (S.data.toList.drop i)) := by show _ = _; rw [HE.out, drop_end hlt]
      have e0 : wr.drew.drew.cell? ⟨rb, 0, none⟩ = some (.string S) := d0
      have e1 : wr.drew.drew.cell? ⟨rb, 1, none⟩ = some (.int .i64 (k : Int)) := d1
      go_upto_region 1 with fail
      refine wq 22 (S := fun W => W.cell? ⟨rb, 0, none⟩ = some (.string S) ∧ W.cell? ⟨rb, 1, none⟩ = some (.int .i64 (k : Int))) (by kernel_rfl) ⟨d0, d1⟩ fun hHeld => ?_
      iterate 11 (refine un 22 rfl ?_; try simp only [aP])
      iterate 10 (refine sn 22 rfl ?_; try simp only [aP])
      refine un 22 rfl ?_
      try simp only [aP]
      refine dq ?_
      clear hHeld d0 d1
      go_upto_region 3 with fail
      refine wq 10 (S := fun W => W.cell? ⟨rb, 0, none⟩ = some (.string S) ∧ W.cell? ⟨rb, 1, none⟩ = some (.int .i64 (k : Int))) (by kernel_rfl) ⟨e0, e1⟩ fun hHeld => ?_
      iterate 10 (refine un 10 rfl ?_; try simp only [aP])
      refine dq ?_
      clear hHeld e0 e1
      go_wp2
      go_ret
      exact ⟨ret_int (by rw [HPK.out]; rfl), gr_drew (gr_drew HGR.out), HSZ.out, k, hik, hkl, hke, HDK.out, HSR.out⟩
end Go.Proofs.YtnhddnfobcofcaaGreatDoor.cr

namespace Go.Proofs.YtnhddnfobcofcaaGreatDoor.cr
open Go.ChangeShapes Go.WideShapes Go.ChangeAt Go.RowKit Go.Deep
open cd (Tr Cn infoE)
set_option linter.unusedVariables false
set_option linter.unusedSimpArgs false

/-! ### The specification: bytes of names, lists put together -/

theorem nby_any (c : Int) (w : World) : Calls Tryz.prog 96 #[.int .u8 c] w fun e w' => e = .returned (.bool (nm.okB c)) ∧ w' = w := by
  go_enter Tryz.func96, Tryz.ntmps96
  go_wp2_with (first
    | (go_at_call 58; refine (nm.letter_any _ _).mono ?_; rintro e w' ⟨rfl, rfl⟩)
    | (go_at_call 59; refine (nm.digit_any _ _).mono ?_; rintro e w' ⟨rfl, rfl⟩))
  all_goals go_ret
  all_goals refine ⟨ret_bool ?_, rfl⟩
  all_goals simp [nm.okB, *]

theorem oc_at {B : Nat} {w : World} {v : Value} {l : List Cn} (h : OC B w v l) (h0 : 0 < l.length) : ∃ g c, v = .slice (some ⟨g, 0, none⟩) l.length c := by
  rcases h.2 with ⟨_, h1⟩ | ⟨g, c, _, e, _⟩
  · omega
  · exact ⟨g, c, e⟩
theorem OC.read {B : Nat} {w : World} {g c : Nat} {l : List Cn} (h : OC B w (.slice (some ⟨g, 0, none⟩) l.length c) l) : ∀ j u, (cnV l)[j]? = some u → w.cell? ((⟨g, 0, none⟩ : Addr).add j) = some u := World.ownsRow.cells h (g := g) rfl
theorem OC.one (w : World) (c : Cn) : OC w.heap.size (w.alloc (.cells #[.int .i64 c.kind, .string c.name, .int .i64 c.size] 31)) (.slice (some ⟨w.heap.size, 0, none⟩) 1 1) [c] := ⟨rfl, .inr ⟨w.heap.size, 1, _, rfl, Nat.le_refl _, blk_alloc_new _ _, Nat.le_refl _, by unfold maxLen; omega, rfl, rfl⟩⟩
theorem OC.take {B : Nat} {w : World} {g c : Nat} {l : List Cn} (h : OC B w (.slice (some ⟨g, 0, none⟩) l.length c) l) (m : Nat) (hm : m ≤ l.length) : OC B w (.slice (some ⟨g, 0, none⟩) m c) (l.take m) := by
  rcases h.2 with ⟨h1, _⟩ | ⟨g', c', cur, h1, h2, h3, h4, h5, h6, h7⟩
  · cases h1
  · cases h1
    have hl : (l.take m).length = m := by rw [List.length_take]; omega
    refine ⟨by rw [cnV_len], .inr ⟨g, c, cur, by rw [hl], h2, h3, by rw [hl]; omega, h5, h6, ?_⟩⟩
    have e : cnV (l.take m) = (cnV l).take (m * 3) := by
      have := cnV_app (l.take m) (l.drop m)
      rw [List.take_append_drop] at this
      rw [this, List.take_left' (by rw [cnV_len, hl])]
    rw [hl, e, ← h7, List.take_take, Nat.min_eq_left (by omega)]
/-- What Make answers. -/
def MkR (k : Int) (l : List Cn) (w w' : World) (e : Ending) : Prop := ∃ g c, e = .returned (.slice (some ⟨g, 0, none⟩) (((⟨k, bA [], (l.length : Int)⟩ : Cn) :: l).take 301).length c) ∧ OC w.heap.size w' (.slice (some ⟨g, 0, none⟩) (((⟨k, bA [], (l.length : Int)⟩ : Cn) :: l).take 301).length c) (((⟨k, bA [], (l.length : Int)⟩ : Cn) :: l).take 301)

set_option maxRecDepth 100000 in
set_option maxHeartbeats 2000000 in
theorem make_any (k : Int) (B g c : Nat) (l : List Cn) (w : World) (h : OC B w (.slice (some ⟨g, 0, none⟩) l.length c) l) (hl : l.length ≤ 2000000) (hg : g < w.heap.size) :
    Calls Tryz.prog 88 #[.int .i64 k, .slice (some ⟨g, 0, none⟩) l.length c] w fun e w' => MkR k l w w' e ∧ Below w.heap.size w w' := by
  obtain ⟨W1, hW1⟩ : ∃ W1, W1 = w.alloc (.cells #[.int .i64 k, .string ⟨#[]⟩, .int .i64 (l.length : Int)] 31) := ⟨_, rfl⟩
  have hb1 : Below w.heap.size w W1 := by rw [hW1]; exact (Below.refl _ _).alloc (Nat.le_refl _) _
  have h1 : OC w.heap.size W1 (.slice (some ⟨w.heap.size, 0, none⟩) 1 1) [⟨k, bA [], (l.length : Int)⟩] := by rw [hW1]; exact OC.one w ⟨k, bA [], (l.length : Int)⟩
  obtain ⟨v2, W2, hr2, hoc2, hg2, hloc2, hn2⟩ := run_appC (m := l) h1 hb1.size 24 ⟨g, 0, none⟩ c (fun j u hj => (h.below hb1).read j u hj) (by simp; omega)
  obtain ⟨g2, c2, rfl⟩ := oc_at hoc2 (by simp)
  have HB2 : Hid (Below w.heap.size w W2) := hb1.grown hg2 hb1.size (fun q hq => by simp [Value.ownBlock] at hq; omega)
  have HOC := Lib.hid hoc2
  have HLN : Hid (([⟨k, bA [], (l.length : Int)⟩] ++ l : List Cn).length = l.length + 1) := by show _ = _; simp
  rw [HLN.out] at hr2
  have HW1 := Lib.hid hW1
  have HHD : Hid (∀ m, m = (((⟨k, bA [], (l.length : Int)⟩ : Cn) :: l).take 301).length → OC w.heap.size W2 (.slice (some ⟨g2, 0, none⟩) m c2) (((⟨k, bA [], (l.length : Int)⟩ : Cn) :: l).take 301) → MkR k l w W2 (.returned (.slice (some ⟨g2, 0, none⟩) m c2))) := fun m e hh => by subst e; exact ⟨g2, c2, rfl, hh⟩
  have hc2 : l.length + 1 ≤ c2 := by
    rcases hoc2.2 with ⟨e, _⟩ | ⟨_, _, _, e, _, _, h4, _⟩
    · cases e
    · cases e; rw [HLN.out] at h4; exact h4
  obtain ⟨n, hn⟩ : ∃ n, l.length = n := ⟨_, rfl⟩
  have HN : Hid (l.length = n) := hn
  rw [hn] at hr2 hc2 HW1 ⊢
  by_cases h3 : 301 < n + 1
  · have h3' : (301 : Int) < ((n + 1 : Nat) : Int) := by omega
    have h3'' : (301 : Int) < (n : Int) + 1 := by omega
    have hc3 : (301 : Int) ≤ (c2 : Int) := by omega
    have HF : Hid (MkR k l w W2 (.returned (.slice (some ⟨g2, 0, none⟩) 301 c2))) := HHD.out 301 (by rw [List.length_take, List.length_cons, HN.out]; omega) ((HOC.out.take 301 (by rw [HLN.out, HN.out]; omega)))
    clear hn hoc2 hg2 hloc2 hn2 h1 hb1 h HHD HOC hW1 hl h3
    go_enter Tryz.func88, Tryz.ntmps88
    go_wp2_with (at_builtin; rw [← HW1.out]; refine wpList_plain rfl fun K hK => ?_; refine wp_appC _ _ rfl rfl rfl hr2 ?_; refine hK _ _ ?_)
    go_ret
    exact ⟨HF.out, HB2.out⟩
  · have h3' : ¬ (301 : Int) < ((n + 1 : Nat) : Int) := by omega
    have h3'' : ¬ (301 : Int) < (n : Int) + 1 := by omega
    have HF : Hid (MkR k l w W2 (.returned (.slice (some ⟨g2, 0, none⟩) (n + 1) c2))) := HHD.out (n + 1) (by rw [List.length_take, List.length_cons, HN.out]; omega) (by
      rw [List.take_of_length_le (by rw [List.length_cons, HN.out]; omega)]
      have hh : ([⟨k, bA [], (l.length : Int)⟩] ++ l : List Cn).length = n + 1 := by rw [HLN.out, HN.out]
      have := HOC.out
      rw [hh] at this
      exact this)
    clear hn hoc2 hg2 hloc2 hn2 h1 hb1 h HHD HOC hW1 hl h3
    go_enter Tryz.func88, Tryz.ntmps88
    go_wp2_with (at_builtin; rw [← HW1.out]; refine wpList_plain rfl fun K hK => ?_; refine wp_appC _ _ rfl rfl rfl hr2 ?_; refine hK _ _ ?_)
    go_ret
    exact ⟨HF.out, HB2.out⟩
end Go.Proofs.YtnhddnfobcofcaaGreatDoor.cr

namespace Go.Proofs.YtnhddnfobcofcaaGreatDoor.cr
open Go.ChangeShapes Go.WideShapes Go.ChangeAt Go.RowKit Go.Deep
open cd (Tr Cn infoE)
set_option linter.unusedVariables false
set_option linter.unusedSimpArgs false

/-! ### The specification's reader: rows -/

/-- As read, or cut where it is too long anyway. -/
def Ex (L X : List Cn) : Prop := L = X ∨ (301 ≤ L.length ∧ 300 < X.length)
theorem Ex.app {L X M Y : List Cn} (h : Ex L X) (k : Ex M Y) : Ex (L ++ M) (X ++ Y) := by
  rcases h with rfl | ⟨h1, h2⟩
  · rcases k with rfl | ⟨k1, k2⟩
    · exact .inl rfl
    · exact .inr ⟨by rw [List.length_append]; omega, by rw [List.length_append]; omega⟩
  · exact .inr ⟨by rw [List.length_append]; omega, by rw [List.length_append]; omega⟩
theorem Ex.make {L X : List Cn} (h : Ex L X) (k : Int) : Ex (((⟨k, bA [], (L.length : Int)⟩ : Cn) :: L).take 301) (⟨k, bA [], (X.length : Int)⟩ :: X) := by
  rcases h with rfl | ⟨h1, h2⟩
  · by_cases hl : L.length + 1 ≤ 301
    · exact .inl (List.take_of_length_le (by rw [List.length_cons]; exact hl))
    · exact .inr ⟨by rw [List.length_take, List.length_cons]; omega, by rw [List.length_cons]; omega⟩
  · exact .inr ⟨by rw [List.length_take, List.length_cons]; omega, by rw [List.length_cons]; omega⟩
structure SRes (w w' : World) (rb : Nat) (S : ByteArray) (f : Nat) (m : Option (Tr × List UInt8)) (e : Ending) : Prop where
  gr : w.grownBy w' (some rb)
  rd : ∃ (i : Nat) (b : Bool) (g c : Nat) (L : List Cn), e = .returned (.slice (some ⟨g, 0, none⟩) L.length c) ∧ Sr w' rb S i b ∧ i ≤ S.size + f ∧ OC w.heap.size w' (.slice (some ⟨g, 0, none⟩) L.length c) L ∧ 1 ≤ L.length ∧ L.length ≤ 301 ∧ (∀ c ∈ L, c.name.size ≤ 4000) ∧ (m = none → b = true) ∧ ∀ t r, m = some (t, r) → b = false ∧ S.data.toList.drop i = r ∧ i ≤ S.size ∧ Ex L (fl t)
theorem gr_own {A B C : World} {c : Nat} {q : Option Nat} (h : A.grownBy B (some c)) (k : B.grownBy C q) (hq : ∀ j, q = some j → A.heap.size ≤ j) : A.grownBy C (some c) :=
  ⟨k.os.trans h.os, k.tape.trans h.tape, k.output.trans h.output, Nat.le_trans h.size k.size, fun j hj hne => (k.block j (Nat.lt_of_lt_of_le hj h.size) (fun e => by have := hq j e.symm; omega)).trans (h.block j hj hne)⟩
/-- Where a reader stands, with what it has read. -/
structure Rw (w : World) (rb : Nat) (S : ByteArray) (f : Nat) (wr : World) (i : Nat) (b : Bool) (g c : Nat) (L : List Cn) (n : Nat) : Prop where
  sr : Sr wr rb S i b
  gr : w.grownBy wr (some rb)
  oc : OC w.heap.size wr (.slice (some ⟨g, 0, none⟩) L.length c) L
  lt : rb < w.heap.size
  il : i ≤ S.size + f
  nm : ∀ c ∈ L, c.name.size ≤ 4000
  ll : L.length ≤ 301 * n
  l0 : n ≤ L.length
section
variable {w : World} {rb : Nat} {S : ByteArray} {f : Nat} {wr : World} {i : Nat} {b : Bool} {g c : Nat} {L : List Cn} {n : Nat}
theorem Rw.gb (h : Rw w rb S f wr i b g c L n) : w.heap.size ≤ g ∧ g < wr.heap.size := World.ownsRow.lt h.oc g rfl
theorem Rw.up (h : Rw w rb S f wr i b g c L n) {f' : Nat} (hf : f ≤ f') : Rw w rb S f' wr i b g c L n := ⟨h.sr, h.gr, h.oc, h.lt, by have := h.il; omega, h.nm, h.ll, h.l0⟩
theorem Rw.pre (h : Rw w rb S f wr i b g c L n) {w0 : World} (k : w0.grownBy w (some rb)) (hl : rb < w0.heap.size) : Rw w0 rb S f wr i b g c L n := ⟨h.sr, gr_trans k h.gr, h.oc.mono k.size, hl, h.il, h.nm, h.ll, h.l0⟩
theorem SRes.rw {w' : World} {m : Option (Tr × List UInt8)} {e : Ending} (h : SRes w w' rb S f m e) (hl : rb < w.heap.size) : ∃ (i : Nat) (b : Bool) (g c : Nat) (L : List Cn), e = .returned (.slice (some ⟨g, 0, none⟩) L.length c) ∧ Rw w rb S f w' i b g c L 1 ∧ (m = none → b = true) ∧ ∀ t r, m = some (t, r) → b = false ∧ S.data.toList.drop i = r ∧ i ≤ S.size ∧ Ex L (fl t) := by
  obtain ⟨i, b, g, c, L, h1, h2, h3, h4, h5, h6, h7, h8⟩ := h.rd
  exact ⟨i, b, g, c, L, h1, ⟨h2, h.gr, h4, hl, h3, h7, by omega, h5⟩, h8⟩
theorem Rw.done (h : Rw w rb S f wr i b g c L 1) {m : Option (Tr × List UInt8)} (hm : (b = true → m = none) ∧ (b = false → ∃ t, m = some (t, S.data.toList.drop i) ∧ i ≤ S.size ∧ Ex L (fl t))) : SRes w wr rb S f m (.returned (.slice (some ⟨g, 0, none⟩) L.length c)) := by
  refine ⟨h.gr, i, b, g, c, L, rfl, h.sr, h.il, h.oc, h.l0, by have := h.ll; omega, h.nm, ?_, ?_⟩
  · intro e
    cases b with
    | true => rfl
    | false => obtain ⟨t, h1, _⟩ := hm.2 rfl; rw [h1] at e; cases e
  · intro t r e
    cases b with
    | true => rw [hm.1 rfl] at e; cases e
    | false =>
      obtain ⟨t', h1, h2, h3⟩ := hm.2 rfl
      rw [h1] at e
      cases e
      exact ⟨rfl, rfl, h2, h3⟩
theorem Rw.made (h : Rw w rb S f wr i b g c L n) {k : Int} {w' : World} {e : Ending} (hm : MkR k L wr w' e) (hb : Below wr.heap.size wr w') : ∃ (g' c' : Nat) (L' : List Cn), e = .returned (.slice (some ⟨g', 0, none⟩) L'.length c') ∧ Rw w rb S f w' i b g' c' L' 1 ∧ ∀ X, Ex L X → Ex L' (⟨k, bA [], (X.length : Int)⟩ :: X) := by
  obtain ⟨g', c', e1, h1⟩ := hm
  refine ⟨g', c', _, e1, ⟨h.sr.to (hb.block rb h.sr.lt), gr_below h.gr hb, h1.mono h.gr.size, h.lt, h.il, ?_, by rw [List.length_take]; omega, by rw [List.length_take, List.length_cons]; omega⟩, fun X hX => hX.make k⟩
  intro x hx
  rcases List.mem_cons.1 (List.mem_of_mem_take hx) with rfl | hx
  · rw [bA_size]; simp
  · exact h.nm x hx
theorem Rw.seti (h : Rw w rb S f wr i b g c L n) (k : Nat) (hk : k ≤ S.size + f) : Rw w rb S f (wr.setCell ⟨rb, 1, none⟩ (.int .i64 (k : Int))) k b g c L n :=
  ⟨h.sr.seti k, gr_trans h.gr (gr_set _ _ _ _), h.oc.kept (gr_set wr rb 1 _) (.inr (by have := h.gb; have := h.lt; simp [Value.ownBlock]; omega)), h.lt, hk, h.nm, h.ll, h.l0⟩
theorem Rw.setb (h : Rw w rb S f wr i b g c L n) (b' : Bool) : Rw w rb S f (wr.setCell ⟨rb, 2, none⟩ (.bool b')) i b' g c L n :=
  ⟨h.sr.setb b', gr_trans h.gr (gr_set _ _ _ _), h.oc.kept (gr_set wr rb 2 _) (.inr (by have := h.gb; have := h.lt; simp [Value.ownBlock]; omega)), h.lt, h.il, h.nm, h.ll, h.l0⟩
theorem Rw.peek (h : Rw w rb S f wr i b g c L n) {w' : World} {e : Ending} (hp : PkR S rb i b wr w' e) : e = .returned (.int .u8 (pkN (S.data.toList.drop i) : Int)) ∧ ∃ k, i ≤ k ∧ k ≤ S.size + f ∧ (i ≤ S.size → k ≤ S.size) ∧ S.data.toList.drop k = skip (S.data.toList.drop i) ∧ Rw w rb S f w' k b g c L n := by
  obtain ⟨e1, hg, hsz, k, h1, h2, h3, h4, h5⟩ := hp
  have hk : k ≤ S.size + f := by have := h.il; rcases Nat.lt_or_ge i S.size with q | q; (have := h2 (by omega); omega); (have := h3 q; omega)
  exact ⟨e1, k, h1, hk, h2, h4, h5, gr_trans h.gr hg, h.oc.kept hg (.inr (by have := h.gb; have := h.lt; simp [Value.ownBlock]; omega)), h.lt, hk, h.nm, h.ll, h.l0⟩
theorem Rw.app (h : Rw w rb S f wr i b g c L n) {w4 : World} {i4 g4 c4 : Nat} {b4 : Bool} {L4 : List Cn} (k : Rw wr rb S f w4 i4 b4 g4 c4 L4 1) (hn : n ≤ 4001) : ∃ (g' c' : Nat) (W' : World) (L' : List Cn), (Builtin.append_ #[24, 24] 24 #[.slice (some ⟨g, 0, none⟩) L.length c, .slice (some ⟨g4, 0, none⟩) L4.length c4]).run Tryz.prog w4 = .ok (.slice (some ⟨g', 0, none⟩) L'.length c') W' ∧ Rw w rb S f W' i4 b4 g' c' L' (n + 1) ∧ ∀ X Y, Ex L X → Ex L4 Y → Ex L' (X ++ Y) := by
  have hgb := h.gb
  have hlt := h.lt
  have hll := h.ll
  have kll := k.ll
  have kl0 := k.l0
  have hoc : OC w.heap.size w4 (.slice (some ⟨g, 0, none⟩) L.length c) L := h.oc.kept k.gr (.inr (by simp [Value.ownBlock]; omega))
  obtain ⟨v2, W2, hr2, hoc2, hg2, hloc2, hn2⟩ := run_appC (m := L4) hoc (Nat.le_trans h.gr.size k.gr.size) 24 ⟨g4, 0, none⟩ c4 k.oc.read (by omega)
  obtain ⟨g2, c2, rfl⟩ := oc_at hoc2 (by rw [List.length_append]; omega)
  refine ⟨g2, c2, W2, L ++ L4, hr2, ⟨k.sr.to (hg2.block rb k.sr.lt (by simp [Value.ownBlock]; omega)), gr_own (gr_trans h.gr k.gr) hg2 (fun j hj => by simp [Value.ownBlock] at hj; omega), hoc2, hlt, k.il, fun x hx => ?_, by rw [List.length_append]; omega, by rw [List.length_append]; have := h.l0; omega⟩, fun X Y a b => a.app b⟩
  rcases List.mem_append.1 hx with hx | hx
  · exact h.nm x hx
  · exact k.nm x hx
theorem Rw.fin1 (h : Rw w rb S f wr i b g c L 1) {K : Int} {m : Option (Tr × List UInt8)} (hm : (b = true → m = none) ∧ (b = false → ∃ ts, m = some (mkR K ts, S.data.toList.drop i) ∧ i ≤ S.size ∧ ts.length = 1 ∧ Ex L (flL ts))) : SRes w wr rb S (f + 1) m (.returned (.slice (some ⟨g, 0, none⟩) L.length c)) := by
  refine (h.up (Nat.le_succ f)).done ⟨hm.1, fun hb => ?_⟩
  obtain ⟨ts, h1, h2, h3, h4⟩ := hm.2 hb
  obtain ⟨t, rfl⟩ := List.length_eq_one_iff.1 h3
  rw [flL_one] at h4
  exact ⟨t, h1, h2, h4⟩
theorem Rw.fin2 (h : Rw w rb S f wr i b g c L n) (hn : 2 ≤ n) {K : Int} {m : Option (Tr × List UInt8)} (hm : (b = true → m = none) ∧ (b = false → ∃ ts, m = some (mkR K ts, S.data.toList.drop i) ∧ i ≤ S.size ∧ ts.length = n ∧ Ex L (flL ts))) {w' : World} {e : Ending} (hk : MkR K L wr w' e) (hb : Below wr.heap.size wr w') : SRes w w' rb S (f + 1) m e := by
  obtain ⟨g', c', L', rfl, h1, h2⟩ := h.made hk hb
  refine (h1.up (Nat.le_succ f)).done ⟨hm.1, fun hb => ?_⟩
  obtain ⟨ts, k1, k2, k3, k4⟩ := hm.2 hb
  refine ⟨_, k1, k2, ?_⟩
  rw [mkR_many (by omega), fl_eq]
  exact h2 _ k4
end
theorem pk_tk {c : UInt8} {l : List UInt8} (hc : c ≠ 0) : tkB c l = decide (pkN l = c.toNat) := by
  unfold tkB pkN
  cases skip l with
  | nil => exact (decide_eq_false (fun e => hc (UInt8.toNat_inj.1 (by rw [← e]; rfl)))).symm
  | cons d q => simp only [UInt8.toNat_inj]
theorem pk_drop {S : ByteArray} {k : Nat} {c : UInt8} {r : List UInt8} (h : tkB c r = true) (hk : S.data.toList.drop k = skip r) : S.data.toList.drop (k + 1) = tkR c r ∧ k + 1 ≤ S.size := by
  unfold tkB at h
  unfold tkR
  cases hs : skip r with
  | nil => rw [hs] at h; cases h
  | cons d q =>
    rw [hs] at h hk
    have hd : d = c := of_decide_eq_true h
    simp only [if_pos hd]
    refine ⟨?_, ?_⟩
    · rw [← List.drop_drop, hk]; rfl
    · have := congrArg List.length hk
      rw [List.length_drop, lenS] at this
      simp at this
      omega
theorem drop_len (S : ByteArray) (i : Nat) : (S.data.toList.drop i).length = S.size - i := by rw [List.length_drop, lenS]
def SC1 (f : Nat) : Prop := ∀ (S : ByteArray) (rb i d : Nat) (w : World), Sr w rb S i false → S.size ≤ 4000 → i ≤ S.size → d ≤ i → 3 * (S.size - i) + 0 + 1 ≤ f → f ≤ 20000 → Calls Tryz.prog 87 #[.pointer (some ⟨rb, 0, none⟩), .int .i64 (d : Int)] w fun e w' => SRes w w' rb S f (P f 0 (S.data.toList.drop i)) e
def SC2 (f : Nat) : Prop := ∀ (S : ByteArray) (rb i d : Nat) (w : World), Sr w rb S i false → S.size ≤ 4000 → i ≤ S.size → d ≤ i → 3 * (S.size - i) + 2 + 1 ≤ f → f ≤ 20000 → Calls Tryz.prog 51 #[.pointer (some ⟨rb, 0, none⟩), .int .i64 (d : Int)] w fun e w' => SRes w w' rb S f (P f 2 (S.data.toList.drop i)) e
def SCr (sg : Int) (lv f : Nat) : Prop := ∀ (S : ByteArray) (rb i d : Nat) (w : World), Sr w rb S i false → S.size ≤ 4000 → i ≤ S.size → d ≤ i → 3 * (S.size - i) + lv + 1 ≤ f → f ≤ 20000 → Calls Tryz.prog 74 #[.pointer (some ⟨rb, 0, none⟩), .int .u8 sg, .int .i64 (d : Int)] w fun e w' => SRes w w' rb S f (P f lv (S.data.toList.drop i)) e

set_option maxRecDepth 100000 in
set_option maxHeartbeats 4000000 in
theorem rowA_step (f : Nat) (hP : SC1 f) : SCr 38 1 (f + 1) := fun S rb i d w hsr hs hi hd hf hf2 => by
  rw [P_all]
  have hlt := hsr.lt
  have HP := Lib.hid hP
  have HRP : Hid (rowP 5 38 (P f 0) (S.data.toList.drop i) = (rowL 38 (P f 0) (S.size - i + 1) (S.data.toList.drop i)).map (fun x => (mkR 5 x.1, x.2))) := by show _ = _; unfold rowP; rw [drop_len]
  have HR0 : Hid (Rw w rb S f (w.alloc (.cells #[] 31)) i false w.heap.size 0 [] 0) :=
    ⟨hsr.to (Below.heap_alloc w _ rb hlt), ⟨rfl, rfl, rfl, by simp, fun j hj _ => Below.heap_alloc w _ j hj⟩, OC.nil w, hlt, by omega, (fun x hx => by simp at hx), by simp, Nat.le_refl _⟩
  have HPT : Hid (∀ j, P f 0 (S.data.toList.drop j) = P f 0 (S.data.toList.drop j)) := fun _ => rfl
  generalize rowP 5 38 (P f 0) (S.data.toList.drop i) = PR at *
  clear hP hsr
  go_enter Tryz.func74, Tryz.ntmps74
  go_wp2
  go_loopg [7, 8] (S.size + 1) (fun q v7 v8 wr => ∃ (kk j n g c : Nat) (b : Bool) (L : List Cn), kk ≤ q ∧ n ≤ 4001 ∧ v7 = .slice (some ⟨g, 0, none⟩) L.length c ∧ v8 = .int .i64 (n : Int) ∧ Rw w rb S f wr j b g c L n ∧ (b = true → PR = none ∧ 1 ≤ n) ∧ (b = false → i ≤ j ∧ j ≤ S.size ∧ n ≤ j ∧ S.size - j < kk ∧ ∃ ts : List Tr, ts.length = n ∧ Ex L (flL ts) ∧ rowL 38 (P f 0) (S.size - i + 1) (S.data.toList.drop i) = (rowL 38 (P f 0) kk (S.data.toList.drop j)).map (fun x => (ts ++ x.1, x.2))))
  case atStart => exact ⟨S.size - i + 1, i, 0, w.heap.size, 0, false, [], by omega, by omega, rfl, rfl, HR0.out, (fun e => by cases e), fun _ => ⟨Nat.le_refl _, hi, Nat.zero_le _, by omega, [], rfl, .inl rfl, by simp⟩⟩
  case round =>
    clear HR0
    obtain ⟨kk, j, n, g, c, b, L, hkq, hn, rfl, rfl, hrw, hbt, hbf⟩ := hrel
    have HRO := Lib.hid hrw
    have hc2 := hrw.sr.c2
    have hgb := hrw.gb.2
    have hll := hrw.ll
    clear hrw
    cases b with
    | true =>
      obtain ⟨hE, hn1⟩ := hbt rfl
      have HE := Lib.hid hE
      clear hbt hbf hE
      by_cases hn2 : n < 2
      · have hn2' : (n : Int) < 2 := by omega
        obtain rfl : n = 1 := by omega
        have HF : Hid (SRes w wr rb S (f + 1) PR (.returned (.slice (some ⟨g, 0, none⟩) L.length c))) := HRO.out.fin1 (K := 5) ⟨fun _ => HE.out, fun e => by cases e⟩
        go_wp2
        go_ret
        exact HF.out
      · have hn2' : ¬ (n : Int) < 2 := by omega
        have HMK := Lib.hid (make_any 5 w.heap.size g c L wr HRO.out.oc (by omega) hgb)
        have HF : Hid (∀ e w', MkR 5 L wr w' e → Below wr.heap.size wr w' → SRes w w' rb S (f + 1) PR e) := fun e w' a b => HRO.out.fin2 (by omega) ⟨fun _ => HE.out, fun e => by cases e⟩ a b
        go_wp2_with (go_at_call 88; refine HMK.out.mono ?_; rintro e w9 ⟨hmk, hb⟩; have HFF := Lib.hid (HF.out _ _ hmk hb); have hE : ∃ v, e = .returned v := ⟨_, hmk.choose_spec.choose_spec.1⟩; obtain ⟨v9, rfl⟩ := hE; clear hmk hb)
        go_ret
        exact HFF.out
    | false =>
      obtain ⟨hij, hjS, hnj, hkk, ts, hts, hex, hrow⟩ := hbf rfl
      obtain ⟨k1, rfl⟩ : ∃ k1, kk = k1 + 1 := ⟨kk - 1, by omega⟩
      have HC := Lib.hid (HP.out S rb j d wr HRO.out.sr hs hjS (by omega) (by omega) (by omega))
      have HROW := Lib.hid hrow
      have HEX := Lib.hid hex
      have HTS := Lib.hid hts
      have HLT := Lib.hid HRO.out.sr.lt
      clear hbt hbf hrow hex hts
      obtain ⟨M, hM⟩ : ∃ M, P f 0 (S.data.toList.drop j) = M := ⟨_, rfl⟩
      have HM := Lib.hid hM
      rw [hM] at HC
      clear hM
      go_wp2_with (go_at_call 87; refine HC.out.mono ?_; rintro e w4 hres; obtain ⟨i4, b4, g4, c4, L4, rfl, h41, h42, h43⟩ := hres.rw HLT.out; clear hres; refine Hid.out ?_)
      refine Lib.hid ?_
      obtain ⟨g5, c5, W5, L5, hr5, hrw5, hex5⟩ := HRO.out.app h41 hn
      have HR5 := Lib.hid hrw5
      have HX5 := Lib.hid hex5
      have HPK := Lib.hid (peek_any S rb i4 b4 W5 hrw5.sr hs (by have := hrw5.il; omega))
      have H42 := Lib.hid h42
      have H43 := Lib.hid h43
      clear hrw5 hex5 h41 h42 h43 HC hc2 HLT HRO HP
      go_wp2_with (first
        | (at_builtin; refine wpList_plain rfl fun K hK => ?_; refine wp_appC _ _ rfl rfl rfl hr5 ?_; refine hK _ _ ?_)
        | (go_at_call 52; refine HPK.out.mono ?_; rintro e w6 hpk; obtain ⟨rfl, k6, h61, h62, h63, h64, h65⟩ := HR5.out.peek hpk; clear hpk; refine Hid.out ?_))
      refine Lib.hid ?_
      have HR6 := Lib.hid h65
      have H64 := Lib.hid h64
      obtain ⟨pv, hpv⟩ : ∃ pv, pkN (S.data.toList.drop i4) = pv := ⟨_, rfl⟩
      have HTK : Hid (tkB 38 (S.data.toList.drop i4) = decide (pv = 38)) := by show _ = _; rw [pk_tk (by decide), hpv]; rfl
      rw [hpv]
      have hc1 := h65.sr.c1
      have hf1 := h65.sr.f 1
      have hgb6 := h65.gb.2
      have hll6 := h65.ll
      clear hpv hr5 HPK HR5 h65 h64
      by_cases hps : pv = 38
      · have hps' : (pv : Int) = 38 := by omega
        have htk : tkB 38 (S.data.toList.drop i4) = true := by rw [HTK.out]; exact decide_eq_true hps
        obtain ⟨hdr, hk6⟩ := pk_drop htk H64.out
        have HS6 := Lib.hid (HR6.out.seti (k6 + 1) (by omega))
        have HDR := Lib.hid hdr
        have HTY := Lib.hid (tk_yes htk)
        have hwk : IntKind.i64.wrap ((k6 : Int) + 1) = ((k6 + 1 : Nat) : Int) := by rw [IntKind.wrap_i64]; omega
        clear htk hdr HTK hps
        go_wp2
        try rw [show ((k6 : Int) + 1) = ((k6 + 1 : Nat) : Int) by simp]
        go_roundg k1
        case measure => omega
        case rel =>
          refine ⟨k1, k6 + 1, n + 1, g5, c5, b4, L5, Nat.le_refl _, by omega, rfl, by go_num, HS6.out, fun hb => ⟨?_, by omega⟩, fun hb => ?_⟩
          · cases M with
            | none => rw [HRP.out, HROW.out, row_none HM.out]; rfl
            | some x => have := (H43.out x.1 x.2 rfl).1; rw [hb] at this; cases this
          · cases M with
            | none => have := H42.out rfl; rw [hb] at this; cases this
            | some x =>
              obtain ⟨t, r⟩ := x
              obtain ⟨_, e1, e2, e3⟩ := H43.out t r rfl
              have hl := P_lt f 0 _ t r HM.out
              rw [← e1, drop_len, drop_len] at hl
              refine ⟨by omega, hk6, by omega, by omega, ts ++ [t], by rw [List.length_append, HTS.out]; rfl, by rw [flL_app, flL_one]; exact HX5.out _ _ HEX.out e3, ?_⟩
              rw [HDR.out, HROW.out, HTY.out.2 (P f 0) k1 (S.data.toList.drop j) t (by rw [e1]; exact HM.out), Option.map_map]
              congr 1
              funext x
              simp
      · have hps' : ¬ (pv : Int) = 38 := by omega
        have htk : tkB 38 (S.data.toList.drop i4) = false := by rw [HTK.out]; exact decide_eq_false hps
        have HTN := Lib.hid (tk_no htk)
        have HFM : Hid ((b4 = true → PR = none) ∧ (b4 = false → ∃ ts : List Tr, PR = some (mkR 5 ts, S.data.toList.drop k6) ∧ k6 ≤ S.size ∧ ts.length = n + 1 ∧ Ex L5 (flL ts))) := by
          refine ⟨fun hb => ?_, fun hb => ?_⟩
          · cases M with
            | none => rw [HRP.out, HROW.out, row_none HM.out]; rfl
            | some x => have := (H43.out x.1 x.2 rfl).1; rw [hb] at this; cases this
          · cases M with
            | none => have := H42.out rfl; rw [hb] at this; cases this
            | some x =>
              obtain ⟨t, r⟩ := x
              obtain ⟨_, e1, e2, e3⟩ := H43.out t r rfl
              refine ⟨ts ++ [t], ?_, h63 e2, by rw [List.length_append, HTS.out]; rfl, by rw [flL_app, flL_one]; exact HX5.out _ _ HEX.out e3⟩
              rw [HRP.out, HROW.out, HTN.out.2 (P f 0) k1 (S.data.toList.drop j) t (by rw [e1]; exact HM.out), H64.out]
              rfl
        clear htk HTK hps
        by_cases hn2 : n + 1 < 2
        · have hn2' : (n : Int) + 1 < 2 := by omega
          obtain rfl : n = 0 := by omega
          have HF : Hid (SRes w w6 rb S (f + 1) PR (.returned (.slice (some ⟨g5, 0, none⟩) L5.length c5))) := HR6.out.fin1 (K := 5) HFM.out
          go_wp2
          go_ret
          exact HF.out
        · have hn2' : ¬ (n : Int) + 1 < 2 := by omega
          have HMK := Lib.hid (make_any 5 w.heap.size g5 c5 L5 w6 HR6.out.oc (by omega) hgb6)
          have HF : Hid (∀ e w', MkR 5 L5 w6 w' e → Below w6.heap.size w6 w' → SRes w w' rb S (f + 1) PR e) := fun e w' a b => HR6.out.fin2 (by omega) HFM.out a b
          go_wp2_with (go_at_call 88; refine HMK.out.mono ?_; rintro e w9 ⟨hmk, hb⟩; have HFF := Lib.hid (HF.out _ _ hmk hb); have hE : ∃ v, e = .returned v := ⟨_, hmk.choose_spec.choose_spec.1⟩; obtain ⟨v9, rfl⟩ := hE; clear hmk hb)
          go_ret
          exact HFF.out

set_option maxRecDepth 100000 in
set_option maxHeartbeats 4000000 in
theorem rowO_step (f : Nat) (hP : SCr 38 1 f) : SCr 124 2 (f + 1) := fun S rb i d w hsr hs hi hd hf hf2 => by
  rw [P_any]
  have hlt := hsr.lt
  have HP := Lib.hid hP
  have HRP : Hid (rowP 6 124 (P f 1) (S.data.toList.drop i) = (rowL 124 (P f 1) (S.size - i + 1) (S.data.toList.drop i)).map (fun x => (mkR 6 x.1, x.2))) := by show _ = _; unfold rowP; rw [drop_len]
  have HR0 : Hid (Rw w rb S f (w.alloc (.cells #[] 31)) i false w.heap.size 0 [] 0) :=
    ⟨hsr.to (Below.heap_alloc w _ rb hlt), ⟨rfl, rfl, rfl, by simp, fun j hj _ => Below.heap_alloc w _ j hj⟩, OC.nil w, hlt, by omega, (fun x hx => by simp at hx), by simp, Nat.le_refl _⟩
  have HPT : Hid (∀ j, P f 1 (S.data.toList.drop j) = P f 1 (S.data.toList.drop j)) := fun _ => rfl
  generalize rowP 6 124 (P f 1) (S.data.toList.drop i) = PR at *
  clear hP hsr
  go_enter Tryz.func74, Tryz.ntmps74
  go_wp2
  go_loopg [7, 8] (S.size + 1) (fun q v7 v8 wr => ∃ (kk j n g c : Nat) (b : Bool) (L : List Cn), kk ≤ q ∧ n ≤ 4001 ∧ v7 = .slice (some ⟨g, 0, none⟩) L.length c ∧ v8 = .int .i64 (n : Int) ∧ Rw w rb S f wr j b g c L n ∧ (b = true → PR = none ∧ 1 ≤ n) ∧ (b = false → i ≤ j ∧ j ≤ S.size ∧ n ≤ j ∧ S.size - j < kk ∧ ∃ ts : List Tr, ts.length = n ∧ Ex L (flL ts) ∧ rowL 124 (P f 1) (S.size - i + 1) (S.data.toList.drop i) = (rowL 124 (P f 1) kk (S.data.toList.drop j)).map (fun x => (ts ++ x.1, x.2))))
  case atStart => exact ⟨S.size - i + 1, i, 0, w.heap.size, 0, false, [], by omega, by omega, rfl, rfl, HR0.out, (fun e => by cases e), fun _ => ⟨Nat.le_refl _, hi, Nat.zero_le _, by omega, [], rfl, .inl rfl, by simp⟩⟩
  case round =>
    clear HR0
    obtain ⟨kk, j, n, g, c, b, L, hkq, hn, rfl, rfl, hrw, hbt, hbf⟩ := hrel
    have HRO := Lib.hid hrw
    have hc2 := hrw.sr.c2
    have hgb := hrw.gb.2
    have hll := hrw.ll
    clear hrw
    cases b with
    | true =>
      obtain ⟨hE, hn1⟩ := hbt rfl
      have HE := Lib.hid hE
      clear hbt hbf hE
      by_cases hn2 : n < 2
      · have hn2' : (n : Int) < 2 := by omega
        obtain rfl : n = 1 := by omega
        have HF : Hid (SRes w wr rb S (f + 1) PR (.returned (.slice (some ⟨g, 0, none⟩) L.length c))) := HRO.out.fin1 (K := 6) ⟨fun _ => HE.out, fun e => by cases e⟩
        go_wp2
        go_ret
        exact HF.out
      · have hn2' : ¬ (n : Int) < 2 := by omega
        have HMK := Lib.hid (make_any 6 w.heap.size g c L wr HRO.out.oc (by omega) hgb)
        have HF : Hid (∀ e w', MkR 6 L wr w' e → Below wr.heap.size wr w' → SRes w w' rb S (f + 1) PR e) := fun e w' a b => HRO.out.fin2 (by omega) ⟨fun _ => HE.out, fun e => by cases e⟩ a b
        go_wp2_with (go_at_call 88; refine HMK.out.mono ?_; rintro e w9 ⟨hmk, hb⟩; have HFF := Lib.hid (HF.out _ _ hmk hb); have hE : ∃ v, e = .returned v := ⟨_, hmk.choose_spec.choose_spec.1⟩; obtain ⟨v9, rfl⟩ := hE; clear hmk hb)
        go_ret
        exact HFF.out
    | false =>
      obtain ⟨hij, hjS, hnj, hkk, ts, hts, hex, hrow⟩ := hbf rfl
      obtain ⟨k1, rfl⟩ : ∃ k1, kk = k1 + 1 := ⟨kk - 1, by omega⟩
      have HC := Lib.hid (HP.out S rb j d wr HRO.out.sr hs hjS (by omega) (by omega) (by omega))
      have HROW := Lib.hid hrow
      have HEX := Lib.hid hex
      have HTS := Lib.hid hts
      have HLT := Lib.hid HRO.out.sr.lt
      clear hbt hbf hrow hex hts
      obtain ⟨M, hM⟩ : ∃ M, P f 1 (S.data.toList.drop j) = M := ⟨_, rfl⟩
      have HM := Lib.hid hM
      rw [hM] at HC
      clear hM
      go_wp2_with (go_at_call 74; refine HC.out.mono ?_; rintro e w4 hres; obtain ⟨i4, b4, g4, c4, L4, rfl, h41, h42, h43⟩ := hres.rw HLT.out; clear hres; refine Hid.out ?_)
      refine Lib.hid ?_
      obtain ⟨g5, c5, W5, L5, hr5, hrw5, hex5⟩ := HRO.out.app h41 hn
      have HR5 := Lib.hid hrw5
      have HX5 := Lib.hid hex5
      have HPK := Lib.hid (peek_any S rb i4 b4 W5 hrw5.sr hs (by have := hrw5.il; omega))
      have H42 := Lib.hid h42
      have H43 := Lib.hid h43
      clear hrw5 hex5 h41 h42 h43 HC hc2 HLT HRO HP
      go_wp2_with (first
        | (at_builtin; refine wpList_plain rfl fun K hK => ?_; refine wp_appC _ _ rfl rfl rfl hr5 ?_; refine hK _ _ ?_)
        | (go_at_call 52; refine HPK.out.mono ?_; rintro e w6 hpk; obtain ⟨rfl, k6, h61, h62, h63, h64, h65⟩ := HR5.out.peek hpk; clear hpk; refine Hid.out ?_))
      refine Lib.hid ?_
      have HR6 := Lib.hid h65
      have H64 := Lib.hid h64
      obtain ⟨pv, hpv⟩ : ∃ pv, pkN (S.data.toList.drop i4) = pv := ⟨_, rfl⟩
      have HTK : Hid (tkB 124 (S.data.toList.drop i4) = decide (pv = 124)) := by show _ = _; rw [pk_tk (by decide), hpv]; rfl
      rw [hpv]
      have hc1 := h65.sr.c1
      have hf1 := h65.sr.f 1
      have hgb6 := h65.gb.2
      have hll6 := h65.ll
      clear hpv hr5 HPK HR5 h65 h64
      by_cases hps : pv = 124
      · have hps' : (pv : Int) = 124 := by omega
        have htk : tkB 124 (S.data.toList.drop i4) = true := by rw [HTK.out]; exact decide_eq_true hps
        obtain ⟨hdr, hk6⟩ := pk_drop htk H64.out
        have HS6 := Lib.hid (HR6.out.seti (k6 + 1) (by omega))
        have HDR := Lib.hid hdr
        have HTY := Lib.hid (tk_yes htk)
        have hwk : IntKind.i64.wrap ((k6 : Int) + 1) = ((k6 + 1 : Nat) : Int) := by rw [IntKind.wrap_i64]; omega
        clear htk hdr HTK hps
        go_wp2
        try rw [show ((k6 : Int) + 1) = ((k6 + 1 : Nat) : Int) by simp]
        go_roundg k1
        case measure => omega
        case rel =>
          refine ⟨k1, k6 + 1, n + 1, g5, c5, b4, L5, Nat.le_refl _, by omega, rfl, by go_num, HS6.out, fun hb => ⟨?_, by omega⟩, fun hb => ?_⟩
          · cases M with
            | none => rw [HRP.out, HROW.out, row_none HM.out]; rfl
            | some x => have := (H43.out x.1 x.2 rfl).1; rw [hb] at this; cases this
          · cases M with
            | none => have := H42.out rfl; rw [hb] at this; cases this
            | some x =>
              obtain ⟨t, r⟩ := x
              obtain ⟨_, e1, e2, e3⟩ := H43.out t r rfl
              have hl := P_lt f 1 _ t r HM.out
              rw [← e1, drop_len, drop_len] at hl
              refine ⟨by omega, hk6, by omega, by omega, ts ++ [t], by rw [List.length_append, HTS.out]; rfl, by rw [flL_app, flL_one]; exact HX5.out _ _ HEX.out e3, ?_⟩
              rw [HDR.out, HROW.out, HTY.out.2 (P f 1) k1 (S.data.toList.drop j) t (by rw [e1]; exact HM.out), Option.map_map]
              congr 1
              funext x
              simp
      · have hps' : ¬ (pv : Int) = 124 := by omega
        have htk : tkB 124 (S.data.toList.drop i4) = false := by rw [HTK.out]; exact decide_eq_false hps
        have HTN := Lib.hid (tk_no htk)
        have HFM : Hid ((b4 = true → PR = none) ∧ (b4 = false → ∃ ts : List Tr, PR = some (mkR 6 ts, S.data.toList.drop k6) ∧ k6 ≤ S.size ∧ ts.length = n + 1 ∧ Ex L5 (flL ts))) := by
          refine ⟨fun hb => ?_, fun hb => ?_⟩
          · cases M with
            | none => rw [HRP.out, HROW.out, row_none HM.out]; rfl
            | some x => have := (H43.out x.1 x.2 rfl).1; rw [hb] at this; cases this
          · cases M with
            | none => have := H42.out rfl; rw [hb] at this; cases this
            | some x =>
              obtain ⟨t, r⟩ := x
              obtain ⟨_, e1, e2, e3⟩ := H43.out t r rfl
              refine ⟨ts ++ [t], ?_, h63 e2, by rw [List.length_append, HTS.out]; rfl, by rw [flL_app, flL_one]; exact HX5.out _ _ HEX.out e3⟩
              rw [HRP.out, HROW.out, HTN.out.2 (P f 1) k1 (S.data.toList.drop j) t (by rw [e1]; exact HM.out), H64.out]
              rfl
        clear htk HTK hps
        by_cases hn2 : n + 1 < 2
        · have hn2' : (n : Int) + 1 < 2 := by omega
          obtain rfl : n = 0 := by omega
          have HF : Hid (SRes w w6 rb S (f + 1) PR (.returned (.slice (some ⟨g5, 0, none⟩) L5.length c5))) := HR6.out.fin1 (K := 6) HFM.out
          go_wp2
          go_ret
          exact HF.out
        · have hn2' : ¬ (n : Int) + 1 < 2 := by omega
          have HMK := Lib.hid (make_any 6 w.heap.size g5 c5 L5 w6 HR6.out.oc (by omega) hgb6)
          have HF : Hid (∀ e w', MkR 6 L5 w6 w' e → Below w6.heap.size w6 w' → SRes w w' rb S (f + 1) PR e) := fun e w' a b => HR6.out.fin2 (by omega) HFM.out a b
          go_wp2_with (go_at_call 88; refine HMK.out.mono ?_; rintro e w9 ⟨hmk, hb⟩; have HFF := Lib.hid (HF.out _ _ hmk hb); have hE : ∃ v, e = .returned v := ⟨_, hmk.choose_spec.choose_spec.1⟩; obtain ⟨v9, rfl⟩ := hE; clear hmk hb)
          go_ret
          exact HFF.out

set_option maxRecDepth 100000 in
theorem sany_step (f : Nat) (h : SCr 124 2 f) : SC2 f := fun S rb i d w hsr hs hi hd hf hf2 => by
  have HR := Lib.hid (h S rb i d w hsr hs hi hd hf hf2)
  have hd' : ¬ (4000 : Int) < (d : Int) := by omega
  obtain ⟨M, hM⟩ : ∃ M, P f 2 (S.data.toList.drop i) = M := ⟨_, rfl⟩
  rw [hM] at HR ⊢
  clear h hsr hM
  go_enter Tryz.func51, Tryz.ntmps51
  go_wp2_with (go_at_call 74; refine HR.out.mono ?_; rintro e w1 hres; have hE : ∃ v, e = .returned v := (by obtain ⟨_, _, _, _, _, e1, _⟩ := hres.rd; exact ⟨_, e1⟩); obtain ⟨v, rfl⟩ := hE; have HRS := Lib.hid hres; clear hres)
  go_ret
  exact HRS.out
end Go.Proofs.YtnhddnfobcofcaaGreatDoor.cr

namespace Go.Proofs.YtnhddnfobcofcaaGreatDoor.cr
open Go.ChangeShapes Go.WideShapes Go.ChangeAt Go.RowKit Go.Deep
open cd (Tr Cn infoE)
set_option linter.unusedVariables false
set_option linter.unusedSimpArgs false

/-! ### The specification's reader: nots, brackets, words -/

theorem pk_cons {S : ByteArray} {k : Nat} {c : UInt8} {l q : List UInt8} (h : skip l = c :: q) (hk : S.data.toList.drop k = skip l) : S.data.toList.drop (k + 1) = q ∧ k + 1 ≤ S.size := by
  rw [h] at hk
  refine ⟨by rw [← List.drop_drop, hk]; rfl, ?_⟩
  have := congrArg List.length hk
  rw [drop_len] at this
  simp at this
  omega
theorem pk_first {l q : List UInt8} {c : UInt8} (h : skip l = c :: q) : pkN l = c.toNat := by unfold pkN; rw [h]

set_option maxRecDepth 100000 in
set_option maxHeartbeats 4000000 in
theorem one_not (f : Nat) (h0 : SC1 f) (S : ByteArray) (rb i d : Nat) (w : World) (hsr : Sr w rb S i false) (hs : S.size ≤ 4000) (hi : i ≤ S.size) (hd : d ≤ i) (hf : 3 * (S.size - i) + 0 + 1 ≤ f + 1) (hf2 : f + 1 ≤ 20000) (q : List UInt8) (hL : skip (S.data.toList.drop i) = 33 :: q) :
    Calls Tryz.prog 87 #[.pointer (some ⟨rb, 0, none⟩), .int .i64 (d : Int)] w fun e w' => SRes w w' rb S (f + 1) (P (f + 1) 0 (S.data.toList.drop i)) e := by
  rw [P_one]
  have HE : Hid (oneP (P f 0) (P f 2) (S.data.toList.drop i) = (P f 0 q).map (fun x => (.mk 4 (bA []) [x.1], x.2))) := by show _ = _; unfold oneP; rw [hL]; rfl
  rw [HE.out]
  have hlt := hsr.lt
  have HPK := Lib.hid (peek_any S rb i false w hsr hs (by omega))
  have HPF : Hid (pkN (S.data.toList.drop i) = 33) := pk_first hL
  have HL := Lib.hid hL
  have H0 := Lib.hid h0
  obtain ⟨M, hM⟩ : ∃ M, P f 0 q = M := ⟨_, rfl⟩
  rw [hM]
  have HM := Lib.hid hM
  clear hL hsr h0 HE hM
  go_enter Tryz.func87, Tryz.ntmps87
  go_wp2_with (go_at_call 52; refine HPK.out.mono ?_; rintro e w1 hpk; obtain ⟨rfl, hg1, hz1, k, hk1, hk2, hk3, hk4, hsr1⟩ := hpk; rw [HPF.out]; refine Hid.out ?_)
  refine Lib.hid ?_
  obtain ⟨hdr, hkS⟩ := pk_cons HL.out hk4
  have HS2 := Lib.hid (hsr1.seti (k + 1))
  have HG2 := Lib.hid (gr_trans hg1 (gr_set w1 rb 1 (.int .i64 ((k + 1 : Nat) : Int))))
  have HO := Lib.hid (H0.out S rb (k + 1) (d + 1) _ HS2.out hs hkS (by omega) (by omega) (by omega))
  rw [hdr, HM.out] at HO
  have hc1 := hsr1.c1
  have hf1 := hsr1.f 1
  have HLT := Lib.hid HS2.out.lt
  have hwk : IntKind.i64.wrap ((k : Int) + 1) = ((k + 1 : Nat) : Int) := by rw [IntKind.wrap_i64]; omega
  have hwd : IntKind.i64.wrap ((d : Int) + 1) = ((d + 1 : Nat) : Int) := by rw [IntKind.wrap_i64]; omega
  have eK : ((k + 1 : Nat) : Int) = (k : Int) + 1 := by simp
  have eD : ((d + 1 : Nat) : Int) = (d : Int) + 1 := by simp
  rw [eK] at HO HS2 HG2 HLT
  rw [eD] at HO
  obtain ⟨W2, hW2⟩ : ∃ W2, W2 = w1.setCell ⟨rb, 1, none⟩ (.int .i64 ((k : Int) + 1)) := ⟨_, rfl⟩
  rw [← hW2] at HO HS2 HG2 HLT
  have HW2 := Lib.hid hW2
  clear hW2 hsr1 hdr hk4 HM HL H0 HPK HPF
  go_upto_region 4 with fail
  rw [← HW2.out]
  clear hc1 hf1
  go_wp2_with (go_at_call 87; refine HO.out.mono ?_; rintro e w4 hres; obtain ⟨i4, b4, g4, c4, L4, rfl, h41, h42, h43⟩ := hres.rw HLT.out; clear hres; refine Hid.out ?_)
  refine Lib.hid ?_
  have HR4 := Lib.hid (h41.pre HG2.out hlt)
  have HMK := Lib.hid (make_any 4 _ g4 c4 L4 w4 h41.oc (by have := h41.ll; omega) h41.gb.2)
  have HF : Hid (∀ e w', MkR 4 L4 w4 w' e → Below w4.heap.size w4 w' → SRes w w' rb S (f + 1) (M.map (fun x => (.mk 4 (bA []) [x.1], x.2))) e) := fun e w' a b => by
    obtain ⟨g', c', L', rfl, k1, k2⟩ := HR4.out.made a b
    refine (k1.up (Nat.le_succ f)).done ⟨fun hb => ?_, fun hb => ?_⟩
    · cases M with
      | none => rfl
      | some x => have := (h43 x.1 x.2 rfl).1; rw [hb] at this; cases this
    · cases M with
      | none => have := h42 rfl; rw [hb] at this; cases this
      | some x =>
        obtain ⟨t, r⟩ := x
        obtain ⟨_, e1, e2, e3⟩ := h43 t r rfl
        refine ⟨.mk 4 (bA []) [t], by rw [e1]; rfl, e2, ?_⟩
        rw [fl_eq, flL_one]
        exact k2 _ e3
  clear h41 h42 h43 HO
  go_wp2_with (go_at_call 88; refine HMK.out.mono ?_; rintro e w9 ⟨hmk, hb⟩; have HFF := Lib.hid (HF.out _ _ hmk hb); have hE : ∃ v, e = .returned v := ⟨_, hmk.choose_spec.choose_spec.1⟩; obtain ⟨v9, rfl⟩ := hE; clear hmk hb)
  go_ret
  exact HFF.out

set_option maxRecDepth 100000 in
set_option maxHeartbeats 4000000 in
theorem one_brk (f : Nat) (h2 : SC2 f) (S : ByteArray) (rb i d : Nat) (w : World) (hsr : Sr w rb S i false) (hs : S.size ≤ 4000) (hi : i ≤ S.size) (hd : d ≤ i) (hf : 3 * (S.size - i) + 0 + 1 ≤ f + 1) (hf2 : f + 1 ≤ 20000) (q : List UInt8) (hL : skip (S.data.toList.drop i) = 40 :: q) :
    Calls Tryz.prog 87 #[.pointer (some ⟨rb, 0, none⟩), .int .i64 (d : Int)] w fun e w' => SRes w w' rb S (f + 1) (P (f + 1) 0 (S.data.toList.drop i)) e := by
  rw [P_one]
  have HE := Lib.hid (one_br (p0 := P f 0) (p2 := P f 2) hL)
  obtain ⟨R, hR⟩ : ∃ R, oneP (P f 0) (P f 2) (S.data.toList.drop i) = R := ⟨_, rfl⟩
  rw [hR] at HE ⊢
  have hlt := hsr.lt
  have HPK := Lib.hid (peek_any S rb i false w hsr hs (by omega))
  have HPF : Hid (pkN (S.data.toList.drop i) = 40) := pk_first hL
  have HL := Lib.hid hL
  have H2 := Lib.hid h2
  obtain ⟨M, hM⟩ : ∃ M, P f 2 q = M := ⟨_, rfl⟩
  rw [hM] at HE
  have HM := Lib.hid hM
  clear hL hsr h2 hM hR
  go_enter Tryz.func87, Tryz.ntmps87
  go_wp2_with (go_at_call 52; refine HPK.out.mono ?_; rintro e w1 hpk; obtain ⟨rfl, hg1, hz1, k, hk1, hk2, hk3, hk4, hsr1⟩ := hpk; rw [HPF.out]; refine Hid.out ?_)
  refine Lib.hid ?_
  obtain ⟨hdr, hkS⟩ := pk_cons HL.out hk4
  have HS2 := Lib.hid (hsr1.seti (k + 1))
  have HG2 := Lib.hid (gr_trans hg1 (gr_set w1 rb 1 (.int .i64 ((k + 1 : Nat) : Int))))
  have HO := Lib.hid (H2.out S rb (k + 1) (d + 1) _ HS2.out hs hkS (by omega) (by omega) (by omega))
  rw [hdr, HM.out] at HO
  have hc1 := hsr1.c1
  have hf1 := hsr1.f 1
  have HLT := Lib.hid HS2.out.lt
  have hwk : IntKind.i64.wrap ((k : Int) + 1) = ((k + 1 : Nat) : Int) := by rw [IntKind.wrap_i64]; omega
  have hwd : IntKind.i64.wrap ((d : Int) + 1) = ((d + 1 : Nat) : Int) := by rw [IntKind.wrap_i64]; omega
  have eK : ((k + 1 : Nat) : Int) = (k : Int) + 1 := by simp
  have eD : ((d + 1 : Nat) : Int) = (d : Int) + 1 := by simp
  rw [eK] at HO HS2 HG2 HLT
  rw [eD] at HO
  obtain ⟨W2, hW2⟩ : ∃ W2, W2 = w1.setCell ⟨rb, 1, none⟩ (.int .i64 ((k : Int) + 1)) := ⟨_, rfl⟩
  rw [← hW2] at HO HS2 HG2 HLT
  have HW2 := Lib.hid hW2
  clear hW2 hsr1 hdr hk4 HM HL H2 HPK HPF
  go_upto_region 7 with fail
  rw [← HW2.out]
  clear hc1 hf1
  go_wp2_with (go_at_call 51; refine HO.out.mono ?_; rintro e w4 hres; obtain ⟨i4, b4, g4, c4, L4, rfl, h41, h42, h43⟩ := hres.rw HLT.out; clear hres; refine Hid.out ?_)
  refine Lib.hid ?_
  have HR4 := Lib.hid (h41.pre HG2.out hlt)
  have HPK2 := Lib.hid (peek_any S rb i4 b4 w4 h41.sr hs (by have := h41.il; omega))
  have H42 := Lib.hid h42
  have H43 := Lib.hid h43
  clear h41 h42 h43 HO
  go_wp2_with (go_at_call 52; refine HPK2.out.mono ?_; rintro e w6 hpk; obtain ⟨rfl, k6, h61, h62, h63, h64, h65⟩ := HR4.out.peek hpk; clear hpk; refine Hid.out ?_)
  refine Lib.hid ?_
  have HR6 := Lib.hid h65
  have H64 := Lib.hid h64
  obtain ⟨pv, hpv⟩ : ∃ pv, pkN (S.data.toList.drop i4) = pv := ⟨_, rfl⟩
  have HPV := Lib.hid hpv
  rw [hpv]
  have hwk6 : IntKind.i64.wrap ((k6 : Int) + 1) = ((k6 + 1 : Nat) : Int) := by rw [IntKind.wrap_i64]; omega
  have eK6 : ((k6 + 1 : Nat) : Int) = (k6 : Int) + 1 := by simp
  by_cases hps : pv = 41
  · have hps' : (pv : Int) = 41 := by omega
    have hc6 := h65.sr.c1
    have hf6 := h65.sr.f 1
    have hcl : ∀ t r, S.data.toList.drop i4 = r → clP t r = some (t, S.data.toList.drop (k6 + 1)) ∧ k6 + 1 ≤ S.size := fun t r e => by
      subst e
      cases hq : skip (S.data.toList.drop i4) with
      | nil => have h9 := HPV.out; unfold pkN at h9; rw [hq] at h9; simp at h9; omega
      | cons x y =>
        have h9 := pk_first hq
        have hx : x = 41 := UInt8.toNat_inj.1 (by rw [← h9, HPV.out, hps]; rfl)
        obtain ⟨a1, a2⟩ := pk_cons hq H64.out
        rw [clP_cons hq, if_pos hx, a1]
        exact ⟨rfl, a2⟩
    have hy1 : b4 = true → R = none := fun hb => by
      cases M with
      | none => exact HE.out.1 rfl
      | some x => have := (H43.out x.1 x.2 rfl).1; rw [hb] at this; cases this
    have hy2 : b4 = false → ∃ t, R = some (t, S.data.toList.drop (k6 + 1)) ∧ k6 + 1 ≤ S.size ∧ Ex L4 (fl t) := fun hb => by
      cases M with
      | none => have := H42.out rfl; rw [hb] at this; cases this
      | some x =>
        obtain ⟨t, r⟩ := x
        obtain ⟨_, e1, e2, e3⟩ := H43.out t r rfl
        obtain ⟨a1, a2⟩ := hcl t r e1
        exact ⟨t, by rw [HE.out.2 t r rfl, a1], a2, e3⟩
    have HFF := Lib.hid ((Rw.seti (HR6.out.up (Nat.le_succ f)) (k6 + 1) (by omega)).done (m := R) ⟨hy1, hy2⟩)
    rw [eK6] at HFF
    clear h64 h65 hpv hcl hps hy1 hy2
    go_wp2
    go_ret
    exact HFF.out
  · have hps' : ¬ (pv : Int) = 41 := by omega
    have hc6 : ∃ u, w6.cell? ⟨rb, 2, none⟩ = some u := ⟨_, h65.sr.c2⟩
    obtain ⟨u6, hc6⟩ := hc6
    have hf6 := h65.sr.f 2
    have HB6 := Lib.hid (h65.setb true)
    have hc7 := HB6.out.sr.c1
    have hf7 := HB6.out.sr.f 1
    have hno : R = none := by
      cases M with
      | none => exact HE.out.1 rfl
      | some x =>
        obtain ⟨t, r⟩ := x
        obtain ⟨_, e1, e2, e3⟩ := H43.out t r rfl
        rw [HE.out.2 t r rfl]
        subst e1
        cases hq : skip (S.data.toList.drop i4) with
        | nil => exact clP_nil hq
        | cons x y =>
          have h9 := pk_first hq
          rw [clP_cons hq, if_neg (fun e => hps (by rw [← HPV.out, h9, e]; rfl))]
    have HFF := Lib.hid ((Rw.seti (HB6.out.up (Nat.le_succ f)) (k6 + 1) (by omega)).done (m := R) ⟨fun _ => hno, fun hb => by cases hb⟩)
    rw [eK6] at HFF
    clear h64 h65 hpv hps hno
    go_wp2
    go_ret
    exact HFF.out
end Go.Proofs.YtnhddnfobcofcaaGreatDoor.cr
