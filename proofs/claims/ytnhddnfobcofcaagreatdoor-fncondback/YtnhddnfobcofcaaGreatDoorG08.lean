import Derived.Test.YtnhddnfobcofcaaGreatDoorG06
import Derived.Test.YtnhddnfobcofcaaGreatDoorG02
import Derived.Test.YtnhddnfobcofcaaGreatDoorRows
import Derived.Test.YtnhddnfobcofcaaGreatDoorG01
import Derived.Deep.QuietTactic
import Derived.BigQuiet
import Derived.Test.YtnhddnfobcofcaaGreatDoorG03
import Derived.Maps.Own
import Derived.Maps.OwnOps
import Derived.Maps.Views
import Derived.Maps.OwnSet
import Derived.Handy
import Derived.Test.YtnhddnfobcofcaaGreatDoorG07
namespace Go.Proofs.YtnhddnfobcofcaaGreatDoor.cr
open Go.ChangeShapes Go.WideShapes Go.ChangeAt Go.RowKit Go.Deep
open cd (Tr Cn Nd PsO Btw)
set_option linter.unusedVariables false
set_option linter.unusedSimpArgs false

/-! ### What is read is small; impl.ReadCond -/

/-- What a reader of a part makes is small. -/
def Sm (p : Pz) : Prop := ∀ l t r, p l = some (t, r) → (fl t).length + 1 + 2 * r.length ≤ 2 * l.length ∧ ∀ c ∈ fl t, c.name.size ≤ 60
theorem leaf_fl (k : Int) (n : ByteArray) : fl (.mk k n []) = [⟨k, n, 0⟩] := by rw [fl_eq]; rfl
theorem wd_sm : Sm wd := fun l t r h => by
  have hlt := wd_lt h
  unfold wd at h
  simp only at h
  split at h
  · cases h; rw [leaf_fl]; refine ⟨by simp; omega, fun c hc => ?_⟩; rw [List.mem_singleton.1 hc]; rw [bA_size]; simp
  · split at h
    · cases h; rw [leaf_fl]; refine ⟨by simp; omega, fun c hc => ?_⟩; rw [List.mem_singleton.1 hc]; rw [bA_size]; simp
    · split at h
      · rename_i h1
        cases h
        rw [leaf_fl]
        refine ⟨by simp; omega, fun c hc => ?_⟩
        rw [List.mem_singleton.1 hc]
        unfold nm.nameB at h1
        simp only [Bool.and_eq_true, decide_eq_true_eq] at h1
        exact h1.1.1.2
      · cases h
theorem rowL_sm {sign : UInt8} {p : Pz} (hp : Sm p) : ∀ k l ts r, rowL sign p k l = some (ts, r) → (flL ts).length + ts.length + 2 * r.length ≤ 2 * l.length ∧ (∀ c ∈ flL ts, c.name.size ≤ 60) ∧ 0 < ts.length
  | 0, l, ts, r, h => by simp [rowL] at h
  | k + 1, l, ts, r, h => by
    unfold rowL at h
    cases hq : p l with
    | none => rw [hq] at h; simp at h
    | some x =>
      obtain ⟨t, r1⟩ := x
      obtain ⟨h1, hn⟩ := hp l t r1 hq
      have h2 := skip_len r1
      rw [hq] at h
      simp only at h
      cases hs : skip r1 with
      | nil =>
        rw [hs] at h
        simp at h
        obtain ⟨rfl, rfl⟩ := h
        rw [flL_one]
        exact ⟨by simp; omega, hn, by simp⟩
      | cons c q =>
        rw [hs] at h h2
        simp only at h
        split at h
        · rw [Option.map_eq_some_iff] at h
          obtain ⟨y, hy, e⟩ := h
          cases e
          obtain ⟨a1, a2, a3⟩ := rowL_sm hp k q y.1 y.2 hy
          simp only [List.length_cons] at h2
          refine ⟨?_, fun c hc => ?_, by simp⟩
          · rw [flL_cons, List.length_append, List.length_cons]; omega
          · rw [flL_cons] at hc
            rcases List.mem_append.1 hc with hc | hc
            · exact hn c hc
            · exact a2 c hc
        · cases h
          rw [flL_one]
          exact ⟨by simp at h2 ⊢; omega, hn, by simp⟩
theorem one_sm {p0 p2 : Pz} (h0 : Sm p0) (h2 : Sm p2) : Sm (oneP p0 p2) := fun l t r h => by
  have hl := skip_len l
  unfold oneP at h
  cases hs : skip l with
  | nil =>
    rw [hs] at h
    have := wd_sm [] t r h
    exact ⟨by have := this.1; simp at this, this.2⟩
  | cons c q =>
    rw [hs] at h hl
    simp only at h
    simp at hl
    split at h
    · rw [Option.map_eq_some_iff] at h
      obtain ⟨x, hx, e⟩ := h
      cases e
      obtain ⟨a1, a2⟩ := h0 q x.1 x.2 hx
      rw [fl_eq, flL_one]
      refine ⟨by simp; omega, fun c hc => ?_⟩
      rcases List.mem_cons.1 hc with rfl | hc
      · rw [bA_size]; simp
      · exact a2 c hc
    · split at h
      · cases hp : p2 q with
        | none => rw [hp] at h; simp at h
        | some x =>
          obtain ⟨t1, r1⟩ := x
          obtain ⟨a1, a2⟩ := h2 q t1 r1 hp
          have h3 := skip_len r1
          rw [hp] at h
          simp only at h
          cases hs2 : skip r1 with
          | nil => rw [hs2] at h; simp at h
          | cons d s =>
            rw [hs2] at h h3
            simp only at h
            split at h
            · cases h; simp at h3; exact ⟨by omega, a2⟩
            · cases h
      · have := wd_sm (c :: q) t r h
        exact ⟨by have := this.1; simp at this; omega, this.2⟩
theorem row_sm {kind : Int} {sign : UInt8} {p : Pz} (h0 : Sm p) : Sm (rowP kind sign p) := fun l t r h => by
  unfold rowP at h
  rw [Option.map_eq_some_iff] at h
  obtain ⟨x, hx, e⟩ := h
  cases e
  obtain ⟨a1, a2, a3⟩ := rowL_sm h0 _ l x.1 x.2 hx
  by_cases h1 : x.1.length = 1
  · obtain ⟨y, hy⟩ := List.length_eq_one_iff.1 h1
    rw [hy] at a1 a2 ⊢
    rw [flL_one] at a1 a2
    exact ⟨by simp at a1; exact a1, a2⟩
  · rw [mkR_many h1, fl_eq]
    refine ⟨by rw [List.length_cons]; omega, fun c hc => ?_⟩
    rcases List.mem_cons.1 hc with rfl | hc
    · rw [bA_size]; simp
    · exact a2 c hc
theorem P_sm : ∀ f lv, Sm (P f lv)
  | 0, lv => fun l t r h => by simp [P] at h
  | f + 1, lv => fun l t r h => by
    unfold P at h
    split at h
    · exact one_sm (P_sm f 0) (P_sm f 2) l t r h
    · split at h
      · exact row_sm (P_sm f 0) l t r h
      · exact row_sm (P_sm f 1) l t r h

def cnE (l : List Cn) (i : Nat) : Cn := (l[i]?).getD ⟨0, bA [], 0⟩
theorem cnE_some {l : List Cn} {i : Nat} (h : i < l.length) : l[i]? = some (cnE l i) := by unfold cnE; rw [List.getElem?_eq_getElem h]; rfl
/-- Is the list one that can be? -/
def okL (l : List Cn) : Bool := cd.okAll (cnE l) l.length
/-- THE ANSWER of both. -/
def rcB (s : List UInt8) : Option (List Cn) := match P 12003 2 s with
  | none => none
  | some (t, r) => if (skip r).isEmpty = true ∧ okL (fl t) = true then some (fl t) else none
def rcO (S : ByteArray) : Option (List Cn) := if S.size ≤ 4000 then rcB S.data.toList else none
def rcL (S : ByteArray) : List Cn := (rcO S).getD []
def rcK (S : ByteArray) : Bool := (rcO S).isSome
theorem OC.xs {B : Nat} {w : World} {g c : Nat} {l : List Cn} (h : OC B w (.slice (some ⟨g, 0, none⟩) l.length c) l) : cd.XsB w g l.length (cnE l) ∧ l.length ≤ c ∧ c ≤ maxLen := by
  rcases h.2 with ⟨h1, _⟩ | ⟨g', c', cur, h1, h2, h3, h4, h5, _⟩
  · cases h1
  · cases h1
    refine ⟨fun i hi => ?_, h4, h5⟩
    have hc := World.ownsRow.cells h (g := g) rfl
    obtain ⟨k1, k2, k3⟩ := cnV_at (cnE_some hi)
    have at_ : ∀ j u, (cnV l)[j]? = some u → w.cell? ⟨g, j, none⟩ = some u := fun j u hj => by
      have := hc j u hj
      rw [addr_add, Nat.zero_add] at this
      exact this
    exact ⟨at_ _ _ k1, at_ _ _ k2, at_ _ _ k3⟩
theorem OC.nil (w : World) : OC w.heap.size (w.alloc (.cells #[] 31)) (.slice (some ⟨w.heap.size, 0, none⟩) 0 0) [] := World.ownsRow_made w #[] 0 (Nat.le_refl _) (Nat.zero_le _) rfl
theorem OC.at_ {B : Nat} {w : World} {v : Value} {l : List Cn} (h : OC B w v l) (h0 : 0 < l.length) : ∃ g c, v = .slice (some ⟨g, 0, none⟩) l.length c := by
  rcases h.2 with ⟨_, h1⟩ | ⟨g, c, _, e, _⟩
  · omega
  · exact ⟨g, c, e⟩
theorem OC.mono {B B' : Nat} {w : World} {v : Value} {l : List Cn} (h : OC B w v l) (hb : B' ≤ B) : OC B' w v l := by
  refine ⟨h.1, ?_⟩
  rcases h.2 with h1 | ⟨g, c, cur, e, h2, h3⟩
  · exact .inl h1
  · exact .inr ⟨g, c, cur, e, Nat.le_trans hb h2, h3⟩
/-- What ReadCond answers. -/
def RcR (S : ByteArray) (w w' : World) (e : Ending) : Prop := ∃ g c, e = .returned (.tuple #[.slice (some ⟨g, 0, none⟩) (rcL S).length c, .bool (rcK S)]) ∧ OC w.heap.size w' (.slice (some ⟨g, 0, none⟩) (rcL S).length c) (rcL S)
theorem rcr_no {S : ByteArray} {w W : World} (h : rcO S = none) (hb : w.heap.size ≤ W.heap.size) : RcR S w (W.alloc (.cells #[] 31)) (.returned (.tuple #[.slice (some ⟨W.heap.size, 0, none⟩) 0 0, .bool false])) := by
  have e1 : rcL S = [] := by unfold rcL; rw [h]; rfl
  have e2 : rcK S = false := by unfold rcK; rw [h]; rfl
  refine ⟨W.heap.size, 0, by rw [e1, e2]; rfl, ?_⟩
  rw [e1]
  exact (OC.nil W).mono hb

set_option maxRecDepth 100000 in
set_option maxHeartbeats 4000000 in
theorem iread_any (S : ByteArray) (w : World) (hs : S.size ≤ 1048576) :
    Calls Tryz.prog 9 #[.string S] w fun e w' => RcR S w w' e ∧ Below w.heap.size w w' := by
  by_cases hs4 : S.size ≤ 4000
  · have h4 : ¬ (4000 : Int) < (S.size : Int) := by omega
    obtain ⟨W1, hW1⟩ : ∃ W1, W1 = w.alloc (.cells #[.string S] 49) := ⟨_, rfl⟩
    have hrd : Rd W1 w.heap.size S := ⟨_, by rw [hW1]; exact blk_alloc_new _ _, rfl, fun i hi => by
      match i, hi with
      | 0, _ => rfl⟩
    have HB1 : Hid (Below w.heap.size w W1) := by show Below _ _ _; rw [hW1]; exact (Below.refl _ _).alloc (Nat.le_refl _) _
    have HZ1 : Hid (W1.heap.size = w.heap.size + 1) := by show _ = _; rw [hW1]; simp
    have HANY := Lib.hid ((read_all 12003).2.2 S w.heap.size W1 hrd hs4 (by omega))
    have HW1 := Lib.hid hW1
    have HRC : Hid (rcO S = rcB S.data.toList) := if_pos hs4
    unfold rcB at HRC
    have HSM := Lib.hid (P_sm 12003 2 S.data.toList)
    have hlS := lenS S
    clear hrd hW1
    cases hp : P 12003 2 S.data.toList with
    | none =>
      rw [hp] at HANY HRC
      clear hp HSM
      go_enter Tryz.func9, Tryz.ntmps9
      go_upto_region 4 with fail
      rw [← HW1.out]
      go_wp2_with (go_at_call 22; refine HANY.out.mono ?_; rintro e w2 hres; obtain rfl := hres.no rfl; have HG := Lib.hid hres.gr; clear hres)
      go_ret2
      have hb2 : Below w.heap.size w w2 := HB1.out.grown HG.out HB1.out.size (fun k hk => by cases hk; exact Nat.le_refl _)
      exact ⟨rcr_no HRC.out hb2.size, hb2.alloc hb2.size _⟩
    | some x =>
      obtain ⟨t, r⟩ := x
      rw [hp] at HANY HRC
      obtain ⟨hsm, hnm⟩ := HSM.out t r hp
      rw [hlS] at hsm
      have hrl := P_lt 12003 2 _ t r hp
      rw [hlS] at hrl
      have HNM := Lib.hid hnm
      have HPOS := Lib.hid (fl_pos t)
      clear hp HSM hnm
      go_enter Tryz.func9, Tryz.ntmps9
      go_upto_region 4 with fail
      rw [← HW1.out]
      go_wp2_with (go_at_call 22; refine HANY.out.mono ?_; rintro e w2 hres; obtain ⟨g2, rfl, hn2⟩ := hres.yes t r rfl; obtain ⟨T2, hr2, ht2⟩ := hres.rd; have hT2 := ht2 t r rfl; have HG := Lib.hid hres.gr; clear hres ht2; refine Hid.out ?_)
      refine Lib.hid ?_
      have HB2 : Hid (Below w.heap.size w w2) := HB1.out.grown HG.out HB1.out.size (fun k hk => by cases hk; exact Nat.le_refl _)
      have HAE := Lib.hid (atEnd_any T2 w.heap.size w2 hr2 (by rw [← lenS, hT2]; omega))
      rw [hT2] at HAE
      have HN2 := Lib.hid hn2
      have hz2 := HG.out.size
      clear hn2 hr2 HANY
      cases hse : (skip r).isEmpty with
      | false =>
        rw [hse] at HAE
        have HE : Hid (rcO S = none) := by show _ = _; rw [HRC.out, if_neg (by rw [hse]; simp)]
        clear HRC hse
        go_wp2_with (go_at_call 23; refine HAE.out.mono ?_; rintro e w3 ⟨rfl, hg3⟩; have HG3 := Lib.hid hg3; clear hg3)
        go_ret2
        have hb3 : Below w.heap.size w w3 := HB2.out.grown HG3.out HB2.out.size (fun k hk => by cases hk; exact Nat.le_refl _)
        exact ⟨rcr_no HE.out hb3.size, hb3.alloc hb3.size _⟩
      | true =>
        rw [hse] at HAE
        go_wp2_with (go_at_call 23; refine HAE.out.mono ?_; rintro e w3 ⟨rfl, hg3⟩; refine Hid.out ?_)
        refine Lib.hid ?_
        have HB3 : Hid (Below w.heap.size w w3) := HB2.out.grown hg3 HB2.out.size (fun k hk => by cases hk; exact Nat.le_refl _)
        have hnd3 : Nd w3 (Btw (w.heap.size + 1) w3.heap.size) 12003 (.pointer (some ⟨g2, 0, none⟩)) t := by
          rw [HZ1.out] at HN2
          exact Nd.kept (fun bb ⟨a, b⟩ => hg3.block bb b (fun e => by have := Option.some.inj e; omega)) (fun bb ⟨a, b⟩ => ⟨a, Nat.lt_of_lt_of_le b hg3.size⟩) 12003 HN2.out
        have hAl : Below w3.heap.size w3 (w3.alloc (.cells #[] 31)) := (Below.refl _ _).alloc (Nat.le_refl _) _
        have HAP := Lib.hid (app_any w3.heap.size (Btw (w.heap.size + 1) w3.heap.size) 12003 t (.pointer (some ⟨g2, 0, none⟩)) (.slice (some ⟨w3.heap.size, 0, none⟩) 0 0) [] (w3.alloc (.cells #[] 31)) (Nd.kept (fun bb ⟨a, b⟩ => hAl.block bb b) (fun bb h => h) 12003 hnd3) (fun bb ⟨a, b⟩ => ⟨by simp; omega, by simp [Value.ownBlock]; omega⟩) (OC.nil w3) (by simp) (by simp; omega) (fun c hc => by have := HNM.out c hc; omega))
        rw [List.nil_append] at HAP
        have HSE := Lib.hid hse
        clear hg3 hnd3 hAl HAE HN2 hse
        go_wp2_with (go_at_call 24; refine HAP.out.mono ?_; rintro e w4 ⟨v4, rfl, hoc4, hak4⟩; obtain ⟨g4, c4, rfl⟩ := hoc4.at_ HPOS.out; refine Hid.out ?_)
        refine Lib.hid ?_
        have HB4 : Hid (Below w.heap.size w w4) := by
          have h1 := HB3.out.alloc HB3.out.size (.cells #[] 31)
          exact h1.grown hak4.gr h1.size (fun k hk => by simp [Value.ownBlock] at hk; have := HB3.out.size; omega)
        obtain ⟨hx4, hc4, hm4⟩ := hoc4.xs
        have HOK := Lib.hid (cd.iok_any (cnE (fl t)) g4 (fl t).length c4 ⟨hc4, Nat.le_trans hm4 (by unfold maxLen; omega)⟩ (by omega) (fun i hi => by have := HNM.out (cnE (fl t) i) (List.mem_of_getElem? (cnE_some hi)); omega) w4 hx4)
        have HO4 := Lib.hid hoc4
        clear hoc4 hak4 hx4 HAP
        cases hk : okL (fl t) with
        | false =>
          rw [show cd.okAll (cnE (fl t)) (fl t).length = false from hk] at HOK
          have HE : Hid (rcO S = none) := by show _ = _; rw [HRC.out, if_neg (by rw [hk]; simp)]
          clear HRC hk
          go_wp2_with (go_at_call 8; refine HOK.out.mono ?_; rintro e w5 ⟨rfl, hl5⟩; have HL5 := Lib.hid hl5; clear hl5)
          go_ret2
          have hb5 : Below w.heap.size w w5 := HB4.out.trans (HL5.out.mono HB4.out.size)
          exact ⟨rcr_no HE.out hb5.size, hb5.alloc hb5.size _⟩
        | true =>
          rw [show cd.okAll (cnE (fl t)) (fl t).length = true from hk] at HOK
          have HE : Hid (rcO S = some (fl t)) := by show _ = _; rw [HRC.out, if_pos ⟨HSE.out, hk⟩]
          clear HRC hk
          go_wp2_with (go_at_call 8; refine HOK.out.mono ?_; rintro e w5 ⟨rfl, hl5⟩; have HL5 := Lib.hid hl5; clear hl5)
          go_ret2
          have e1 : rcL S = fl t := by unfold rcL; rw [HE.out]; rfl
          have e2 : rcK S = true := by unfold rcK; rw [HE.out]; rfl
          refine ⟨⟨g4, c4, by rw [e1, e2]; rfl, ?_⟩, HB4.out.trans (HL5.out.mono HB4.out.size)⟩
          rw [e1]
          exact (HO4.out.below HL5.out).mono HB3.out.size
  · have h4 : (4000 : Int) < (S.size : Int) := by omega
    have HE : Hid (rcO S = none) := if_neg hs4
    clear hs4
    go_enter Tryz.func9, Tryz.ntmps9
    go_wp2
    go_ret2
    exact ⟨rcr_no HE.out (Nat.le_refl _), (Below.refl _ _).alloc (Nat.le_refl _) _⟩
end Go.Proofs.YtnhddnfobcofcaaGreatDoor.cr

namespace Go.Proofs.YtnhddnfobcofcaaGreatDoor.cr
open cd (Tr Cn)
set_option linter.unusedVariables false
set_option linter.unusedSimpArgs false

/-! ### FnCondBack, plain: lists and trees -/

theorem cnE_head {l : List Cn} {p : Nat} {c : Cn} {q : List Cn} (h : l.drop p = c :: q) : cnE l p = c ∧ l.drop (p + 1) = q := by
  have e : l[p]? = some c := by
    have := congrArg (fun x => x[0]?) h
    simpa [List.getElem?_drop] using this
  refine ⟨by unfold cnE; rw [e]; rfl, ?_⟩
  rw [← List.drop_drop, h]; rfl
def psAt (p : Nat) : List Tr → List Nat
  | [] => []
  | x :: xs => p :: psAt (p + (fl x).length) xs
theorem psAt_len : ∀ p xs, (psAt p xs).length = xs.length
  | _, [] => rfl
  | p, x :: xs => by rw [psAt, List.length_cons, List.length_cons, psAt_len]
theorem drop_next {l a b : List Cn} {p : Nat} (h : l.drop p = a ++ b) : l.drop (p + a.length) = b := by
  rw [← List.drop_drop, h, List.drop_left]
theorem fl_head {l : List Cn} {p : Nat} {x : Tr} {rest : List Cn} (h : l.drop p = fl x ++ rest) : (cnE l p).kind = x.kind ∧ (cnE l p).name = x.name ∧ (cnE l p).size = ((fl x).length : Int) - 1 ∧ l.drop (p + 1) = flL x.parts ++ rest ∧ (fl x).length = (flL x.parts).length + 1 := by
  obtain ⟨k, n, ps⟩ := x
  rw [fl_eq] at h
  obtain ⟨h1, h2⟩ := cnE_head h
  rw [h1, fl_eq]
  exact ⟨rfl, rfl, by simp, h2, by simp [Tr.parts]⟩
theorem cut_fl {l : List Cn} : ∀ (xs : List Tr) (p : Nat) (rest : List Cn), l.drop p = flL xs ++ rest → cd.cutP (cnE l) p (flL xs).length = some (psAt p xs)
  | [], p, rest, h => by
    show cd.cutP _ p 0 = _
    exact cd.cut_zero _ _
  | x :: xs, p, rest, h => by
    rw [flL_cons, List.append_assoc] at h
    obtain ⟨_, _, h3, _, h5⟩ := fl_head h
    have h6 := drop_next h
    have hl : (flL (x :: xs)).length = (fl x).length + (flL xs).length := by rw [flL_cons, List.length_append]
    have hs : (cnE l p).size.toNat + 1 = (fl x).length := by omega
    rw [hl, cd.cut_step (by omega) (by omega), hs, show (fl x).length + (flL xs).length - (fl x).length = (flL xs).length by omega, cut_fl xs _ rest h6]
    rfl
theorem tree_fl {l : List Cn} : ∀ (r : Nat) (t : Tr) (p : Nat) (rest : List Cn), TOk t → Dp r t → l.drop p = fl t ++ rest → cd.ok (cnE l) r p (fl t).length = true ∧ cd.treeP (cnE l) r p = t
  | 0, t, p, rest, _, hd, _ => hd.elim
  | r + 1, .mk k n ps, p, rest, ht, hd, h => by
    obtain ⟨hf, hps⟩ := (TOk_eq k n ps).1 ht
    obtain ⟨h1, h2, h3, h4, h5⟩ := fl_head h
    have hparts : ∀ (xs : List Tr) (p : Nat) (rest : List Cn), (∀ x ∈ xs, TOk x ∧ Dp r x) → l.drop p = flL xs ++ rest → (∀ q ∈ psAt p xs, cd.ok (cnE l) r q ((cnE l q).size.toNat + 1) = true) ∧ (psAt p xs).map (cd.treeP (cnE l) r) = xs := by
      intro xs
      induction xs with
      | nil => intro p rest _ _; exact ⟨by simp [psAt], rfl⟩
      | cons x xs ihx =>
        intro p rest hx hdr
        rw [flL_cons, List.append_assoc] at hdr
        obtain ⟨a1, a2⟩ := hx x List.mem_cons_self
        obtain ⟨b1, b2⟩ := tree_fl r x p _ a1 a2 hdr
        obtain ⟨_, _, h3', _, h5'⟩ := fl_head hdr
        obtain ⟨c1, c2⟩ := ihx (p + (fl x).length) rest (fun y hy => hx y (List.mem_cons_of_mem _ hy)) (drop_next hdr)
        refine ⟨fun q hq => ?_, by rw [psAt, List.map_cons, b2, c2]⟩
        rw [psAt] at hq
        rcases List.mem_cons.1 hq with rfl | hq
        · rw [show (cnE l q).size.toNat + 1 = (fl x).length by omega]; exact b1
        · exact c1 q hq
    have hcut : cd.cutP (cnE l) (p + 1) ((fl (.mk k n ps)).length - 1) = some (psAt (p + 1) ps) := by
      rw [show (fl (.mk k n ps)).length - 1 = (flL ps).length by rw [h5]; rfl]
      exact cut_fl ps (p + 1) rest h4
    obtain ⟨e1, e2⟩ := hparts ps (p + 1) rest (fun x hx => ⟨hps x hx, hd x hx⟩) h4
    refine ⟨?_, ?_⟩
    · rw [cd.ok_yes h3 hcut, Bool.and_eq_true]
      refine ⟨List.all_eq_true.2 fun q hq => e1 q hq, ?_⟩
      rw [psAt_len]
      have : cd.fitB (cnE l p) ps.length = cd.fitB ⟨k, n, 0⟩ ps.length := by
        unfold cd.fitB
        rw [h1, h2]
        rfl
      rw [this]
      exact hf
    · rw [cd.tree_eq h3 hcut, e2, h1, h2]
      rfl
theorem ok_in {E : Nat → Cn} {r p len : Nat} (h : cd.ok E (r + 1) p len = true) : (E p).size = (len : Int) - 1 ∧ ∃ ps, cd.cutP E (p + 1) (len - 1) = some ps ∧ (∀ q ∈ ps, cd.ok E r q ((E q).size.toNat + 1) = true) ∧ cd.fitB (E p) ps.length = true := by
  rw [cd.ok] at h
  simp only [Bool.and_eq_true, decide_eq_true_eq] at h
  refine ⟨h.1, ?_⟩
  cases hc : cd.cutP E (p + 1) (len - 1) with
  | none => rw [hc] at h; simp at h
  | some ps =>
    rw [hc] at h
    simp only [Bool.and_eq_true, List.all_eq_true] at h
    exact ⟨ps, rfl, h.2.1, h.2.2⟩
theorem fl_tree {l : List Cn} : ∀ (r p len : Nat), 0 < len → cd.ok (cnE l) r p len = true → p + len ≤ l.length → fl (cd.treeP (cnE l) r p) = (l.drop p).take len ∧ TOk (cd.treeP (cnE l) r p) ∧ Dp r (cd.treeP (cnE l) r p)
  | 0, p, len, _, h, _ => by simp [cd.ok] at h
  | r + 1, p, len, h0, h, hl => by
    obtain ⟨hs, qs, hcut, hok, hfit⟩ := ok_in h
    have hlist : ∀ (left p : Nat) (qs : List Nat), cd.cutP (cnE l) p left = some qs → (∀ q ∈ qs, cd.ok (cnE l) r q ((cnE l q).size.toNat + 1) = true) → p + left ≤ l.length → flL (qs.map (cd.treeP (cnE l) r)) = (l.drop p).take left ∧ ∀ q ∈ qs, TOk (cd.treeP (cnE l) r q) ∧ Dp r (cd.treeP (cnE l) r q) := by
      intro left
      induction left using Nat.strongRecOn with
      | ind left ih =>
        intro p qs hc hq hpl
        by_cases hz : left = 0
        · subst hz
          rw [cd.cut_zero] at hc
          cases hc
          exact ⟨by simp [flL], by simp⟩
        · by_cases hb : (cnE l p).size < 0 ∨ (left : Int) ≤ (cnE l p).size
          · rw [cd.cut_bad (by omega) hb] at hc; cases hc
          · rw [cd.cut_step (by omega) hb, Option.map_eq_some_iff] at hc
            obtain ⟨qs', hc', rfl⟩ := hc
            obtain ⟨a1, a2⟩ := ih _ (by omega) _ qs' hc' (fun q h => hq q (List.mem_cons_of_mem _ h)) (by omega)
            obtain ⟨b1, b2, b3⟩ := fl_tree r p ((cnE l p).size.toNat + 1) (by omega) (hq p List.mem_cons_self) (by omega)
            refine ⟨?_, fun q h => ?_⟩
            · rw [List.map_cons, flL_cons, a1, b1, ← List.drop_drop, ← List.take_add, show (cnE l p).size.toNat + 1 + (left - ((cnE l p).size.toNat + 1)) = left by omega]
            · rcases List.mem_cons.1 h with rfl | h
              · exact ⟨b2, b3⟩
              · exact a2 q h
    obtain ⟨c1, c2⟩ := hlist (len - 1) (p + 1) qs hcut hok (by omega)
    rw [cd.tree_eq hs hcut]
    have hhd : l.drop p = cnE l p :: l.drop (p + 1) := by
      rw [List.drop_eq_getElem_cons (by omega)]
      congr 1
      unfold cnE
      rw [List.getElem?_eq_getElem (by omega)]
      rfl
    refine ⟨?_, (TOk_eq _ _ _).2 ⟨?_, fun x hx => ?_⟩, fun x hx => ?_⟩
    · rw [fl_eq, c1, hhd, show len = len - 1 + 1 by omega, List.take_succ_cons]
      congr 1
      have e : (((l.drop (p + 1)).take (len - 1 + 1 - 1)).length : Int) = (cnE l p).size := by rw [List.length_take, List.length_drop, hs]; omega
      rw [e]
    · rw [List.length_map]
      have : cd.fitB ⟨(cnE l p).kind, (cnE l p).name, 0⟩ qs.length = cd.fitB (cnE l p) qs.length := rfl
      rw [this]
      exact hfit
    · obtain ⟨q, hq, rfl⟩ := List.mem_map.1 hx
      exact (c2 q hq).1
    · obtain ⟨q, hq, rfl⟩ := List.mem_map.1 hx
      exact (c2 q hq).2
/-- A list that can be is a tree's. -/
theorem okL_tree {l : List Cn} (h : okL l = true) : fl (cd.treeP (cnE l) 61 0) = l ∧ TOk (cd.treeP (cnE l) 61 0) ∧ Dp 61 (cd.treeP (cnE l) 61 0) ∧ 0 < l.length ∧ l.length ≤ 300 := by
  unfold okL cd.okAll at h
  simp only [Bool.and_eq_true, decide_eq_true_eq] at h
  obtain ⟨⟨h1, h2⟩, h3⟩ := h
  obtain ⟨a, b, c⟩ := fl_tree 61 0 l.length h1 h3 (by omega)
  rw [List.drop_zero, List.take_of_length_le (Nat.le_refl _)] at a
  exact ⟨a, b, c, h1, h2⟩
theorem tree_okL {t : Tr} (h : TOk t) (hd : Dp 61 t) (hl : (fl t).length ≤ 300) : okL (fl t) = true ∧ cd.treeP (cnE (fl t)) 61 0 = t := by
  obtain ⟨a, b⟩ := tree_fl (l := fl t) 61 t 0 [] h hd (by simp)
  refine ⟨?_, b⟩
  unfold okL cd.okAll
  rw [a]
  have := fl_pos t
  simp [this, hl]
/-- What is shown is read. -/
theorem rcO_show {l : List Cn} (h : okL l = true) (S : ByteArray) (hS : S.data.toList = sh (cd.treeP (cnE l) 61 0)) (hs : S.size ≤ 3900) : rcO S = some l := by
  obtain ⟨h1, h2, h3, h4, h5⟩ := okL_tree h
  have hw : (wi (cd.treeP (cnE l) 61 0)).length ≤ S.size + 2 := by
    unfold wi wiK
    rw [← hS]
    split
    · simp [lenS]
    · rw [lenS]; omega
  have hb := show_back h2 12003 (by omega)
  unfold rcO rcB
  rw [if_pos (by omega), hS, hb]
  simp only
  rw [h1, if_pos ⟨rfl, h⟩]
end Go.Proofs.YtnhddnfobcofcaaGreatDoor.cr

namespace Go.Proofs.YtnhddnfobcofcaaGreatDoor.st
open Go.ChangeShapes Go.WideShapes Go.ChangeAt Go.RowKit Go.Deep
set_option linter.unusedVariables false

def atS (l : List ByteArray) (i : Nat) : ByteArray := l[i]?.getD ByteArray.empty

/-- The first 'n' texts behind a slice's address are 'l'. -/
def Ss (w : World) (a : Option Addr) (n : Nat) (l : List ByteArray) : Prop :=
  n = 0 ∨ ∃ b off, a = some ⟨b, off, none⟩ ∧ ∀ i, i < n → w.cell? ⟨b, off + i, none⟩ = some (.string (atS l i))

theorem info9 : (Tryz.prog.info? 9).map (fun i => (i.zero, i.size, i.bytes)) = some (some (.string ⟨#[]⟩), 1, 16) := by kernel_rfl

theorem row_step {w : World} {b n k : Nat} {l : List ByteArray} (h : w.rowIs b 9 n (fun j => .string (if j < k then atS l j else ⟨#[]⟩))) :
    (w.setCell ⟨b, k, none⟩ (.string (atS l k))).rowIs b 9 n (fun j => .string (if j < k + 1 then atS l j else ⟨#[]⟩)) :=
  (h.set k _).congr fun i hi => by
    by_cases h : i = k
    · simp [h]
    · have e : (i < k + 1) ↔ (i < k) := by omega
      simp [h, e]

theorem Ss.row {w : World} {b n : Nat} {l : List ByteArray} (h : w.rowIs b 9 n (fun i => .string (atS l i))) : Ss w (some ⟨b, 0, none⟩) n l :=
  .inr ⟨b, 0, rfl, fun i hi => by have := h.cell hi; simpa using this⟩

theorem Ss.below {w w' : World} {a : Option Addr} {n : Nat} {l : List ByteArray} (h : Ss w a n l) (hb : Below w.heap.size w w') : Ss w' a n l := by
  rcases h with h | ⟨b, off, e, hc⟩
  · exact .inl h
  · exact .inr ⟨b, off, e, fun i hi => (hb.cell (World.block_lt_of_cell? _ _ (hc i hi))).trans (hc i hi)⟩

end Go.Proofs.YtnhddnfobcofcaaGreatDoor.st

namespace Go.Proofs.YtnhddnfobcofcaaGreatDoor.cd
open Go.ChangeShapes Go.WideShapes Go.ChangeAt Go.RowKit Go.Deep Go.Maps
set_option linter.unusedVariables false
set_option linter.unusedSimpArgs false

/-! ### What holds -/

def hE (F : List UInt8 → Bool) (E : Nat → Cn) : Nat → Nat → Bool
  | 0, _ => false
  | r + 1, p => if (E p).kind = 1 then F (E p).name.data.toList else if (E p).kind = 2 then true else if (E p).kind = 3 then false
    else if (E p).kind = 4 then !(hE F E r (p + 1))
    else if (E p).kind = 6 then ((cutP E (p + 1) (E p).size.toNat).getD []).any (hE F E r) else ((cutP E (p + 1) (E p).size.toNat).getD []).all (hE F E r)

theorem keyed9 : Keyed Tryz.prog 9 := string_keyed Tryz.underlying9
theorem zero3 (w : World) : (zeroValue 3).run Tryz.prog w = .ok (.int .i64 0) w := by kernel_rfl
theorem key9 (t : ByteArray) (ht : t.size ≤ 1048576) : keyOf Tryz.prog 9 (.string t) = some (.string t.data.toList) := WideMaps.keyOf_string_mk Tryz.underlying9 (by unfold maxLen; omega)

/-- How often each name was given. -/
def BM (w : World) (b N : Nat) (c : List UInt8 → Nat) : Prop := ∃ D : DataW Unit, w.ownsMap Tryz.prog 9 (plainElem Tryz.prog 3) b N D ∧ ∀ x, D.atKey (.string x) (.lit (.int .i64 0)) = .lit (.int .i64 (c x : Int))

/-- A right node's parts. -/
theorem ok_parts {E : Nat → Cn} {r p len : Nat} (h : ok E (r + 1) p len = true) : (E p).size = (len : Int) - 1 ∧ ∃ ps, cutP E (p + 1) (len - 1) = some ps ∧ (∀ q ∈ ps, ok E r q ((E q).size.toNat + 1) = true) ∧ fitB (E p) ps.length = true := by
  rw [ok] at h
  simp only [Bool.and_eq_true, decide_eq_true_eq] at h
  refine ⟨h.1, ?_⟩
  cases hc : cutP E (p + 1) (len - 1) with
  | none => rw [hc] at h; simp at h
  | some ps =>
    rw [hc] at h
    simp only [Bool.and_eq_true, List.all_eq_true] at h
    exact ⟨ps, rfl, h.2.1, h.2.2⟩

theorem fit_kind {e : Cn} {m : Nat} (h : fitB e m = true) : (e.kind = 1 ∨ e.kind = 2 ∨ e.kind = 3 ∨ e.kind = 4 ∨ e.kind = 5 ∨ e.kind = 6) ∧ (e.kind = 4 → m = 1) := by
  unfold fitB at h
  by_cases h1 : e.kind = 1
  · exact ⟨.inl h1, fun h => by omega⟩
  · rw [if_neg h1] at h
    simp only [Bool.and_eq_true] at h
    obtain ⟨_, h⟩ := h
    by_cases h23 : e.kind = 2 ∨ e.kind = 3
    · exact ⟨by omega, fun h => by omega⟩
    · rw [if_neg h23] at h
      by_cases h4 : e.kind = 4
      · rw [if_pos h4] at h
        exact ⟨by omega, fun _ => by simpa using h⟩
      · rw [if_neg h4] at h
        simp only [Bool.and_eq_true, decide_eq_true_eq] at h
        exact ⟨by omega, fun h => by omega⟩

theorem cut_head {E : Nat → Cn} {p left : Nat} {ps : List Nat} (h : cutP E p left = some ps) (hl : 0 < ps.length) : ps[0]? = some p := by
  rw [cutP] at h
  split at h
  · cases h; simp at hl
  · split at h
    · cases h
    · obtain ⟨qs, _, rfl⟩ := Option.map_eq_some_iff.1 h
      rfl

theorem any_take {α : Type} {f : α → Bool} {l : List α} {k : Nat} (h : ∀ i (hi : i < l.length), i < k → f l[i] = false) (hk : k < l.length) (hf : f l[k] = true) : l.any f = true := by
  rw [List.any_eq_true]; exact ⟨l[k], List.getElem_mem hk, hf⟩
theorem any_none {α : Type} {f : α → Bool} {l : List α} (h : ∀ i (hi : i < l.length), f l[i] = false) : l.any f = false := by
  rw [List.any_eq_false]
  intro x hx
  obtain ⟨i, hi, rfl⟩ := List.getElem_of_mem hx
  rw [h i hi]; simp
theorem all_take {α : Type} {f : α → Bool} {l : List α} {k : Nat} (hk : k < l.length) (hf : f l[k] = false) : l.all f = false := by
  rw [List.all_eq_false]; exact ⟨l[k], List.getElem_mem hk, by rw [hf]; simp⟩
theorem all_each {α : Type} {f : α → Bool} {l : List α} (h : ∀ i (hi : i < l.length), f l[i] = true) : l.all f = true := by
  rw [List.all_eq_true]
  intro x hx
  obtain ⟨i, hi, rfl⟩ := List.getElem_of_mem hx
  exact h i hi

set_option maxRecDepth 100000 in
set_option maxHeartbeats 4000000 in
theorem holds_any (E : Nat → Cn) (c : List UInt8 → Nat) (mb N n : Nat) (hs : ∀ i, i < n → (E i).name.size ≤ 1048576) (w : World) (hM : BM w mb N c) : ∀ (r p len : Nat) (O : Nat → Prop) (v : Value), 0 < len → p + len ≤ n → n ≤ 3000 → ok E r p len = true → Nd w O r v (treeP E r p) →
    Calls Tryz.prog 26 #[v, .map (some mb)] w fun e w' => e = .returned (.bool (hE (fun x => decide (0 < c x)) E r p)) ∧ w' = w := by
  intro r
  induction r with
  | zero => intro p len O v _ _ _ h; cases h
  | succ r ih =>
    intro p len O v hlen hp hn hok hnd
    obtain ⟨hz, ps, hcp, hall, hfit⟩ := ok_parts hok
    obtain ⟨hk, hk4⟩ := fit_kind hfit
    obtain ⟨hfits, hpl⟩ := cut_fits _ _ _ hcp
    rw [tree_eq hz hcp] at hnd
    obtain ⟨g, a, cap, vs, rfl, hO, hG, hvl, hP, hch⟩ := hnd
    rw [List.length_map] at hvl
    obtain ⟨q0, q1, q2⟩ := cells_of hG
    have hsp := hs p (by omega)
    have HE : hE (fun x => decide (0 < c x)) E (r + 1) p = (if (E p).kind = 1 then decide (0 < c (E p).name.data.toList) else if (E p).kind = 2 then true else if (E p).kind = 3 then false
      else if (E p).kind = 4 then !(hE (fun x => decide (0 < c x)) E r (p + 1))
      else if (E p).kind = 6 then ps.any (hE (fun x => decide (0 < c x)) E r) else ps.all (hE (fun x => decide (0 < c x)) E r)) := by
      rw [hE, show (E p).size.toNat = len - 1 by omega, hcp]; rfl
    obtain ⟨bb, off, hPa, hPc⟩ := hP
    have HI : Hid (∀ i (h : i < ps.length), ∃ g', w.cell? ⟨bb, off + i, none⟩ = some (.pointer (some ⟨g', 0, none⟩)) ∧ Calls Tryz.prog 26 #[.pointer (some ⟨g', 0, none⟩), .map (some mb)] w fun e w' => e = .returned (.bool (hE (fun x => decide (0 < c x)) E r ps[i])) ∧ w' = w) := fun i h => by
      obtain ⟨f1, f2, f3⟩ := hfits _ (List.getElem_mem h)
      have hx : vs[i]? = some vs[i] := List.getElem?_eq_getElem (by omega)
      have hc0 := hch i vs[i] _ hx (by rw [List.getElem?_map, List.getElem?_eq_getElem h]; rfl)
      obtain ⟨g', hg'⟩ := hc0.ptr
      have hcl := hPc i _ hx
      rw [hg'] at hcl hc0
      exact ⟨g', hcl, ih ps[i] ((E ps[i]).size.toNat + 1) O _ (by omega) (by omega) hn (hall _ (List.getElem_mem h)) hc0⟩
    have HHD : Hid (0 < ps.length → ps[0]? = some (p + 1)) := cut_head hcp
    have hPa' : ps.length = 0 ∨ a = some ⟨bb, off, none⟩ := by rcases hPa with h | h; exact .inl (by omega); exact .inr h.1
    clear ih hall hfit hfits hch hG hPc hcp hok hz hPa
    rw [hvl] at q2
    have hpb : ps.length ≤ 3000 := by omega
    clear hpl hvl
    rw [HE]
    clear HE
    generalize (E p).kind = K at *
    generalize (E p).name = T at *
    obtain ⟨L, hLN⟩ : ∃ L, ps.length = L := ⟨_, rfl⟩
    rw [hLN] at q2 hPa' hk4 hpb
    by_cases h1 : K = 1
    · subst h1
      obtain ⟨D, d1, d2⟩ := hM
      have HAT : Hid (D.atKey (.string T.data.toList) (.lit (.int .i64 0)) = .lit (.int .i64 (c T.data.toList : Int))) := d2 T.data.toList
      have hkey := key9 T hsp
      simp only [if_true]
      clear d2
      go_enter Tryz.func26, Tryz.ntmps26
      go_wp2_with (first
        | (at_lookup; refine wpList_lookup_own_int _ rfl _ _ 53 rfl 9 3 .i64 keyed9 Tryz.underlying53 Tryz.underlying3 (zero3 _) mb N D rfl d1 _ _ rfl hkey ?_; intro cc hat hwc; rw [HAT.out] at hat; cases hat; clear hwc d1)
        | go_in)
      go_ret
      exact ⟨ret_bool (by simp), rfl⟩
    rw [if_neg h1]
    by_cases h2 : K = 2
    · subst h2
      simp only [if_true]
      go_enter Tryz.func26, Tryz.ntmps26
      go_wp2
      go_ret
      exact ⟨rfl, rfl⟩
    rw [if_neg h2]
    by_cases h3 : K = 3
    · subst h3
      simp only [if_true]
      go_enter Tryz.func26, Tryz.ntmps26
      go_wp2
      go_ret
      exact ⟨rfl, rfl⟩
    rw [if_neg h3]
    by_cases h4 : K = 4
    · subst h4
      simp only [if_true]
      have hL : L = 1 := hk4 rfl
      subst hL
      obtain ⟨g', c0, HC0⟩ := HI.out 0 (by omega)
      have e0 : ps[0]'(by omega) = p + 1 := by
        have := HHD.out (by omega)
        rw [List.getElem?_eq_getElem (by omega)] at this
        exact Option.some.inj this
      rw [e0] at HC0
      rw [Nat.add_zero] at c0
      rcases hPa' with h | rfl
      · omega
      generalize hE (fun x => decide (0 < c x)) E r (p + 1) = B at *
      have HC' : Hid (Calls Tryz.prog 26 #[.pointer (some ⟨g', 0, none⟩), .map (some mb)] w fun e w' => e = .returned (.bool B) ∧ w' = w) := HC0
      clear HC0 HI HHD hM
      go_enter Tryz.func26, Tryz.ntmps26
      go_wp2_with (go_at_call 26; refine HC'.out.mono ?_; rintro e wx ⟨rfl, hw⟩; obtain rfl := hw.symm; clear hw)
      go_ret
      exact ⟨rfl, rfl⟩
    rw [if_neg h4]
    clear hM hk4 HHD
    by_cases h6 : K = 6
    · subst h6
      simp only [if_true]
      go_enter Tryz.func26, Tryz.ntmps26
      go_wp2
      go_loop [7, 46] (fun _ x => ∃ j : Nat, j ≤ L ∧ x = .int .i64 (j : Int) ∧ ∀ i (hi : i < ps.length), i < j → hE (fun x => decide (0 < c x)) E r ps[i] = false) (fun _ x => L - (intOf x).toNat)
      case atStart => exact ⟨0, Nat.zero_le _, rfl, fun i _ h => by omega⟩
      case round =>
        obtain ⟨j, hj, rfl, hsf⟩ := hrel
        have HSF : Hid (∀ i (hi : i < ps.length), i < j → hE (fun x => decide (0 < c x)) E r ps[i] = false) := hsf
        clear hsf
        by_cases hjl : j < L
        · have hjl' : (j : Int) < (L : Int) := by omega
          rcases hPa' with h | rfl
          · omega
          obtain ⟨g', c0, HC0⟩ := HI.out j (by omega)
          cases hb : hE (fun x => decide (0 < c x)) E r (ps[j]'(by omega)) with
          | true =>
            have HA : Hid (ps.any (hE (fun x => decide (0 < c x)) E r) = true) := by show _ = _; rw [List.any_eq_true]; exact ⟨ps[j]'(by omega), List.getElem_mem _, hb⟩
            rw [hb] at HC0
            have HC' : Hid (Calls Tryz.prog 26 #[.pointer (some ⟨g', 0, none⟩), .map (some mb)] w fun e w' => e = .returned (.bool true) ∧ w' = w) := HC0
            clear HC0 HI
            go_wp2_with (go_at_call 26; refine HC'.out.mono ?_; rintro e wx ⟨rfl, hw⟩; obtain rfl := hw.symm; clear hw)
            go_ret
            exact ⟨ret_bool HA.out.symm, rfl⟩
          | false =>
            rw [hb] at HC0
            have HC' : Hid (Calls Tryz.prog 26 #[.pointer (some ⟨g', 0, none⟩), .map (some mb)] w fun e w' => e = .returned (.bool false) ∧ w' = w) := HC0
            have HB : Hid (hE (fun x => decide (0 < c x)) E r (ps[j]'(by omega)) = false) := hb
            clear HC0 HI hb
            go_wp2_with (go_at_call 26; refine HC'.out.mono ?_; rintro e wx ⟨rfl, hw⟩; obtain rfl := hw.symm; clear hw)
            go_round
            case rel => exact ⟨j + 1, by omega, by go_num, fun i hi h => by
              rcases Nat.lt_or_ge i j with h' | h'
              · exact HSF.out i hi h'
              · obtain rfl : i = j := by omega
                exact HB.out⟩
            case measure => simp [intOf]; omega
        · have hjl' : ¬ (j : Int) < (L : Int) := by omega
          have HA : Hid (ps.any (hE (fun x => decide (0 < c x)) E r) = false) := any_none fun i hi => HSF.out i hi (by omega)
          go_wp2
          go_ret
          exact ⟨ret_bool HA.out.symm, rfl⟩
    rw [if_neg h6]
    have h5 : K = 5 := by omega
    subst h5
    go_enter Tryz.func26, Tryz.ntmps26
    go_wp2
    go_loop [7, 46] (fun _ x => ∃ j : Nat, j ≤ L ∧ x = .int .i64 (j : Int) ∧ ∀ i (hi : i < ps.length), i < j → hE (fun x => decide (0 < c x)) E r ps[i] = true) (fun _ x => L - (intOf x).toNat)
    case atStart => exact ⟨0, Nat.zero_le _, rfl, fun i _ h => by omega⟩
    case round =>
      obtain ⟨j, hj, rfl, hsf⟩ := hrel
      have HSF : Hid (∀ i (hi : i < ps.length), i < j → hE (fun x => decide (0 < c x)) E r ps[i] = true) := hsf
      clear hsf
      by_cases hjl : j < L
      · have hjl' : (j : Int) < (L : Int) := by omega
        rcases hPa' with h | rfl
        · omega
        obtain ⟨g', c0, HC0⟩ := HI.out j (by omega)
        cases hb : hE (fun x => decide (0 < c x)) E r (ps[j]'(by omega)) with
        | false =>
          have HA : Hid (ps.all (hE (fun x => decide (0 < c x)) E r) = false) := all_take (by omega) hb
          rw [hb] at HC0
          have HC' : Hid (Calls Tryz.prog 26 #[.pointer (some ⟨g', 0, none⟩), .map (some mb)] w fun e w' => e = .returned (.bool false) ∧ w' = w) := HC0
          clear HC0 HI
          go_wp2_with (go_at_call 26; refine HC'.out.mono ?_; rintro e wx ⟨rfl, hw⟩; obtain rfl := hw.symm; clear hw)
          go_ret
          exact ⟨ret_bool HA.out.symm, rfl⟩
        | true =>
          rw [hb] at HC0
          have HC' : Hid (Calls Tryz.prog 26 #[.pointer (some ⟨g', 0, none⟩), .map (some mb)] w fun e w' => e = .returned (.bool true) ∧ w' = w) := HC0
          have HB : Hid (hE (fun x => decide (0 < c x)) E r (ps[j]'(by omega)) = true) := hb
          clear HC0 HI hb
          go_wp2_with (go_at_call 26; refine HC'.out.mono ?_; rintro e wx ⟨rfl, hw⟩; obtain rfl := hw.symm; clear hw)
          go_round
          case rel => exact ⟨j + 1, by omega, by go_num, fun i hi h => by
            rcases Nat.lt_or_ge i j with h' | h'
            · exact HSF.out i hi h'
            · obtain rfl : i = j := by omega
              exact HB.out⟩
          case measure => simp [intOf]; omega
      · have hjl' : ¬ (j : Int) < (L : Int) := by omega
        have HA : Hid (ps.all (hE (fun x => decide (0 < c x)) E r) = true) := all_each fun i hi => HSF.out i hi (by omega)
        go_wp2
        go_ret
        exact ⟨ret_bool HA.out.symm, rfl⟩

end Go.Proofs.YtnhddnfobcofcaaGreatDoor.cd

namespace Go.Proofs.YtnhddnfobcofcaaGreatDoor.cr
open cd (Tr Cn)
set_option linter.unusedVariables false
set_option linter.unusedSimpArgs false

/-! ### FnCondBack, plain: what holds of lists and of trees -/

theorem hE_hT (F : List UInt8 → Bool) {E : Nat → Cn} : ∀ (r p len : Nat), cd.ok E r p len = true → cd.hE F E r p = hT F (cd.treeP E r p)
  | 0, p, len, h => by simp [cd.ok] at h
  | r + 1, p, len, h => by
    obtain ⟨hs, qs, hcut, hok, hfit⟩ := ok_in h
    have ih : ∀ q ∈ qs, cd.hE F E r q = hT F (cd.treeP E r q) := fun q hq => hE_hT F r q _ (hok q hq)
    rw [cd.tree_eq hs hcut, hT_eq, cd.hE, show (E p).size.toNat = len - 1 by omega, hcut, Option.getD_some]
    unfold hTK
    by_cases h1 : (E p).kind = 1
    · rw [if_pos h1, if_pos h1]
    rw [if_neg h1, if_neg h1]
    by_cases h2 : (E p).kind = 2
    · rw [if_pos h2, if_pos h2]
    rw [if_neg h2, if_neg h2]
    by_cases h3 : (E p).kind = 3
    · rw [if_pos h3, if_pos h3]
    rw [if_neg h3, if_neg h3]
    by_cases h4 : (E p).kind = 4
    · rw [if_pos h4, if_pos h4]
      have hq1 := (cd.fit_kind hfit).2 h4
      obtain ⟨q, rfl⟩ := List.length_eq_one_iff.1 hq1
      have := cd.cut_head hcut (by simp)
      simp at this
      subst this
      rw [ih _ List.mem_cons_self]
      rfl
    rw [if_neg h4, if_neg h4]
    by_cases h6 : (E p).kind = 6
    · rw [if_pos h6, if_pos h6]
      apply Bool.eq_iff_iff.2
      simp only [List.any_map, List.any_eq_true, Function.comp, id]
      exact ⟨fun ⟨x, hx, e⟩ => ⟨x, hx, by rw [← ih x hx]; exact e⟩, fun ⟨x, hx, e⟩ => ⟨x, hx, by rw [ih x hx]; exact e⟩⟩
    · rw [if_neg h6, if_neg h6]
      apply Bool.eq_iff_iff.2
      simp only [List.all_map, List.all_eq_true, Function.comp, id]
      exact ⟨fun e x hx => by rw [← ih x hx]; exact e x hx, fun e x hx => by rw [ih x hx]; exact e x hx⟩
/-- The plain form's list: can be, holds where the list does, has its names, stays. -/
def plT (l : List Cn) : Tr := pt false (cd.treeP (cnE l) 61 0)
theorem pl_all {l : List Cn} (h : okL l = true) (hl : lf (cd.treeP (cnE l) 61 0) ≤ 100) : (fl (plT l)).length ≤ 300 ∧ okL (fl (plT l)) = true ∧ cd.treeP (cnE (fl (plT l))) 61 0 = plT l ∧ plT (fl (plT l)) = plT l ∧ Pn (plT l) ∧ fn (plT l) = fn (cd.treeP (cnE l) 61 0) ∧ ∀ F, cd.hE F (cnE (fl (plT l))) 61 0 = cd.hE F (cnE l) 61 0 := by
  obtain ⟨h1, h2, h3, h4, h5⟩ := okL_tree h
  have hlen : (fl (plT l)).length ≤ 300 := by have := pt_len _ false h2; unfold plT; omega
  have hok : TOk (plT l) := pt_ok _ false h2
  have hdp : Dp 61 (plT l) := pt_dp 61 _ false h2 h3
  obtain ⟨k1, k2⟩ := tree_okL hok hdp hlen
  have ok_of : ∀ {m : List Cn}, okL m = true → cd.ok (cnE m) 61 0 m.length = true := fun hm => by
    unfold okL cd.okAll at hm
    simp only [Bool.and_eq_true] at hm
    exact hm.2
  refine ⟨hlen, k1, k2, ?_, pt_pn _ false h2, pt_fn _ false h2, fun F => ?_⟩
  · show pt false (cd.treeP (cnE (fl (plT l))) 61 0) = _
    rw [k2]
    exact pt_twice false h2
  · rw [hE_hT F 61 0 _ (ok_of k1), hE_hT F 61 0 _ (ok_of h), k2]
    show hT F (pt false _) = _
    rw [pt_hT F _ false h2]
    simp
end Go.Proofs.YtnhddnfobcofcaaGreatDoor.cr

namespace Go.Proofs.YtnhddnfobcofcaaGreatDoor.cr
open cd (Tr Cn)
set_option linter.unusedVariables false
set_option linter.unusedSimpArgs false

/-! ### FnCondBack, plain: names and nots of a tree's list -/

def nmC (l : List Cn) : List ByteArray := l.filterMap fun c => if c.kind = 1 then some c.name else none
theorem nmC_app (a b : List Cn) : nmC (a ++ b) = nmC a ++ nmC b := by unfold nmC; rw [List.filterMap_append]
theorem nmC_flL : ∀ ps : List Tr, (∀ x ∈ ps, nmC (fl x) = fn x) → nmC (flL ps) = (ps.map fn).flatten
  | [], _ => rfl
  | x :: ps, h => by
    rw [flL_cons, nmC_app, h x List.mem_cons_self, nmC_flL ps (fun y hy => h y (List.mem_cons_of_mem _ hy)), List.map_cons, List.flatten_cons]
/-- The names of the entries that are flags are the tree's. -/
theorem nmC_fl : ∀ t : Tr, TOk t → nmC (fl t) = fn t
  | .mk k n ps, ht => by
    have ih : ∀ x ∈ ps, nmC (fl x) = fn x := fun x hx => nmC_fl x (((TOk_eq k n ps).1 ht).2 x hx)
    rw [fl_eq, fn_eq]
    by_cases hk : k = 1
    · rcases tok_cases ht with ⟨_, rfl⟩ | ⟨_, _, h⟩ | ⟨_, h, _⟩ | ⟨_, h, _⟩
      · rw [if_pos hk]; subst hk; rfl
      · omega
      · omega
      · omega
    · rw [if_neg hk, ← nmC_flL ps ih]
      unfold nmC
      rw [List.filterMap_cons]
      simp only
      rw [if_neg hk]
termination_by t => SizeOf.sizeOf t
decreasing_by all_goals (have h := List.sizeOf_lt_of_mem hx; simp only [Tr.mk.sizeOf_spec]; omega)
/-- Behind each not stands a flag. -/
def NK (l : List Cn) : Prop := ∀ (i : Nat) (c : Cn), l[i]? = some c → c.kind = 4 → ∃ d : Cn, l[i + 1]? = some d ∧ d.kind = 1
theorem NK.app {a b : List Cn} (h : NK a) (k : NK b) : NK (a ++ b) := fun i c hc h4 => by
  rcases Nat.lt_or_ge i a.length with hi | hi
  · rw [List.getElem?_append_left hi] at hc
    obtain ⟨d, hd, e⟩ := h i c hc h4
    exact ⟨d, by rw [List.getElem?_append_left (List.getElem?_eq_some_iff.1 hd).1]; exact hd, e⟩
  · rw [List.getElem?_append_right hi] at hc
    obtain ⟨d, hd, e⟩ := k _ c hc h4
    exact ⟨d, by rw [List.getElem?_append_right (by omega), show i + 1 - a.length = i - a.length + 1 by omega]; exact hd, e⟩
theorem NK_flL : ∀ ps : List Tr, (∀ x ∈ ps, NK (fl x)) → NK (flL ps)
  | [], _ => fun i c h => by simp [flL] at h
  | x :: ps, h => by rw [flL_cons]; exact (h x List.mem_cons_self).app (NK_flL ps fun y hy => h y (List.mem_cons_of_mem _ hy))
theorem NK_cons {c : Cn} {l : List Cn} (hc : c.kind = 4 → ∃ d q, l = d :: q ∧ d.kind = 1) (h : NK l) : NK (c :: l) := fun i e he h4 => by
  cases i with
  | zero =>
    simp at he
    subst he
    obtain ⟨d, q, rfl, hd⟩ := hc h4
    exact ⟨d, rfl, hd⟩
  | succ i =>
    obtain ⟨d, hd, k⟩ := h i e (by simpa using he) h4
    exact ⟨d, by simpa using hd, k⟩
theorem NK_fl : ∀ t : Tr, TOk t → Pn t → NK (fl t)
  | .mk k n ps, ht, hp => by
    obtain ⟨p1, p2, p3⟩ := (Pn_eq _ _ _).1 hp
    have ih : ∀ x ∈ ps, NK (fl x) := fun x hx => NK_fl x (((TOk_eq k n ps).1 ht).2 x hx) (p3 x hx)
    rw [fl_eq]
    refine NK_cons (fun h4 => ?_) (NK_flL ps ih)
    have h4' : k = 4 := h4
    rcases tok_cases ht with ⟨h, _⟩ | ⟨_, _, h⟩ | ⟨_, _, x, rfl, _⟩ | ⟨_, h, _⟩
    · omega
    · omega
    · obtain ⟨k', n', ps'⟩ := x
      have hk : k' = 1 := p1 h4' _ List.mem_cons_self
      refine ⟨_, _, by rw [flL_one, fl_eq], hk⟩
    · omega
termination_by t => SizeOf.sizeOf t
decreasing_by all_goals (have h := List.sizeOf_lt_of_mem hx; simp only [Tr.mk.sizeOf_spec]; omega)
/-- How many leaves: the entries of the three kinds. -/
def lfC (l : List Cn) : Nat := l.countP fun c => decide (c.kind = 1 ∨ c.kind = 2 ∨ c.kind = 3)
theorem lfC_flL : ∀ ps : List Tr, (∀ x ∈ ps, lfC (fl x) = lf x) → lfC (flL ps) = (ps.map lf).sum
  | [], _ => rfl
  | x :: ps, h => by
    have e : lfC (fl x ++ flL ps) = lfC (fl x) + lfC (flL ps) := by unfold lfC; rw [List.countP_append]
    rw [flL_cons, e, h x List.mem_cons_self, lfC_flL ps (fun y hy => h y (List.mem_cons_of_mem _ hy)), List.map_cons, List.sum_cons]
theorem lfC_fl : ∀ t : Tr, TOk t → lfC (fl t) = lf t
  | .mk k n ps, ht => by
    have ih : ∀ x ∈ ps, lfC (fl x) = lf x := fun x hx => lfC_fl x (((TOk_eq k n ps).1 ht).2 x hx)
    rw [fl_eq, lf_eq]
    have e : lfC ((⟨k, n, ((flL ps).length : Int)⟩ : Cn) :: flL ps) = (if k = 1 ∨ k = 2 ∨ k = 3 then 1 else 0) + lfC (flL ps) := by
      unfold lfC
      rw [List.countP_cons]
      simp only [decide_eq_true_eq]
      omega
    rw [e]
    rcases tok_cases ht with ⟨h, rfl⟩ | ⟨_, rfl, h⟩ | ⟨_, h, x, rfl, _⟩ | ⟨_, h, h2, _⟩
    · rw [if_pos (.inl h), if_pos rfl]; rfl
    · rw [if_pos (.inr h), if_pos rfl]; rfl
    · rw [if_neg (by omega), if_neg (by simp), lfC_flL _ ih]; simp
    · rw [if_neg (by omega), if_neg (fun e => by rw [e] at h2; simp at h2), lfC_flL _ ih]; simp
termination_by t => SizeOf.sizeOf t
decreasing_by all_goals (have h := List.sizeOf_lt_of_mem hx; simp only [Tr.mk.sizeOf_spec]; omega)
end Go.Proofs.YtnhddnfobcofcaaGreatDoor.cr

namespace Go.Proofs.YtnhddnfobcofcaaGreatDoor.cr
open Go.ChangeShapes Go.WideShapes Go.ChangeAt Go.RowKit Go.Deep
open cd (Tr Cn Nd PsO Btw)
set_option linter.unusedVariables false
set_option linter.unusedSimpArgs false

/-! ### impl.ShowCond, impl.Plain -/

theorem sh_step {B : Nat} {O : Nat → Prop} (hO : ∀ bb, O bb → bb < B) {d : Nat} (hw : WIc B O d) : SHc B O (d + 1) := by
  intro t nv v l w ht hn hob hB hl
  obtain ⟨k, n, ps⟩ := t
  obtain ⟨g, pa, pcap, vs, rfl, hOg, hgb, hvl, hps, hsub⟩ := hn
  rw [sh_eq] at hl ⊢
  rcases tok_cases ht with ⟨rfl, rfl⟩ | ⟨rfl, rfl, hk⟩ | ⟨rfl, rfl, x, rfl, hx⟩ | ⟨rfl, hk, h2, hx⟩
  · have hf := ((TOk_eq _ _ _).1 ht).1
    have hn4 : n.size ≤ 4000 := by
      rcases fit_leaf hf with ⟨_, _, h3, _⟩ | ⟨h3, _⟩
      · unfold nm.nameB at h3
        simp only [Bool.and_eq_true, decide_eq_true_eq] at h3
        omega
      · rw [h3]; decide
    exact sh_leaf (.inl rfl) v l w hgb hob hB hn4 (by omega)
  · exact sh_leaf (by omega) v l w hgb hob hB (by decide) (by omega)
  · have hl1 : vs.length = 1 := hvl
    obtain ⟨bb, off, ho, hcell⟩ := hps
    obtain ⟨rfl, hObb⟩ := ho.resolve_left (by omega)
    have h0v : vs[0]? = some (vs[0]'(by omega)) := List.getElem?_eq_getElem (by omega)
    have hx0 := hsub 0 _ x h0v rfl
    obtain ⟨gx, hgx⟩ := Nd.ptr hx0
    rw [hgx] at hx0
    have cx := hcell 0 _ h0v
    rw [hgx, Nat.add_zero] at cx
    rw [hl1] at hgb
    have e : shK 4 (bA []) ([x].map wi) = 33 :: wi x := rfl
    rw [e] at hl ⊢
    rw [List.length_cons] at hl
    exact sh_not hO hw v l w hgb hOg hObb cx hx hx0 hob hB (by omega)
  · have e : shK k (bA []) (ps.map wi) = jn (sgK k) (ps.map wi) := by
      unfold shK
      rw [if_neg (by omega), if_neg (by omega), if_neg (by omega), if_neg (by omega)]
    rw [e] at hl ⊢
    exact sh_row hO hw hk v l w hgb hOg hvl hps hsub hx hob hB hl
theorem show_all {B : Nat} {O : Nat → Prop} (hO : ∀ bb, O bb → bb < B) : ∀ d, SHc B O d ∧ WIc B O d
  | 0 => ⟨fun t nv v l w _ h => h.elim, fun t nv v l w _ h => h.elim⟩
  | d + 1 => by
    have h := sh_step hO (show_all hO d).2
    exact ⟨h, wi_step hO h⟩
/-- A list of conditions that can be read. -/
def LC (w : World) (g c : Nat) (l : List Cn) : Prop := cd.XsB w g l.length (cnE l) ∧ l.length ≤ c ∧ c ≤ maxLen
theorem LC.below {w w' : World} {g c : Nat} {l : List Cn} (h : LC w g c l) (hb : Below w.heap.size w w') : LC w' g c l := ⟨h.1.below hb, h.2⟩
def Nm4 (l : List Cn) : Prop := ∀ x ∈ l, x.name.size ≤ 4000
theorem Nm4.at {l : List Cn} (h : Nm4 l) : ∀ i, i < l.length → (cnE l i).name.size ≤ 1048576 := fun i hi => by have := h _ (List.mem_of_getElem? (cnE_some hi)); omega
/-- THE TEXT. -/
def shB (l : List Cn) : List UInt8 := let s := sh (cd.treeP (cnE l) 61 0); if s.length ≤ 4000 then s else []
def shO (l : List Cn) : List UInt8 := if okL l then shB l else []
/-- THE PLAIN FORM. -/
def plB (l : List Cn) : List Cn := let q := fl (plT l); if q.length ≤ 300 then q else []
def plO (l : List Cn) : List Cn := if okL l then plB l else []
theorem lf_le (l : List Cn) (h : okL l = true) : lf (cd.treeP (cnE l) 61 0) ≤ 300 := by
  obtain ⟨h1, h2, _, _, h5⟩ := okL_tree h
  rw [← lfC_fl _ h2, h1]
  unfold lfC
  exact Nat.le_trans List.countP_le_length h5

set_option maxRecDepth 100000 in
set_option maxHeartbeats 2000000 in
theorem ishow_any (l : List Cn) (g c : Nat) (w : World) (hl : LC w g c l) (hn : l.length ≤ 100000) (hm : Nm4 l) : Calls Tryz.prog 6 #[.slice (some ⟨g, 0, none⟩) l.length c] w fun e w' => e = .returned (.string (bA (shO l))) ∧ Below w.heap.size w w' := by
  have HT := Lib.hid (cd.condTree_any (cnE l) g l.length c ⟨hl.2.1, Nat.le_trans hl.2.2 (by unfold maxLen; omega)⟩ (by omega) hm.at w hl.1)
  obtain ⟨n, hnn⟩ : ∃ n, l.length = n := ⟨_, rfl⟩
  rw [hnn] at HT ⊢
  have HNN := Lib.hid hnn
  clear hl hn hnn
  cases hk : okL l with
  | false =>
    have HE : Hid (bA (shO l) = ⟨#[]⟩) := by show _ = _; unfold shO; rw [hk]; rfl
    have HK : Hid (cd.okAll (cnE l) n = false) := by show _ = _; rw [← HNN.out]; exact hk
    clear hk
    go_enter Tryz.func6, Tryz.ntmps6
    go_wp2_with (go_at_call 19; refine HT.out.mono ?_; rintro e w1 ⟨hti, hl1⟩; obtain rfl : e = .returned (.pointer none) := (by rcases hti with ⟨_, h⟩ | ⟨h, _⟩; exact h; exact absurd h (by rw [HK.out]; simp)); clear hti; have HL1 := Lib.hid hl1; clear hl1)
    go_ret
    exact ⟨by rw [HE.out]; rfl, HL1.out⟩
  | true =>
    have HK : Hid (cd.okAll (cnE l) n = true) := by show _ = _; rw [← HNN.out]; exact hk
    obtain ⟨h1, h2, h3, h4, h5⟩ := okL_tree hk
    have hlf := lf_le l hk
    have hsl := sh_len _ h2
    rw [h1] at hsl
    have HSL : Hid ((sh (cd.treeP (cnE l) 61 0)).length ≤ 30000) := by show _ ≤ _; omega
    have HTK := Lib.hid h2
    have HSO : Hid (shO l = shB l) := by show _ = _; unfold shO; rw [hk]; rfl
    clear hk h1 h2 h3 h4 h5 hsl hlf
    go_enter Tryz.func6, Tryz.ntmps6
    go_wp2_with (go_at_call 19; refine HT.out.mono ?_; rintro e w1 ⟨hti, hl1⟩; obtain ⟨g1, rfl, hnd⟩ : ∃ g1, e = .returned (.pointer (some ⟨g1, 0, none⟩)) ∧ Nd w1 (Btw w.heap.size w1.heap.size) 61 (.pointer (some ⟨g1, 0, none⟩)) (cd.treeP (cnE l) 61 0) := (by rcases hti with ⟨h, _⟩ | ⟨_, g1, h, hh⟩; exact absurd h (by rw [HK.out]; simp); exact ⟨g1, h, hh⟩); clear hti; refine Hid.out ?_)
    refine Lib.hid ?_
    have HL1 := Lib.hid hl1
    obtain ⟨T, hTT⟩ : ∃ T, sh (cd.treeP (cnE l) 61 0) = T := ⟨_, rfl⟩
    have HSH : Hid (Calls Tryz.prog 20 #[.pointer (some ⟨g1, 0, none⟩), .slice none 0 0] w1 fun e w' => ShR w1.heap.size w1 w' T e) := by
      have := (show_all (B := w1.heap.size) (O := Btw w.heap.size w1.heap.size) (fun bb h => h.2) 61).1 (cd.treeP (cnE l) 61 0) (.pointer (some ⟨g1, 0, none⟩)) (.slice none 0 0) [] w1 HTK.out hnd ⟨by rfl, .inl ⟨rfl, rfl⟩⟩ (Nat.le_refl _) (by have := HSL.out; simp; omega)
      rw [List.nil_append, hTT] at this
      exact this
    have HSB : Hid (shB l = if T.length ≤ 4000 then T else []) := by show _ = _; unfold shB; rw [hTT]
    have hTl : T.length ≤ 30000 := by rw [← hTT]; exact HSL.out
    clear hnd hl1 hTT HSL
    go_wp2_with (go_at_call 20; refine HSH.out.mono ?_; rintro e w2 ⟨v2, rfl, ho2, hb2⟩; refine Hid.out ?_)
    refine Lib.hid ?_
    have HB2 : Hid (Below w.heap.size w w2) := HL1.out.trans (hb2.mono HL1.out.size)
    have hconv := own_string (P := Tryz.prog) Tryz.underlying22 Tryz.underlying5 Tryz.underlying9 ho2
    obtain ⟨a2, c2, hv2⟩ := ho2.shape
    subst hv2
    by_cases hT4 : T.length ≤ 4000
    · have HE : Hid (bA (shO l) = ⟨T.toArray⟩) := by show _ = _; rw [HSO.out, HSB.out, if_pos hT4]; rfl
      obtain ⟨m, hm⟩ : ∃ m, T.length = m := ⟨_, rfl⟩
      rw [hm] at hT4 hconv ⊢
      have h4 : ¬ (4000 : Int) < (m : Int) := by omega
      clear ho2 hb2 hm hTl
      go_wp2
      go_ret
      exact ⟨by rw [HE.out]; rfl, HB2.out⟩
    · have HE : Hid (bA (shO l) = ⟨#[]⟩) := by show _ = _; rw [HSO.out, HSB.out, if_neg hT4]; rfl
      obtain ⟨m, hm⟩ : ∃ m, T.length = m := ⟨_, rfl⟩
      rw [hm] at hT4 hconv ⊢
      have h4 : (4000 : Int) < (m : Int) := by omega
      clear ho2 hb2 hm hTl hconv
      go_wp2
      go_ret
      exact ⟨by rw [HE.out]; rfl, HB2.out⟩
end Go.Proofs.YtnhddnfobcofcaaGreatDoor.cr
