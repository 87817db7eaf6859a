import Derived.Test.YtklgeahgaeodiaaDoorRD1
namespace Go.Proofs.YtklgeahgaeodiaaDoor.cr
open Go.ChangeShapes Go.WideShapes Go.ChangeAt Go.RowKit Go.Deep
open cd (Tr Cn Nd PsO Btw)
set_option linter.unusedVariables false
set_option linter.unusedSimpArgs false

/-! ### What is read is small; impl.ReadCond -/

/-- What a reader of a part makes is small. -/
def Sm (p : Pz) : Prop := ∀ l t r, p l = some (t, r) → (fl t).length + 1 + 2 * r.length ≤ 2 * l.length ∧ ∀ c ∈ fl t, c.name.size ≤ 60
theorem leaf_fl (k : Int) (n : ByteArray) : fl (.mk k n []) = [⟨k, n, 0⟩] := by rw [fl_eq]; rfl
theorem wd_sm : Sm wd := fun l t r h => by
  have hlt := wd_lt h
  unfold wd at h
  simp only at h
  split at h
  · cases h; rw [leaf_fl]; refine ⟨by simp; omega, fun c hc => ?_⟩; rw [List.mem_singleton.1 hc]; rw [bA_size]; simp
  · split at h
    · cases h; rw [leaf_fl]; refine ⟨by simp; omega, fun c hc => ?_⟩; rw [List.mem_singleton.1 hc]; rw [bA_size]; simp
    · split at h
      · rename_i h1
        cases h
        rw [leaf_fl]
        refine ⟨by simp; omega, fun c hc => ?_⟩
        rw [List.mem_singleton.1 hc]
        unfold nm.nameB at h1
        simp only [Bool.and_eq_true, decide_eq_true_eq] at h1
        exact h1.1.1.2
      · cases h
theorem rowL_sm {sign : UInt8} {p : Pz} (hp : Sm p) : ∀ k l ts r, rowL sign p k l = some (ts, r) → (flL ts).length + ts.length + 2 * r.length ≤ 2 * l.length ∧ (∀ c ∈ flL ts, c.name.size ≤ 60) ∧ 0 < ts.length
  | 0, l, ts, r, h => by simp [rowL] at h
  | k + 1, l, ts, r, h => by
    unfold rowL at h
    cases hq : p l with
    | none => rw [hq] at h; simp at h
    | some x =>
      obtain ⟨t, r1⟩ := x
      obtain ⟨h1, hn⟩ := hp l t r1 hq
      have h2 := skip_len r1
      rw [hq] at h
      simp only at h
      cases hs : skip r1 with
      | nil =>
        rw [hs] at h
        simp at h
        obtain ⟨rfl, rfl⟩ := h
        rw [flL_one]
        exact ⟨by simp; omega, hn, by simp⟩
      | cons c q =>
        rw [hs] at h h2
        simp only at h
        split at h
        · rw [Option.map_eq_some_iff] at h
          obtain ⟨y, hy, e⟩ := h
          cases e
          obtain ⟨a1, a2, a3⟩ := rowL_sm hp k q y.1 y.2 hy
          simp only [List.length_cons] at h2
          refine ⟨?_, fun c hc => ?_, by simp⟩
          · rw [flL_cons, List.length_append, List.length_cons]; omega
          · rw [flL_cons] at hc
            rcases List.mem_append.1 hc with hc | hc
            · exact hn c hc
            · exact a2 c hc
        · cases h
          rw [flL_one]
          exact ⟨by simp at h2 ⊢; omega, hn, by simp⟩
theorem one_sm {p0 p2 : Pz} (h0 : Sm p0) (h2 : Sm p2) : Sm (oneP p0 p2) := fun l t r h => by
  have hl := skip_len l
  unfold oneP at h
  cases hs : skip l with
  | nil =>
    rw [hs] at h
    have := wd_sm [] t r h
    exact ⟨by have := this.1; simp at this, this.2⟩
  | cons c q =>
    rw [hs] at h hl
    simp only at h
    simp at hl
    split at h
    · rw [Option.map_eq_some_iff] at h
      obtain ⟨x, hx, e⟩ := h
      cases e
      obtain ⟨a1, a2⟩ := h0 q x.1 x.2 hx
      rw [fl_eq, flL_one]
      refine ⟨by simp; omega, fun c hc => ?_⟩
      rcases List.mem_cons.1 hc with rfl | hc
      · rw [bA_size]; simp
      · exact a2 c hc
    · split at h
      · cases hp : p2 q with
        | none => rw [hp] at h; simp at h
        | some x =>
          obtain ⟨t1, r1⟩ := x
          obtain ⟨a1, a2⟩ := h2 q t1 r1 hp
          have h3 := skip_len r1
          rw [hp] at h
          simp only at h
          cases hs2 : skip r1 with
          | nil => rw [hs2] at h; simp at h
          | cons d s =>
            rw [hs2] at h h3
            simp only at h
            split at h
            · cases h; simp at h3; exact ⟨by omega, a2⟩
            · cases h
      · have := wd_sm (c :: q) t r h
        exact ⟨by have := this.1; simp at this; omega, this.2⟩
theorem row_sm {kind : Int} {sign : UInt8} {p : Pz} (h0 : Sm p) : Sm (rowP kind sign p) := fun l t r h => by
  unfold rowP at h
  rw [Option.map_eq_some_iff] at h
  obtain ⟨x, hx, e⟩ := h
  cases e
  obtain ⟨a1, a2, a3⟩ := rowL_sm h0 _ l x.1 x.2 hx
  by_cases h1 : x.1.length = 1
  · obtain ⟨y, hy⟩ := List.length_eq_one_iff.1 h1
    rw [hy] at a1 a2 ⊢
    rw [flL_one] at a1 a2
    exact ⟨by simp at a1; exact a1, a2⟩
  · rw [mkR_many h1, fl_eq]
    refine ⟨by rw [List.length_cons]; omega, fun c hc => ?_⟩
    rcases List.mem_cons.1 hc with rfl | hc
    · rw [bA_size]; simp
    · exact a2 c hc
theorem P_sm : ∀ f lv, Sm (P f lv)
  | 0, lv => fun l t r h => by simp [P] at h
  | f + 1, lv => fun l t r h => by
    unfold P at h
    split at h
    · exact one_sm (P_sm f 0) (P_sm f 2) l t r h
    · split at h
      · exact row_sm (P_sm f 0) l t r h
      · exact row_sm (P_sm f 1) l t r h

def cnE (l : List Cn) (i : Nat) : Cn := (l[i]?).getD ⟨0, bA [], 0⟩
theorem cnE_some {l : List Cn} {i : Nat} (h : i < l.length) : l[i]? = some (cnE l i) := by unfold cnE; rw [List.getElem?_eq_getElem h]; rfl
/-- Is the list one that can be? -/
def okL (l : List Cn) : Bool := cd.okAll (cnE l) l.length
/-- THE ANSWER of both. -/
def rcB (s : List UInt8) : Option (List Cn) := match P 12003 2 s with
  | none => none
  | some (t, r) => if (skip r).isEmpty = true ∧ okL (fl t) = true then some (fl t) else none
def rcO (S : ByteArray) : Option (List Cn) := if S.size ≤ 4000 then rcB S.data.toList else none
def rcL (S : ByteArray) : List Cn := (rcO S).getD []
def rcK (S : ByteArray) : Bool := (rcO S).isSome
theorem OC.xs {B : Nat} {w : World} {g c : Nat} {l : List Cn} (h : OC B w (.slice (some ⟨g, 0, none⟩) l.length c) l) : cd.XsB w g l.length (cnE l) ∧ l.length ≤ c ∧ c ≤ maxLen := by
  rcases h.2 with ⟨h1, _⟩ | ⟨g', c', cur, h1, h2, h3, h4, h5, _⟩
  · cases h1
  · cases h1
    refine ⟨fun i hi => ?_, h4, h5⟩
    have hc := World.ownsRow.cells h (g := g) rfl
    obtain ⟨k1, k2, k3⟩ := cnV_at (cnE_some hi)
    have at_ : ∀ j u, (cnV l)[j]? = some u → w.cell? ⟨g, j, none⟩ = some u := fun j u hj => by
      have := hc j u hj
      rw [addr_add, Nat.zero_add] at this
      exact this
    exact ⟨at_ _ _ k1, at_ _ _ k2, at_ _ _ k3⟩
theorem OC.nil (w : World) : OC w.heap.size (w.alloc (.cells #[] 43)) (.slice (some ⟨w.heap.size, 0, none⟩) 0 0) [] := World.ownsRow_made w #[] 0 (Nat.le_refl _) (Nat.zero_le _) rfl
theorem OC.at_ {B : Nat} {w : World} {v : Value} {l : List Cn} (h : OC B w v l) (h0 : 0 < l.length) : ∃ g c, v = .slice (some ⟨g, 0, none⟩) l.length c := by
  rcases h.2 with ⟨_, h1⟩ | ⟨g, c, _, e, _⟩
  · omega
  · exact ⟨g, c, e⟩
theorem OC.mono {B B' : Nat} {w : World} {v : Value} {l : List Cn} (h : OC B w v l) (hb : B' ≤ B) : OC B' w v l := by
  refine ⟨h.1, ?_⟩
  rcases h.2 with h1 | ⟨g, c, cur, e, h2, h3⟩
  · exact .inl h1
  · exact .inr ⟨g, c, cur, e, Nat.le_trans hb h2, h3⟩
/-- What ReadCond answers. -/
def RcR (S : ByteArray) (w w' : World) (e : Ending) : Prop := ∃ g c, e = .returned (.tuple #[.slice (some ⟨g, 0, none⟩) (rcL S).length c, .bool (rcK S)]) ∧ OC w.heap.size w' (.slice (some ⟨g, 0, none⟩) (rcL S).length c) (rcL S)
theorem rcr_no {S : ByteArray} {w W : World} (h : rcO S = none) (hb : w.heap.size ≤ W.heap.size) : RcR S w (W.alloc (.cells #[] 43)) (.returned (.tuple #[.slice (some ⟨W.heap.size, 0, none⟩) 0 0, .bool false])) := by
  have e1 : rcL S = [] := by unfold rcL; rw [h]; rfl
  have e2 : rcK S = false := by unfold rcK; rw [h]; rfl
  refine ⟨W.heap.size, 0, by rw [e1, e2]; rfl, ?_⟩
  rw [e1]
  exact (OC.nil W).mono hb

set_option maxRecDepth 100000 in
set_option maxHeartbeats 4000000 in
theorem iread_any (S : ByteArray) (w : World) (hs : S.size ≤ 1048576) :
    Calls Tryd.prog 5 #[.string S] w fun e w' => RcR S w w' e ∧ Below w.heap.size w w' := by
  by_cases hs4 : S.size ≤ 4000
  · have h4 : ¬ (4000 : Int) < (S.size : Int) := by omega
    obtain ⟨W1, hW1⟩ : ∃ W1, W1 = w.alloc (.cells #[.string S] 36) := ⟨_, rfl⟩
    have hrd : Rd W1 w.heap.size S := ⟨_, by rw [hW1]; exact blk_alloc_new _ _, rfl, fun i hi => by
      match i, hi with
      | 0, _ => rfl⟩
    have HB1 : Hid (Below w.heap.size w W1) := by show Below _ _ _; rw [hW1]; exact (Below.refl _ _).alloc (Nat.le_refl _) _
    have HZ1 : Hid (W1.heap.size = w.heap.size + 1) := by show _ = _; rw [hW1]; simp
    have HANY := Lib.hid ((read_all 12003).2.2 S w.heap.size W1 hrd hs4 (by omega))
    have HW1 := Lib.hid hW1
    have HRC : Hid (rcO S = rcB S.data.toList) := if_pos hs4
    unfold rcB at HRC
    have HSM := Lib.hid (P_sm 12003 2 S.data.toList)
    have hlS := lenS S
    clear hrd hW1
    cases hp : P 12003 2 S.data.toList with
    | none =>
      rw [hp] at HANY HRC
      clear hp HSM
      go_enter Tryd.func5, Tryd.ntmps5
      go_upto_region 4 with fail
      rw [← HW1.out]
      go_wp2_with (go_at_call 12; refine HANY.out.mono ?_; rintro e w2 hres; obtain rfl := hres.no rfl; have HG := Lib.hid hres.gr; clear hres)
      go_ret2
      have hb2 : Below w.heap.size w w2 := HB1.out.grown HG.out HB1.out.size (fun k hk => by cases hk; exact Nat.le_refl _)
      exact ⟨rcr_no HRC.out hb2.size, hb2.alloc hb2.size _⟩
    | some x =>
      obtain ⟨t, r⟩ := x
      rw [hp] at HANY HRC
      obtain ⟨hsm, hnm⟩ := HSM.out t r hp
      rw [hlS] at hsm
      have hrl := P_lt 12003 2 _ t r hp
      rw [hlS] at hrl
      have HNM := Lib.hid hnm
      have HPOS := Lib.hid (fl_pos t)
      clear hp HSM hnm
      go_enter Tryd.func5, Tryd.ntmps5
      go_upto_region 4 with fail
      rw [← HW1.out]
      go_wp2_with (go_at_call 12; refine HANY.out.mono ?_; rintro e w2 hres; obtain ⟨g2, rfl, hn2⟩ := hres.yes t r rfl; obtain ⟨T2, hr2, ht2⟩ := hres.rd; have hT2 := ht2 t r rfl; have HG := Lib.hid hres.gr; clear hres ht2; refine Hid.out ?_)
      refine Lib.hid ?_
      have HB2 : Hid (Below w.heap.size w w2) := HB1.out.grown HG.out HB1.out.size (fun k hk => by cases hk; exact Nat.le_refl _)
      have HAE := Lib.hid (atEnd_any T2 w.heap.size w2 hr2 (by rw [← lenS, hT2]; omega))
      rw [hT2] at HAE
      have HN2 := Lib.hid hn2
      have hz2 := HG.out.size
      clear hn2 hr2 HANY
      cases hse : (skip r).isEmpty with
      | false =>
        rw [hse] at HAE
        have HE : Hid (rcO S = none) := by show _ = _; rw [HRC.out, if_neg (by rw [hse]; simp)]
        clear HRC hse
        go_wp2_with (go_at_call 13; refine HAE.out.mono ?_; rintro e w3 ⟨rfl, hg3⟩; have HG3 := Lib.hid hg3; clear hg3)
        go_ret2
        have hb3 : Below w.heap.size w w3 := HB2.out.grown HG3.out HB2.out.size (fun k hk => by cases hk; exact Nat.le_refl _)
        exact ⟨rcr_no HE.out hb3.size, hb3.alloc hb3.size _⟩
      | true =>
        rw [hse] at HAE
        go_wp2_with (go_at_call 13; refine HAE.out.mono ?_; rintro e w3 ⟨rfl, hg3⟩; refine Hid.out ?_)
        refine Lib.hid ?_
        have HB3 : Hid (Below w.heap.size w w3) := HB2.out.grown hg3 HB2.out.size (fun k hk => by cases hk; exact Nat.le_refl _)
        have hnd3 : Nd w3 (Btw (w.heap.size + 1) w3.heap.size) 12003 (.pointer (some ⟨g2, 0, none⟩)) t := by
          rw [HZ1.out] at HN2
          exact Nd.kept (fun bb ⟨a, b⟩ => hg3.block bb b (fun e => by have := Option.some.inj e; omega)) (fun bb ⟨a, b⟩ => ⟨a, Nat.lt_of_lt_of_le b hg3.size⟩) 12003 HN2.out
        have hAl : Below w3.heap.size w3 (w3.alloc (.cells #[] 43)) := (Below.refl _ _).alloc (Nat.le_refl _) _
        have HAP := Lib.hid (app_any w3.heap.size (Btw (w.heap.size + 1) w3.heap.size) 12003 t (.pointer (some ⟨g2, 0, none⟩)) (.slice (some ⟨w3.heap.size, 0, none⟩) 0 0) [] (w3.alloc (.cells #[] 43)) (Nd.kept (fun bb ⟨a, b⟩ => hAl.block bb b) (fun bb h => h) 12003 hnd3) (fun bb ⟨a, b⟩ => ⟨by simp; omega, by simp [Value.ownBlock]; omega⟩) (OC.nil w3) (by simp) (by simp; omega) (fun c hc => by have := HNM.out c hc; omega))
        rw [List.nil_append] at HAP
        have HSE := Lib.hid hse
        clear hg3 hnd3 hAl HAE HN2 hse
        go_wp2_with (go_at_call 14; refine HAP.out.mono ?_; rintro e w4 ⟨v4, rfl, hoc4, hak4⟩; obtain ⟨g4, c4, rfl⟩ := hoc4.at_ HPOS.out; refine Hid.out ?_)
        refine Lib.hid ?_
        have HB4 : Hid (Below w.heap.size w w4) := by
          have h1 := HB3.out.alloc HB3.out.size (.cells #[] 43)
          exact h1.grown hak4.gr h1.size (fun k hk => by simp [Value.ownBlock] at hk; have := HB3.out.size; omega)
        obtain ⟨hx4, hc4, hm4⟩ := hoc4.xs
        have HOK := Lib.hid (cd.iok_any (cnE (fl t)) g4 (fl t).length c4 ⟨hc4, Nat.le_trans hm4 (by unfold maxLen; omega)⟩ (by omega) (fun i hi => by have := HNM.out (cnE (fl t) i) (List.mem_of_getElem? (cnE_some hi)); omega) w4 hx4)
        have HO4 := Lib.hid hoc4
        clear hoc4 hak4 hx4 HAP
        cases hk : okL (fl t) with
        | false =>
          rw [show cd.okAll (cnE (fl t)) (fl t).length = false from hk] at HOK
          have HE : Hid (rcO S = none) := by show _ = _; rw [HRC.out, if_neg (by rw [hk]; simp)]
          clear HRC hk
          go_wp2_with (go_at_call 15; refine HOK.out.mono ?_; rintro e w5 ⟨rfl, hl5⟩; have HL5 := Lib.hid hl5; clear hl5)
          go_ret2
          have hb5 : Below w.heap.size w w5 := HB4.out.trans (HL5.out.mono HB4.out.size)
          exact ⟨rcr_no HE.out hb5.size, hb5.alloc hb5.size _⟩
        | true =>
          rw [show cd.okAll (cnE (fl t)) (fl t).length = true from hk] at HOK
          have HE : Hid (rcO S = some (fl t)) := by show _ = _; rw [HRC.out, if_pos ⟨HSE.out, hk⟩]
          clear HRC hk
          go_wp2_with (go_at_call 15; refine HOK.out.mono ?_; rintro e w5 ⟨rfl, hl5⟩; have HL5 := Lib.hid hl5; clear hl5)
          go_ret2
          have e1 : rcL S = fl t := by unfold rcL; rw [HE.out]; rfl
          have e2 : rcK S = true := by unfold rcK; rw [HE.out]; rfl
          refine ⟨⟨g4, c4, by rw [e1, e2]; rfl, ?_⟩, HB4.out.trans (HL5.out.mono HB4.out.size)⟩
          rw [e1]
          exact (HO4.out.below HL5.out).mono HB3.out.size
  · have h4 : (4000 : Int) < (S.size : Int) := by omega
    have HE : Hid (rcO S = none) := if_neg hs4
    clear hs4
    go_enter Tryd.func5, Tryd.ntmps5
    go_wp2
    go_ret2
    exact ⟨rcr_no HE.out (Nat.le_refl _), (Below.refl _ _).alloc (Nat.le_refl _) _⟩
end Go.Proofs.YtklgeahgaeodiaaDoor.cr
