import Derived.Test.YtklgeahgaeodiaaDoorRV1
import Derived.Deep.Cut
namespace Go.Proofs.YtklgeahgaeodiaaDoor.cr
open Go.ChangeShapes Go.WideShapes Go.ChangeAt Go.RowKit Go.Deep
open cd (Tr Cn infoE)
set_option linter.unusedVariables false
set_option linter.unusedSimpArgs false

/-! ### The specification's reader: words -/

theorem one_wd {p0 p2 : Pz} {l : List UInt8} (h1 : pkN l ≠ 33) (h2 : pkN l ≠ 40) : oneP p0 p2 l = wd (skip l) := by
  unfold oneP
  unfold pkN at h1 h2
  cases hs : skip l with
  | nil => rfl
  | cons c q =>
    rw [hs] at h1 h2
    simp only at h1 h2
    simp only
    rw [if_neg (fun e => h1 (by rw [e]; rfl)), if_neg (fun e => h2 (by rw [e]; rfl))]
theorem tw_in {l : List UInt8} : ∀ {m : Nat}, m < (l.takeWhile nb).length → ∃ c, l[m]? = some c ∧ nb c = true := by
  intro m hm
  have h1 : (l.takeWhile nb)[m]? = some (l.takeWhile nb)[m] := List.getElem?_eq_getElem hm
  refine ⟨(l.takeWhile nb)[m], ?_, ?_⟩
  · have e : l[m]? = (l.takeWhile nb)[m]? := by
      conv => lhs; rw [← List.takeWhile_append_dropWhile (p := nb) (l := l)]
      rw [List.getElem?_append_left hm]
    rw [e]
    exact h1
  · exact (List.all_takeWhile (p := nb) (l := l) |> List.all_eq_true.1) _ (List.getElem_mem hm)
theorem tw_out {l : List UInt8} {c : UInt8} (h : l[(l.takeWhile nb).length]? = some c) : nb c = false := by
  induction l with
  | nil => simp at h
  | cons a l ih =>
    cases ha : nb a with
    | false =>
      rw [List.takeWhile_cons, ha] at h
      simp at h
      rw [← h]; exact ha
    | true =>
      rw [List.takeWhile_cons, ha] at h
      simp at h
      exact ih h
/-- A leaf that is made. -/
theorem rw_leaf {w wr : World} {rb j f : Nat} {S : ByteArray} {b : Bool} (hs : Sr wr rb S j b) (hg : w.grownBy wr (some rb)) (hl : rb < w.heap.size) (hj : j ≤ S.size + f) (k : Int) (n : ByteArray) (hn : n.size ≤ 4000) : Rw w rb S f (wr.alloc (.cells #[.int .i64 k, .string n, .int .i64 0] 43)) j b wr.heap.size 1 [⟨k, n, 0⟩] 1 := by
  have hb : Below wr.heap.size wr (wr.alloc (.cells #[.int .i64 k, .string n, .int .i64 0] 43)) := (Below.refl _ _).alloc (Nat.le_refl _) _
  exact ⟨hs.to (hb.block rb hs.lt), gr_below hg hb, (OC.one wr ⟨k, n, 0⟩).mono hg.size, hl, hj, fun x hx => by rw [List.mem_singleton.1 hx]; exact hn, by simp, Nat.le_refl _⟩
theorem ext_mid {S : ByteArray} {k n : Nat} (h : k + n ≤ S.size) : S.extract k (k + n) = bA ((S.data.toList.drop k).take n) := by
  apply ByteArray.ext
  apply Array.toList_inj.1
  rw [bA_list, ByteArray.data_extract]
  simp

set_option maxRecDepth 100000 in
set_option maxHeartbeats 8000000 in
theorem one_word (f : Nat) (S : ByteArray) (rb i d : Nat) (w : World) (hsr : Sr w rb S i false) (hs : S.size ≤ 4000) (hi : i ≤ S.size) (h1 : pkN (S.data.toList.drop i) ≠ 33) (h2 : pkN (S.data.toList.drop i) ≠ 40) :
    Calls Tryd.prog 25 #[.pointer (some ⟨rb, 0, none⟩), .int .i64 (d : Int)] w fun e w' => SRes w w' rb S (f + 1) (wd (skip (S.data.toList.drop i))) e := by
  have hlt := hsr.lt
  have HPK := Lib.hid (peek_any S rb i false w hsr hs (by omega))
  obtain ⟨pv, hpv⟩ : ∃ pv, pkN (S.data.toList.drop i) = pv := ⟨_, rfl⟩
  have HPV := Lib.hid hpv
  rw [hpv] at h1 h2
  have h1' : ¬ (pv : Int) = 33 := by omega
  have h2' : ¬ (pv : Int) = 40 := by omega
  obtain ⟨L, hL⟩ : ∃ L, skip (S.data.toList.drop i) = L := ⟨_, rfl⟩
  have HL := Lib.hid hL
  rw [hL]
  obtain ⟨n, hn⟩ : ∃ n, (L.takeWhile nb).length = n := ⟨_, rfl⟩
  have HN := Lib.hid hn
  have HWD : Hid (wd L = if L.takeWhile nb = cd.tw then some (.mk 2 (bA []) [], L.dropWhile nb) else if L.takeWhile nb = cd.fw then some (.mk 3 (bA []) [], L.dropWhile nb) else if nm.nameB (bA (L.takeWhile nb)) = true then some (.mk 1 (bA (L.takeWhile nb)) [], L.dropWhile nb) else none) := rfl
  have hnL : n ≤ L.length := by rw [← hn]; have := nb_tw (l := L); omega
  clear hsr hpv h1 h2 hL hn
  go_enter Tryd.func25, Tryd.ntmps25
  go_wp2_with (go_at_call 10; refine HPK.out.mono ?_; rintro e w1 hpk; obtain ⟨rfl, hg1, hz1, k, hk1, hk2, hk3, hk4, hsr1⟩ := hpk; rw [HPV.out]; refine Hid.out ?_)
  refine Lib.hid ?_
  rw [HL.out] at hk4
  have hkS := hk2 hi
  have hLl : L.length = S.size - k := by rw [← hk4, drop_len]
  have HIN : Hid (∀ j, k ≤ j → j < k + n → ∃ h : j < S.size, nb S[j] = true) := fun j a1 a2 => by
    have hj : j < S.size := by omega
    obtain ⟨c, e1, e2⟩ := tw_in (l := L) (m := j - k) (by rw [HN.out]; omega)
    refine ⟨hj, ?_⟩
    rw [← hk4, List.getElem?_drop, show k + (j - k) = j by omega] at e1
    obtain ⟨_, e3⟩ := get_at e1
    rw [e3]; exact e2
  have HOUT : Hid (∀ h : k + n < S.size, nb S[k + n] = false) := fun h => by
    refine tw_out (l := L) ?_
    rw [HN.out, ← hk4, List.getElem?_drop]
    exact List.getElem?_eq_getElem (by rw [lenS]; exact h)
  have hx1 : S.extract k (k + n) = bA (L.takeWhile nb) := by
    rw [ext_mid (by omega), hk4]
    congr 1
    have := List.takeWhile_append_dropWhile (p := nb) (l := L)
    conv => lhs; rw [← this]
    rw [List.take_left' HN.out]
  have HDW : Hid (S.data.toList.drop (k + n) = L.dropWhile nb) := by
    show _ = _
    rw [← List.drop_drop, hk4]
    have := List.takeWhile_append_dropWhile (p := nb) (l := L)
    conv => lhs; rw [← this]
    rw [List.drop_left' HN.out]
  have HSR1 := Lib.hid hsr1
  have HG1 := Lib.hid hg1
  have hc1 := hsr1.c1
  have hkn : k + n ≤ S.size := by omega
  have htl : (bA (L.takeWhile nb)).toList = L.takeWhile nb := by rw [ByteArray.toList_eq, bA_list]
  have HNM := Lib.hid (fun W => nm.spec_any (bA (L.takeWhile nb)) (by rw [bA_size, HN.out]; omega) W)
  have hns : (bA (L.takeWhile nb)).size ≤ 4000 := by rw [bA_size, HN.out]; omega
  obtain ⟨tk, htk⟩ : ∃ q, L.takeWhile nb = q := ⟨_, rfl⟩
  obtain ⟨dk, hdk⟩ : ∃ q, L.dropWhile nb = q := ⟨_, rfl⟩
  rw [htk] at hx1 htl HWD HNM hns
  rw [hdk] at HDW HWD
  clear htk hdk hsr1 hg1 hk4 HPK HPV HL HN hk2 hk3 hz1
  go_upto_region 13 with fail
  clear hc1
  rw [show ((pv : Int) == 33) = false from beq_eq_false_iff_ne.2 h1', show ((pv : Int) == 40) = false from beq_eq_false_iff_ne.2 h2']
  go_loopg [] (S.size + 1) (fun q wr => ∃ j : Nat, k ≤ j ∧ j ≤ k + n ∧ Sr wr rb S j false ∧ w.grownBy wr (some rb) ∧ S.size - j ≤ q)
  case atStart => exact ⟨k, Nat.le_refl _, by omega, HSR1.out, HG1.out, by omega⟩
  case round =>
    clear HSR1 HG1
    obtain ⟨j, hj1, hj2, hsr, hgr, hq⟩ := hrel
    have HSR := Lib.hid hsr
    have HGR := Lib.hid hgr
    have d0 : wr.drew.cell? ⟨rb, 0, none⟩ = some (.string S) := hsr.c0
    have d1 : wr.drew.cell? ⟨rb, 1, none⟩ = some (.int .i64 (j : Int)) := hsr.c1
    have hj0 : (0 : Int) ≤ (j : Int) := by omega
    clear hsr hgr
    by_cases hjn : j < k + n
    · obtain ⟨hjS, hnb⟩ := HIN.out j hj1 hjn
      have hlt' : (j : Int) < (S.size : Int) := by omega
      have HNB : Hid (∀ W, Calls Tryd.prog 35 #[.int .u8 (S[j].toNat : Int)] W fun e w' => e = .returned (.bool true) ∧ w' = W) := fun W => by have := nby_any (S[j].toNat : Int) W; rw [show nm.okB (S[j].toNat : Int) = true from hnb] at this; exact this
      have HS2 : Hid (Sr (wr.drew.setCell ⟨rb, 1, none⟩ (.int .i64 ((j + 1 : Nat) : Int))) rb S (j + 1) false) := Sr.seti (W := wr.drew) HSR.out (j + 1)
      have HG2 : Hid (w.grownBy (wr.drew.setCell ⟨rb, 1, none⟩ (.int .i64 ((j + 1 : Nat) : Int))) (some rb)) := gr_trans (gr_drew HGR.out) (gr_set _ _ _ _)
      have f1 : wr.drew.frozen? ⟨rb, 1, none⟩ = false := HSR.out.f 1
      have hwk : IntKind.i64.wrap ((j : Int) + 1) = ((j + 1 : Nat) : Int) := by rw [IntKind.wrap_i64]; omega
      clear hnb
      go_upto_region 13 with fail
      refine wq 22 (S := fun W => W.cell? ⟨rb, 0, none⟩ = some (.string S) ∧ W.cell? ⟨rb, 1, none⟩ = some (.int .i64 (j : Int))) (by kernel_rfl) ⟨d0, d1⟩ fun hHeld => ?_
      iterate 20 (refine un 22 rfl ?_; try simp only [aP])
      refine rq 20 rfl fun K hK => ?_
      go_simp
      (go_at_call 35; refine (HNB.out _).mono ?_; rintro e w5 ⟨rfl, hw⟩; obtain rfl := hw.symm; clear hw)
      try go_wp2_with fail
      refine hK.out _ _ ⟨d0, d1⟩ (fun hHeld => ?_)
      clear hK K
      try simp only [aP]
      refine un 22 rfl ?_
      try simp only [aP]
      refine dq ?_
      clear hHeld
      go_wp2
      try rw [show ((j : Int) + 1) = ((j + 1 : Nat) : Int) by simp]
      go_roundg (S.size - (j + 1))
      case measure => omega
      case rel => exact ⟨j + 1, by omega, by omega, HS2.out, HG2.out, Nat.le_refl _⟩
    · obtain rfl : j = k + n := by omega
      have ec : ((k + n : Nat) : Int) = (k : Int) + (n : Int) := by simp
      have e0 : wr.drew.drew.cell? ⟨rb, 0, none⟩ = some (.string S) := d0
      have e1 : wr.drew.drew.cell? ⟨rb, 1, none⟩ = some (.int .i64 ((k + n : Nat) : Int)) := d1
      obtain ⟨kn, hkn'⟩ : ∃ kn, k + n = kn := ⟨_, rfl⟩
      rw [hkn'] at hx1 HDW HSR d1 e1 HOUT hkn
      have hk0 : (0 : Int) ≤ (k : Int) := by omega
      have hkk : (k : Int) ≤ (kn : Int) := by omega
      have hkS' : (kn : Int) ≤ (S.size : Int) := by omega
      have HRL : Hid (∀ (b : Bool) (W : World) (kk : Int) (nn : ByteArray), Sr W rb S kn b → w.grownBy W (some rb) → nn.size ≤ 4000 → Rw w rb S (f + 1) (W.alloc (.cells #[.int .i64 kk, .string nn, .int .i64 0] 43)) kn b W.heap.size 1 [⟨kk, nn, 0⟩] 1) := fun b W kk nn a1 a2 a3 => rw_leaf a1 a2 hlt (by omega) kk nn a3
      by_cases hb : kn < S.size
      · have hlt' : (kn : Int) < (S.size : Int) := by omega
        have hkn0 : (0 : Int) ≤ (kn : Int) := by omega
        have hnb : nb S[kn] = false := HOUT.out hb
        have HNB : Hid (∀ W, Calls Tryd.prog 35 #[.int .u8 (S[kn].toNat : Int)] W fun e w' => e = .returned (.bool false) ∧ w' = W) := fun W => by have := nby_any (S[kn].toNat : Int) W; rw [show nm.okB (S[kn].toNat : Int) = false from hnb] at this; exact this
        clear hnb
        go_upto_region 13 with fail
        refine wq 22 (S := fun W => W.cell? ⟨rb, 0, none⟩ = some (.string S) ∧ W.cell? ⟨rb, 1, none⟩ = some (.int .i64 (kn : Int))) (by kernel_rfl) ⟨d0, d1⟩ fun hHeld => ?_
        iterate 20 (refine un 22 rfl ?_; try simp only [aP])
        refine rq 20 rfl fun K hK => ?_
        go_simp
        (go_at_call 35; refine (HNB.out _).mono ?_; rintro e w5 ⟨rfl, hw⟩; obtain rfl := hw.symm; clear hw)
        try go_wp2_with fail
        refine hK.out _ _ ⟨d0, d1⟩ (fun hHeld => ?_)
        clear hK K
        try simp only [aP]
        refine un 22 rfl ?_
        try simp only [aP]
        refine dq ?_
        clear hHeld HNB
        have HSD : Hid (Sr wr.drew.drew rb S kn false) := HSR.out
        have HGD : Hid (w.grownBy wr.drew.drew (some rb)) := gr_drew (gr_drew HGR.out)
        clear d0 d1 HOUT HIN HSR HGR
        go_upto_region 15 with fail
        refine wq 11 (S := fun W => W.cell? ⟨rb, 0, none⟩ = some (.string S) ∧ W.cell? ⟨rb, 1, none⟩ = some (.int .i64 (kn : Int))) (by kernel_rfl) ⟨e0, e1⟩ fun hHeld => ?_
        iterate 11 (refine un 11 rfl ?_; try simp only [aP])
        refine dq ?_
        clear hHeld e0 e1
        generalize wr.drew.drew = W5 at *
        by_cases ht : tk = cd.tw
        · have HW : Hid (wd L = some (.mk 2 (bA []) [], dk)) := by show _ = _; rw [HWD.out, if_pos ht]
          have hq : (bA tk).toList = [116, 114, 117, 101] := by rw [htl, ht]; rfl
          have HFF := Lib.hid ((HRL.out false W5 2 (bA []) HSD.out HGD.out (by rw [bA_size]; simp)).done (m := wd L) ⟨(fun e => by cases e), fun _ => ⟨.mk 2 (bA []) [], by rw [HW.out, HDW.out], hkn, .inl (leaf_fl 2 (bA [])).symm⟩⟩)
          clear ht HWD htl HW
          go_wp2
          go_ret
          exact HFF.out
        · by_cases hf : tk = cd.fw
          · have HW : Hid (wd L = some (.mk 3 (bA []) [], dk)) := by show _ = _; rw [HWD.out, if_neg ht, if_pos hf]
            have hq : ((bA tk).toList == [116, 114, 117, 101]) = false := by rw [htl, hf]; rfl
            have hq2 : (bA tk).toList = [102, 97, 108, 115, 101] := by rw [htl, hf]; rfl
            have HFF := Lib.hid ((HRL.out false W5 3 (bA []) HSD.out HGD.out (by rw [bA_size]; simp)).done (m := wd L) ⟨(fun e => by cases e), fun _ => ⟨.mk 3 (bA []) [], by rw [HW.out, HDW.out], hkn, .inl (leaf_fl 3 (bA [])).symm⟩⟩)
            clear ht hf HWD htl HW
            go_wp2
            go_ret
            exact HFF.out
          · have hq : ((bA tk).toList == [116, 114, 117, 101]) = false := by rw [htl]; simpa [cd.tw] using ht
            have hq2 : ((bA tk).toList == [102, 97, 108, 115, 101]) = false := by rw [htl]; simpa [cd.fw] using hf
            cases hn : nm.nameB (bA tk) with
            | true =>
              have HW : Hid (wd L = some (.mk 1 (bA tk) [], dk)) := by show _ = _; rw [HWD.out, if_neg ht, if_neg hf, if_pos hn]
              rw [hn] at HNM
              have HFF := Lib.hid ((HRL.out false W5 1 (bA tk) HSD.out HGD.out hns).done (m := wd L) ⟨(fun e => by cases e), fun _ => ⟨.mk 1 (bA tk) [], by rw [HW.out, HDW.out], hkn, .inl (leaf_fl 1 (bA tk)).symm⟩⟩)
              clear ht hf HWD htl HW hn
              go_wp2_with (go_at_call 28; refine (HNM.out _).mono ?_; rintro e w7 ⟨rfl, hw⟩; have hw2 := hw.symm; subst hw2; clear hw)
              go_ret
              exact HFF.out
            | false =>
              have HW : Hid (wd L = none) := by show _ = _; rw [HWD.out, if_neg ht, if_neg hf, if_neg (by rw [hn]; decide)]
              rw [hn] at HNM
              have hc5 := HSD.out.c2
              have hf5 := HSD.out.f 2
              have hff := (HRL.out true (W5.setCell ⟨rb, 2, none⟩ (.bool true)) 1 (bA tk) (HSD.out.setb true) (gr_trans HGD.out (gr_set _ _ _ _)) hns).done (m := wd L) ⟨fun _ => HW.out, (fun e => by cases e)⟩
              simp only [World.size_setCell] at hff
              have HFF := Lib.hid hff
              clear ht hf HWD htl HW hn hff
              go_wp2_with (go_at_call 28; refine (HNM.out _).mono ?_; rintro e w7 ⟨rfl, hw⟩; have hw2 := hw.symm; subst hw2; clear hw)
              go_ret
              exact HFF.out
      · have hlt' : ¬ (kn : Int) < (S.size : Int) := by omega
        go_upto_region 13 with fail
        refine wq 22 (S := fun W => W.cell? ⟨rb, 0, none⟩ = some (.string S) ∧ W.cell? ⟨rb, 1, none⟩ = some (.int .i64 (kn : Int))) (by kernel_rfl) ⟨d0, d1⟩ fun hHeld => ?_
        iterate 11 (refine un 22 rfl ?_; try simp only [aP])
        iterate 10 (refine sn 22 rfl ?_; try simp only [aP])
        refine un 22 rfl ?_
        try simp only [aP]
        refine dq ?_
        clear hHeld
        have HSD : Hid (Sr wr.drew.drew rb S kn false) := HSR.out
        have HGD : Hid (w.grownBy wr.drew.drew (some rb)) := gr_drew (gr_drew HGR.out)
        clear d0 d1 HOUT HIN HSR HGR
        go_upto_region 15 with fail
        refine wq 11 (S := fun W => W.cell? ⟨rb, 0, none⟩ = some (.string S) ∧ W.cell? ⟨rb, 1, none⟩ = some (.int .i64 (kn : Int))) (by kernel_rfl) ⟨e0, e1⟩ fun hHeld => ?_
        iterate 11 (refine un 11 rfl ?_; try simp only [aP])
        refine dq ?_
        clear hHeld e0 e1
        generalize wr.drew.drew = W5 at *
        by_cases ht : tk = cd.tw
        · have HW : Hid (wd L = some (.mk 2 (bA []) [], dk)) := by show _ = _; rw [HWD.out, if_pos ht]
          have hq : (bA tk).toList = [116, 114, 117, 101] := by rw [htl, ht]; rfl
          have HFF := Lib.hid ((HRL.out false W5 2 (bA []) HSD.out HGD.out (by rw [bA_size]; simp)).done (m := wd L) ⟨(fun e => by cases e), fun _ => ⟨.mk 2 (bA []) [], by rw [HW.out, HDW.out], hkn, .inl (leaf_fl 2 (bA [])).symm⟩⟩)
          clear ht HWD htl HW
          go_wp2
          go_ret
          exact HFF.out
        · by_cases hf : tk = cd.fw
          · have HW : Hid (wd L = some (.mk 3 (bA []) [], dk)) := by show _ = _; rw [HWD.out, if_neg ht, if_pos hf]
            have hq : ((bA tk).toList == [116, 114, 117, 101]) = false := by rw [htl, hf]; rfl
            have hq2 : (bA tk).toList = [102, 97, 108, 115, 101] := by rw [htl, hf]; rfl
            have HFF := Lib.hid ((HRL.out false W5 3 (bA []) HSD.out HGD.out (by rw [bA_size]; simp)).done (m := wd L) ⟨(fun e => by cases e), fun _ => ⟨.mk 3 (bA []) [], by rw [HW.out, HDW.out], hkn, .inl (leaf_fl 3 (bA [])).symm⟩⟩)
            clear ht hf HWD htl HW
            go_wp2
            go_ret
            exact HFF.out
          · have hq : ((bA tk).toList == [116, 114, 117, 101]) = false := by rw [htl]; simpa [cd.tw] using ht
            have hq2 : ((bA tk).toList == [102, 97, 108, 115, 101]) = false := by rw [htl]; simpa [cd.fw] using hf
            cases hn : nm.nameB (bA tk) with
            | true =>
              have HW : Hid (wd L = some (.mk 1 (bA tk) [], dk)) := by show _ = _; rw [HWD.out, if_neg ht, if_neg hf, if_pos hn]
              rw [hn] at HNM
              have HFF := Lib.hid ((HRL.out false W5 1 (bA tk) HSD.out HGD.out hns).done (m := wd L) ⟨(fun e => by cases e), fun _ => ⟨.mk 1 (bA tk) [], by rw [HW.out, HDW.out], hkn, .inl (leaf_fl 1 (bA tk)).symm⟩⟩)
              clear ht hf HWD htl HW hn
              go_wp2_with (go_at_call 28; refine (HNM.out _).mono ?_; rintro e w7 ⟨rfl, hw⟩; have hw2 := hw.symm; subst hw2; clear hw)
              go_ret
              exact HFF.out
            | false =>
              have HW : Hid (wd L = none) := by show _ = _; rw [HWD.out, if_neg ht, if_neg hf, if_neg (by rw [hn]; decide)]
              rw [hn] at HNM
              have hc5 := HSD.out.c2
              have hf5 := HSD.out.f 2
              have hff := (HRL.out true (W5.setCell ⟨rb, 2, none⟩ (.bool true)) 1 (bA tk) (HSD.out.setb true) (gr_trans HGD.out (gr_set _ _ _ _)) hns).done (m := wd L) ⟨fun _ => HW.out, (fun e => by cases e)⟩
              simp only [World.size_setCell] at hff
              have HFF := Lib.hid hff
              clear ht hf HWD htl HW hn hff
              go_wp2_with (go_at_call 28; refine (HNM.out _).mono ?_; rintro e w7 ⟨rfl, hw⟩; have hw2 := hw.symm; subst hw2; clear hw)
              go_ret
              exact HFF.out
end Go.Proofs.YtklgeahgaeodiaaDoor.cr
