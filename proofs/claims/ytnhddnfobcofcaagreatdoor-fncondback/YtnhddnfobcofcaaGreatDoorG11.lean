import Derived.Test.YtnhddnfobcofcaaGreatDoorG10
import Derived.Deep.Cut
import Derived.Shelf.Sort.Plain
import Derived.Shelf.Slices.CompactS
import Derived.Test.YtnhddnfobcofcaaGreatDoorProg
import Derived.Test.YtnhddnfobcofcaaGreatDoorG03
import Derived.Sort.Walk0
import Derived.Deep.RegionHeld3
import Derived.Deep.AppendLies
import Derived.Lib.SlicesCompact
import Derived.Test.YtnhddnfobcofcaaGreatDoorG05
import Derived.Sort.OwnSorted
import Derived.Shelf.Lay
import Derived.Ground.NamesProg
namespace Go.Proofs.YtnhddnfobcofcaaGreatDoor.cr
open Go.ChangeShapes Go.WideShapes Go.ChangeAt Go.RowKit Go.Deep
open cd (Tr Cn infoE)
set_option linter.unusedVariables false
set_option linter.unusedSimpArgs false

/-! ### The specification's reader: words -/

theorem one_wd {p0 p2 : Pz} {l : List UInt8} (h1 : pkN l ≠ 33) (h2 : pkN l ≠ 40) : oneP p0 p2 l = wd (skip l) := by
  unfold oneP
  unfold pkN at h1 h2
  cases hs : skip l with
  | nil => rfl
  | cons c q =>
    rw [hs] at h1 h2
    simp only at h1 h2
    simp only
    rw [if_neg (fun e => h1 (by rw [e]; rfl)), if_neg (fun e => h2 (by rw [e]; rfl))]
theorem tw_in {l : List UInt8} : ∀ {m : Nat}, m < (l.takeWhile nb).length → ∃ c, l[m]? = some c ∧ nb c = true := by
  intro m hm
  have h1 : (l.takeWhile nb)[m]? = some (l.takeWhile nb)[m] := List.getElem?_eq_getElem hm
  refine ⟨(l.takeWhile nb)[m], ?_, ?_⟩
  · have e : l[m]? = (l.takeWhile nb)[m]? := by
      conv => lhs; rw [← List.takeWhile_append_dropWhile (p := nb) (l := l)]
      rw [List.getElem?_append_left hm]
    rw [e]
    exact h1
  · exact (List.all_takeWhile (p := nb) (l := l) |> List.all_eq_true.1) _ (List.getElem_mem hm)
theorem tw_out {l : List UInt8} {c : UInt8} (h : l[(l.takeWhile nb).length]? = some c) : nb c = false := by
  induction l with
  | nil => simp at h
  | cons a l ih =>
    cases ha : nb a with
    | false =>
      rw [List.takeWhile_cons, ha] at h
      simp at h
      rw [← h]; exact ha
    | true =>
      rw [List.takeWhile_cons, ha] at h
      simp at h
      exact ih h
/-- A leaf that is made. -/
theorem rw_leaf {w wr : World} {rb j f : Nat} {S : ByteArray} {b : Bool} (hs : Sr wr rb S j b) (hg : w.grownBy wr (some rb)) (hl : rb < w.heap.size) (hj : j ≤ S.size + f) (k : Int) (n : ByteArray) (hn : n.size ≤ 4000) : Rw w rb S f (wr.alloc (.cells #[.int .i64 k, .string n, .int .i64 0] 31)) j b wr.heap.size 1 [⟨k, n, 0⟩] 1 := by
  have hb : Below wr.heap.size wr (wr.alloc (.cells #[.int .i64 k, .string n, .int .i64 0] 31)) := (Below.refl _ _).alloc (Nat.le_refl _) _
  exact ⟨hs.to (hb.block rb hs.lt), gr_below hg hb, (OC.one wr ⟨k, n, 0⟩).mono hg.size, hl, hj, fun x hx => by rw [List.mem_singleton.1 hx]; exact hn, by simp, Nat.le_refl _⟩
theorem ext_mid {S : ByteArray} {k n : Nat} (h : k + n ≤ S.size) : S.extract k (k + n) = bA ((S.data.toList.drop k).take n) := by
  apply ByteArray.ext
  apply Array.toList_inj.1
  rw [bA_list, ByteArray.data_extract]
  simp

set_option maxRecDepth 100000 in
set_option maxHeartbeats 8000000 in
theorem one_word (f : Nat) (S : ByteArray) (rb i d : Nat) (w : World) (hsr : Sr w rb S i false) (hs : S.size ≤ 4000) (hi : i ≤ S.size) (h1 : pkN (S.data.toList.drop i) ≠ 33) (h2 : pkN (S.data.toList.drop i) ≠ 40) :
    Calls Tryz.prog 87 #[.pointer (some ⟨rb, 0, none⟩), .int .i64 (d : Int)] w fun e w' => SRes w w' rb S (f + 1) (wd (skip (S.data.toList.drop i))) e := by
  have hlt := hsr.lt
  have HPK := Lib.hid (peek_any S rb i false w hsr hs (by omega))
  obtain ⟨pv, hpv⟩ : ∃ pv, pkN (S.data.toList.drop i) = pv := ⟨_, rfl⟩
  have HPV := Lib.hid hpv
  rw [hpv] at h1 h2
  have h1' : ¬ (pv : Int) = 33 := by omega
  have h2' : ¬ (pv : Int) = 40 := by omega
  obtain ⟨L, hL⟩ : ∃ L, skip (S.data.toList.drop i) = L := ⟨_, rfl⟩
  have HL := Lib.hid hL
  rw [hL]
  obtain ⟨n, hn⟩ : ∃ n, (L.takeWhile nb).length = n := ⟨_, rfl⟩
  have HN := Lib.hid hn
  have HWD : Hid (wd L = if L.takeWhile nb = cd.tw then some (.mk 2 (bA []) [], L.dropWhile nb) else if L.takeWhile nb = cd.fw then some (.mk 3 (bA []) [], L.dropWhile nb) else if nm.nameB (bA (L.takeWhile nb)) = true then some (.mk 1 (bA (L.takeWhile nb)) [], L.dropWhile nb) else none) := rfl
  have hnL : n ≤ L.length := by rw [← hn]; have := nb_tw (l := L); omega
  clear hsr hpv h1 h2 hL hn
  go_enter Tryz.func87, Tryz.ntmps87
  go_wp2_with (go_at_call 52; refine HPK.out.mono ?_; rintro e w1 hpk; obtain ⟨rfl, hg1, hz1, k, hk1, hk2, hk3, hk4, hsr1⟩ := hpk; rw [HPV.out]; refine Hid.out ?_)
  refine Lib.hid ?_
  rw [HL.out] at hk4
  have hkS := hk2 hi
  have hLl : L.length = S.size - k := by rw [← hk4, drop_len]
  have HIN : Hid (∀ j, k ≤ j → j < k + n → ∃ h : j < S.size, nb S[j] = true) := fun j a1 a2 => by
    have hj : j < S.size := by omega
    obtain ⟨c, e1, e2⟩ := tw_in (l := L) (m := j - k) (by rw [HN.out]; omega)
    refine ⟨hj, ?_⟩
    rw [← hk4, List.getElem?_drop, show k + (j - k) = j by omega] at e1
    obtain ⟨_, e3⟩ := get_at e1
    rw [e3]; exact e2
  have HOUT : Hid (∀ h : k + n < S.size, nb S[k + n] = false) := fun h => by
    refine tw_out (l := L) ?_
    rw [HN.out, ← hk4, List.getElem?_drop]
    exact List.getElem?_eq_getElem (by rw [lenS]; exact h)
  have hx1 : S.extract k (k + n) = bA (L.takeWhile nb) := by
    rw [ext_mid (by omega), hk4]
    congr 1
    have := List.takeWhile_append_dropWhile (p := nb) (l := L)
    conv => lhs; rw [← this]
    rw [List.take_left' HN.out]
  have HDW : Hid (S.data.toList.drop (k + n) = L.dropWhile nb) := by
    show _ = _
    rw [← List.drop_drop, hk4]
    have := List.takeWhile_append_dropWhile (p := nb) (l := L)
    conv => lhs; rw [← this]
    rw [List.drop_left' HN.out]
  have HSR1 := Lib.hid hsr1
  have HG1 := Lib.hid hg1
  have hc1 := hsr1.c1
  have hkn : k + n ≤ S.size := by omega
  have htl : (bA (L.takeWhile nb)).toList = L.takeWhile nb := by rw [ByteArray.toList_eq, bA_list]
  have HNM := Lib.hid (fun W => nm.spec_any (bA (L.takeWhile nb)) (by rw [bA_size, HN.out]; omega) W)
  have hns : (bA (L.takeWhile nb)).size ≤ 4000 := by rw [bA_size, HN.out]; omega
  obtain ⟨tk, htk⟩ : ∃ q, L.takeWhile nb = q := ⟨_, rfl⟩
  obtain ⟨dk, hdk⟩ : ∃ q, L.dropWhile nb = q := ⟨_, rfl⟩
  rw [htk] at hx1 htl HWD HNM hns
  rw [hdk] at HDW HWD
  clear htk hdk hsr1 hg1 hk4 HPK HPV HL HN hk2 hk3 hz1
  go_upto_region 13 with fail
  clear hc1
  rw [show ((pv : Int) == 33) = false from beq_eq_false_iff_ne.2 h1', show ((pv : Int) == 40) = false from beq_eq_false_iff_ne.2 h2']
  go_loopg [] (S.size + 1) (fun q wr => ∃ j : Nat, k ≤ j ∧ j ≤ k + n ∧ Sr wr rb S j false ∧ w.grownBy wr (some rb) ∧ S.size - j ≤ q)
  case atStart => exact ⟨k, Nat.le_refl _, by omega, HSR1.out, HG1.out, by omega⟩
  case round =>
    clear HSR1 HG1
    obtain ⟨j, hj1, hj2, hsr, hgr, hq⟩ := hrel
    have HSR := Lib.hid hsr
    have HGR := Lib.hid hgr
    have d0 : wr.drew.cell? ⟨rb, 0, none⟩ = some (.string S) := hsr.c0
    have d1 : wr.drew.cell? ⟨rb, 1, none⟩ = some (.int .i64 (j : Int)) := hsr.c1
    have hj0 : (0 : Int) ≤ (j : Int) := by omega
    clear hsr hgr
    by_cases hjn : j < k + n
    · obtain ⟨hjS, hnb⟩ := HIN.out j hj1 hjn
      have hlt' : (j : Int) < (S.size : Int) := by omega
      have HNB : Hid (∀ W, Calls Tryz.prog 96 #[.int .u8 (S[j].toNat : Int)] W fun e w' => e = .returned (.bool true) ∧ w' = W) := fun W => by have := nby_any (S[j].toNat : Int) W; rw [show nm.okB (S[j].toNat : Int) = true from hnb] at this; exact this
      have HS2 : Hid (Sr (wr.drew.setCell ⟨rb, 1, none⟩ (.int .i64 ((j + 1 : Nat) : Int))) rb S (j + 1) false) := Sr.seti (W := wr.drew) HSR.out (j + 1)
      have HG2 : Hid (w.grownBy (wr.drew.setCell ⟨rb, 1, none⟩ (.int .i64 ((j + 1 : Nat) : Int))) (some rb)) := gr_trans (gr_drew HGR.out) (gr_set _ _ _ _)
      have f1 : wr.drew.frozen? ⟨rb, 1, none⟩ = false := HSR.out.f 1
      have hwk : IntKind.i64.wrap ((j : Int) + 1) = ((j + 1 : Nat) : Int) := by rw [IntKind.wrap_i64]; omega
      clear hnb
      go_upto_region 13 with fail
      refine wq 22 (S := fun W => W.cell? ⟨rb, 0, none⟩ = some (.string S) ∧ W.cell? ⟨rb, 1, none⟩ = some (.int .i64 (j : Int))) (by kernel_rfl) ⟨d0, d1⟩ fun hHeld => ?_
      iterate 20 (refine un 22 rfl ?_; try simp only [aP])
      refine rq 20 rfl fun K hK => ?_
      go_simp
      (go_at_call 96; refine (HNB.out _).mono ?_; rintro e w5 ⟨rfl, hw⟩; obtain rfl := hw.symm; clear hw)
      try go_wp2_with fail
      refine hK.out _ _ ⟨d0, d1⟩ (fun hHeld => ?_)
      clear hK K
      try simp only [aP]
      refine un 22 rfl ?_
      try simp only [aP]
      refine dq ?_
      clear hHeld
      go_wp2
      try rw [show ((j : Int) + 1) = ((j + 1 : Nat) : Int) by simp]
      go_roundg (S.size - (j + 1))
      case measure => omega
      case rel => exact ⟨j + 1, by omega, by omega, HS2.out, HG2.out, Nat.le_refl _⟩
    · obtain rfl : j = k + n := by omega
      have ec : ((k + n : Nat) : Int) = (k : Int) + (n : Int) := by simp
      have e0 : wr.drew.drew.cell? ⟨rb, 0, none⟩ = some (.string S) := d0
      have e1 : wr.drew.drew.cell? ⟨rb, 1, none⟩ = some (.int .i64 ((k + n : Nat) : Int)) := d1
      obtain ⟨kn, hkn'⟩ : ∃ kn, k + n = kn := ⟨_, rfl⟩
      rw [hkn'] at hx1 HDW HSR d1 e1 HOUT hkn
      have hk0 : (0 : Int) ≤ (k : Int) := by omega
      have hkk : (k : Int) ≤ (kn : Int) := by omega
      have hkS' : (kn : Int) ≤ (S.size : Int) := by omega
      have HRL : Hid (∀ (b : Bool) (W : World) (kk : Int) (nn : ByteArray), Sr W rb S kn b → w.grownBy W (some rb) → nn.size ≤ 4000 → Rw w rb S (f + 1) (W.alloc (.cells #[.int .i64 kk, .string nn, .int .i64 0] 31)) kn b W.heap.size 1 [⟨kk, nn, 0⟩] 1) := fun b W kk nn a1 a2 a3 => rw_leaf a1 a2 hlt (by omega) kk nn a3
      by_cases hb : kn < S.size
      · have hlt' : (kn : Int) < (S.size : Int) := by omega
        have hkn0 : (0 : Int) ≤ (kn : Int) := by omega
        have hnb : nb S[kn] = false := HOUT.out hb
        have HNB : Hid (∀ W, Calls Tryz.prog 96 #[.int .u8 (S[kn].toNat : Int)] W fun e w' => e = .returned (.bool false) ∧ w' = W) := fun W => by have := nby_any (S[kn].toNat : Int) W; rw [show nm.okB (S[kn].toNat : Int) = false from hnb] at this; exact this
        clear hnb
        go_upto_region 13 with fail
        refine wq 22 (S := fun W => W.cell? ⟨rb, 0, none⟩ = some (.string S) ∧ W.cell? ⟨rb, 1, none⟩ = some (.int .i64 (kn : Int))) (by kernel_rfl) ⟨d0, d1⟩ fun hHeld => ?_
        iterate 20 (refine un 22 rfl ?_; try simp only [aP])
        refine rq 20 rfl fun K hK => ?_
        go_simp
        (go_at_call 96; refine (HNB.out _).mono ?_; rintro e w5 ⟨rfl, hw⟩; obtain rfl := hw.symm; clear hw)
        try go_wp2_with fail
        refine hK.out _ _ ⟨d0, d1⟩ (fun hHeld => ?_)
        clear hK K
        try simp only [aP]
        refine un 22 rfl ?_
        try simp only [aP]
        refine dq ?_
        clear hHeld HNB
        have HSD : Hid (Sr wr.drew.drew rb S kn false) := HSR.out
        have HGD : Hid (w.grownBy wr.drew.drew (some rb)) := gr_drew (gr_drew HGR.out)
        clear d0 d1 HOUT HIN HSR HGR
        go_upto_region 15 with fail
        refine wq 11 (S := fun W => W.cell? ⟨rb, 0, none⟩ = some (.string S) ∧ W.cell? ⟨rb, 1, none⟩ = some (.int .i64 (kn : Int))) (by kernel_rfl) ⟨e0, e1⟩ fun hHeld => ?_
        iterate 11 (refine un 11 rfl ?_; try simp only [aP])
        refine dq ?_
        clear hHeld e0 e1
        generalize wr.drew.drew = W5 at *
        by_cases ht : tk = cd.tw
        · have HW : Hid (wd L = some (.mk 2 (bA []) [], dk)) := by show _ = _; rw [HWD.out, if_pos ht]
          have hq : (bA tk).toList = [116, 114, 117, 101] := by rw [htl, ht]; rfl
          have HFF := Lib.hid ((HRL.out false W5 2 (bA []) HSD.out HGD.out (by rw [bA_size]; simp)).done (m := wd L) ⟨(fun e => by cases e), fun _ => ⟨.mk 2 (bA []) [], by rw [HW.out, HDW.out], hkn, .inl (leaf_fl 2 (bA [])).symm⟩⟩)
          clear ht HWD htl HW
          go_wp2
          go_ret
          exact HFF.out
        · by_cases hf : tk = cd.fw
          · have HW : Hid (wd L = some (.mk 3 (bA []) [], dk)) := by show _ = _; rw [HWD.out, if_neg ht, if_pos hf]
            have hq : ((bA tk).toList == [116, 114, 117, 101]) = false := by rw [htl, hf]; rfl
            have hq2 : (bA tk).toList = [102, 97, 108, 115, 101] := by rw [htl, hf]; rfl
            have HFF := Lib.hid ((HRL.out false W5 3 (bA []) HSD.out HGD.out (by rw [bA_size]; simp)).done (m := wd L) ⟨(fun e => by cases e), fun _ => ⟨.mk 3 (bA []) [], by rw [HW.out, HDW.out], hkn, .inl (leaf_fl 3 (bA [])).symm⟩⟩)
            clear ht hf HWD htl HW
            go_wp2
            go_ret
            exact HFF.out
          · have hq : ((bA tk).toList == [116, 114, 117, 101]) = false := by rw [htl]; simpa [cd.tw] using ht
            have hq2 : ((bA tk).toList == [102, 97, 108, 115, 101]) = false := by rw [htl]; simpa [cd.fw] using hf
            cases hn : nm.nameB (bA tk) with
            | true =>
              have HW : Hid (wd L = some (.mk 1 (bA tk) [], dk)) := by show _ = _; rw [HWD.out, if_neg ht, if_neg hf, if_pos hn]
              rw [hn] at HNM
              have HFF := Lib.hid ((HRL.out false W5 1 (bA tk) HSD.out HGD.out hns).done (m := wd L) ⟨(fun e => by cases e), fun _ => ⟨.mk 1 (bA tk) [], by rw [HW.out, HDW.out], hkn, .inl (leaf_fl 1 (bA tk)).symm⟩⟩)
              clear ht hf HWD htl HW hn
              go_wp2_with (go_at_call 40; refine (HNM.out _).mono ?_; rintro e w7 ⟨rfl, hw⟩; have hw2 := hw.symm; subst hw2; clear hw)
              go_ret
              exact HFF.out
            | false =>
              have HW : Hid (wd L = none) := by show _ = _; rw [HWD.out, if_neg ht, if_neg hf, if_neg (by rw [hn]; decide)]
              rw [hn] at HNM
              have hc5 := HSD.out.c2
              have hf5 := HSD.out.f 2
              have hff := (HRL.out true (W5.setCell ⟨rb, 2, none⟩ (.bool true)) 1 (bA tk) (HSD.out.setb true) (gr_trans HGD.out (gr_set _ _ _ _)) hns).done (m := wd L) ⟨fun _ => HW.out, (fun e => by cases e)⟩
              simp only [World.size_setCell] at hff
              have HFF := Lib.hid hff
              clear ht hf HWD htl HW hn hff
              go_wp2_with (go_at_call 40; refine (HNM.out _).mono ?_; rintro e w7 ⟨rfl, hw⟩; have hw2 := hw.symm; subst hw2; clear hw)
              go_ret
              exact HFF.out
      · have hlt' : ¬ (kn : Int) < (S.size : Int) := by omega
        go_upto_region 13 with fail
        refine wq 22 (S := fun W => W.cell? ⟨rb, 0, none⟩ = some (.string S) ∧ W.cell? ⟨rb, 1, none⟩ = some (.int .i64 (kn : Int))) (by kernel_rfl) ⟨d0, d1⟩ fun hHeld => ?_
        iterate 11 (refine un 22 rfl ?_; try simp only [aP])
        iterate 10 (refine sn 22 rfl ?_; try simp only [aP])
        refine un 22 rfl ?_
        try simp only [aP]
        refine dq ?_
        clear hHeld
        have HSD : Hid (Sr wr.drew.drew rb S kn false) := HSR.out
        have HGD : Hid (w.grownBy wr.drew.drew (some rb)) := gr_drew (gr_drew HGR.out)
        clear d0 d1 HOUT HIN HSR HGR
        go_upto_region 15 with fail
        refine wq 11 (S := fun W => W.cell? ⟨rb, 0, none⟩ = some (.string S) ∧ W.cell? ⟨rb, 1, none⟩ = some (.int .i64 (kn : Int))) (by kernel_rfl) ⟨e0, e1⟩ fun hHeld => ?_
        iterate 11 (refine un 11 rfl ?_; try simp only [aP])
        refine dq ?_
        clear hHeld e0 e1
        generalize wr.drew.drew = W5 at *
        by_cases ht : tk = cd.tw
        · have HW : Hid (wd L = some (.mk 2 (bA []) [], dk)) := by show _ = _; rw [HWD.out, if_pos ht]
          have hq : (bA tk).toList = [116, 114, 117, 101] := by rw [htl, ht]; rfl
          have HFF := Lib.hid ((HRL.out false W5 2 (bA []) HSD.out HGD.out (by rw [bA_size]; simp)).done (m := wd L) ⟨(fun e => by cases e), fun _ => ⟨.mk 2 (bA []) [], by rw [HW.out, HDW.out], hkn, .inl (leaf_fl 2 (bA [])).symm⟩⟩)
          clear ht HWD htl HW
          go_wp2
          go_ret
          exact HFF.out
        · by_cases hf : tk = cd.fw
          · have HW : Hid (wd L = some (.mk 3 (bA []) [], dk)) := by show _ = _; rw [HWD.out, if_neg ht, if_pos hf]
            have hq : ((bA tk).toList == [116, 114, 117, 101]) = false := by rw [htl, hf]; rfl
            have hq2 : (bA tk).toList = [102, 97, 108, 115, 101] := by rw [htl, hf]; rfl
            have HFF := Lib.hid ((HRL.out false W5 3 (bA []) HSD.out HGD.out (by rw [bA_size]; simp)).done (m := wd L) ⟨(fun e => by cases e), fun _ => ⟨.mk 3 (bA []) [], by rw [HW.out, HDW.out], hkn, .inl (leaf_fl 3 (bA [])).symm⟩⟩)
            clear ht hf HWD htl HW
            go_wp2
            go_ret
            exact HFF.out
          · have hq : ((bA tk).toList == [116, 114, 117, 101]) = false := by rw [htl]; simpa [cd.tw] using ht
            have hq2 : ((bA tk).toList == [102, 97, 108, 115, 101]) = false := by rw [htl]; simpa [cd.fw] using hf
            cases hn : nm.nameB (bA tk) with
            | true =>
              have HW : Hid (wd L = some (.mk 1 (bA tk) [], dk)) := by show _ = _; rw [HWD.out, if_neg ht, if_neg hf, if_pos hn]
              rw [hn] at HNM
              have HFF := Lib.hid ((HRL.out false W5 1 (bA tk) HSD.out HGD.out hns).done (m := wd L) ⟨(fun e => by cases e), fun _ => ⟨.mk 1 (bA tk) [], by rw [HW.out, HDW.out], hkn, .inl (leaf_fl 1 (bA tk)).symm⟩⟩)
              clear ht hf HWD htl HW hn
              go_wp2_with (go_at_call 40; refine (HNM.out _).mono ?_; rintro e w7 ⟨rfl, hw⟩; have hw2 := hw.symm; subst hw2; clear hw)
              go_ret
              exact HFF.out
            | false =>
              have HW : Hid (wd L = none) := by show _ = _; rw [HWD.out, if_neg ht, if_neg hf, if_neg (by rw [hn]; decide)]
              rw [hn] at HNM
              have hc5 := HSD.out.c2
              have hf5 := HSD.out.f 2
              have hff := (HRL.out true (W5.setCell ⟨rb, 2, none⟩ (.bool true)) 1 (bA tk) (HSD.out.setb true) (gr_trans HGD.out (gr_set _ _ _ _)) hns).done (m := wd L) ⟨fun _ => HW.out, (fun e => by cases e)⟩
              simp only [World.size_setCell] at hff
              have HFF := Lib.hid hff
              clear ht hf HWD htl HW hn hff
              go_wp2_with (go_at_call 40; refine (HNM.out _).mono ?_; rintro e w7 ⟨rfl, hw⟩; have hw2 := hw.symm; subst hw2; clear hw)
              go_ret
              exact HFF.out
end Go.Proofs.YtnhddnfobcofcaaGreatDoor.cr

namespace Go.Proofs.YtnhddnfobcofcaaGreatDoor.cr
open Go.ChangeShapes Go.WideShapes Go.ChangeAt Go.RowKit Go.Deep
open cd (Tr Cn infoE)
set_option linter.unusedVariables false
set_option linter.unusedSimpArgs false

/-! ### spec.ReadCond -/

theorem spec_all : ∀ f, SC1 f ∧ SCr 38 1 f ∧ SCr 124 2 f ∧ SC2 f
  | 0 => ⟨fun S rb i d w _ _ _ _ hf => absurd hf (by omega), fun S rb i d w _ _ _ _ hf => absurd hf (by omega), fun S rb i d w _ _ _ _ hf => absurd hf (by omega), fun S rb i d w _ _ _ _ hf => absurd hf (by omega)⟩
  | f + 1 => by
    obtain ⟨h0, h1, h2, h3⟩ := spec_all f
    refine ⟨fun S rb i d w hsr hs hi hd hf hf2 => ?_, rowA_step f h0, rowO_step f h1, sany_step (f + 1) (rowO_step f h1)⟩
    cases hL : skip (S.data.toList.drop i) with
    | nil =>
      have hp : pkN (S.data.toList.drop i) = 0 := by unfold pkN; rw [hL]
      have := one_word f S rb i d w hsr hs hi (by omega) (by omega)
      rw [P_one, one_wd (by omega) (by omega)]
      exact this
    | cons c q =>
      have hp := pk_first hL
      by_cases hc : c = 33
      · subst hc
        exact one_not f h0 S rb i d w hsr hs hi hd hf hf2 q hL
      · by_cases hc2 : c = 40
        · subst hc2
          exact one_brk f h3 S rb i d w hsr hs hi hd hf hf2 q hL
        · have k1 : pkN (S.data.toList.drop i) ≠ 33 := fun e => hc (UInt8.toNat_inj.1 (by rw [← hp, e]; rfl))
          have k2 : pkN (S.data.toList.drop i) ≠ 40 := fun e => hc2 (UInt8.toNat_inj.1 (by rw [← hp, e]; rfl))
          have := one_word f S rb i d w hsr hs hi k1 k2
          rw [P_one, one_wd k1 k2]
          exact this
theorem bel_gr {w W1 w2 : World} (h : Below w.heap.size w W1) (hg : W1.grownBy w2 (some w.heap.size)) : Below w.heap.size w w2 := h.grown hg h.size (fun k hk => by cases hk; exact Nat.le_refl _)

set_option maxRecDepth 100000 in
set_option maxHeartbeats 4000000 in
theorem sread_any (S : ByteArray) (w : World) (hs : S.size ≤ 1048576) :
    Calls Tryz.prog 32 #[.string S] w fun e w' => RcR S w w' e ∧ Below w.heap.size w w' := by
  by_cases hs4 : S.size ≤ 4000
  · have h4 : ¬ (4000 : Int) < (S.size : Int) := by omega
    obtain ⟨W1, hW1⟩ : ∃ W1, W1 = w.alloc (.cells #[.string S, .int .i64 0, .bool false] 83) := ⟨_, rfl⟩
    have hrd : Sr W1 w.heap.size S 0 false := ⟨_, by rw [hW1]; exact blk_alloc_new _ _, rfl, fun i hi => by
      match i, hi with
      | 0, _ => rfl
      | 1, _ => rfl
      | 2, _ => rfl⟩
    have HB1 : Hid (Below w.heap.size w W1) := by show Below _ _ _; rw [hW1]; exact (Below.refl _ _).alloc (Nat.le_refl _) _
    have HANY := Lib.hid ((spec_all 12003).2.2.2 S w.heap.size 0 0 W1 hrd hs4 (Nat.zero_le _) (Nat.le_refl _) (by omega) (by omega))
    have HLT := Lib.hid hrd.lt
    have HW1 := Lib.hid hW1
    have HRC : Hid (rcO S = rcB S.data.toList) := if_pos hs4
    unfold rcB at HRC
    rw [List.drop_zero] at HANY
    obtain ⟨M, hM⟩ : ∃ M, P 12003 2 S.data.toList = M := ⟨_, rfl⟩
    rw [hM] at HANY HRC
    clear hrd hW1 hM
    go_enter Tryz.func32, Tryz.ntmps32
    go_upto_region 4 with fail
    rw [← HW1.out]
    go_wp2_with (go_at_call 51; refine HANY.out.mono ?_; rintro e w2 hres; obtain ⟨i4, b4, g4, c4, L4, rfl, h41, h42, h43⟩ := hres.rw HLT.out; clear hres; refine Hid.out ?_)
    refine Lib.hid ?_
    have HB2 := Lib.hid (bel_gr HB1.out h41.gr)
    have hc2 := h41.sr.c2
    cases M with
    | none =>
      have hb := h42 rfl
      subst hb
      have HE : Hid (rcO S = none) := HRC.out
      clear h41 h42 h43 HRC HANY
      go_wp2
      go_ret2
      exact ⟨rcr_no HE.out HB2.out.size, HB2.out.alloc HB2.out.size _⟩
    | some x =>
      obtain ⟨t, r⟩ := x
      obtain ⟨hb, hr, hi4, hex⟩ := h43 t r rfl
      subst hb
      have HPK := Lib.hid (peek_any S w.heap.size i4 false w2 h41.sr hs4 (by omega))
      have HR4 := Lib.hid h41
      have HEX := Lib.hid hex
      simp only at HRC
      clear h41 h42 h43 HANY hex
      go_wp2_with (go_at_call 52; refine HPK.out.mono ?_; rintro e w6 hpk; obtain ⟨rfl, k6, h61, h62, h63, h64, h65⟩ := HR4.out.peek hpk; clear hpk; refine Hid.out ?_)
      refine Lib.hid ?_
      rw [hr] at h64
      obtain ⟨pv, hpv⟩ : ∃ pv, pkN r = pv := ⟨_, rfl⟩
      rw [hpv]
      have HB6 := Lib.hid (bel_gr HB1.out h65.gr)
      have hc1 := h65.sr.c1
      have HR6 := Lib.hid h65
      have hk6 := h63 hi4
      cases hsk : skip r with
      | cons c q =>
        have HE : Hid (rcO S = none) := by show _ = _; rw [HRC.out, if_neg (by rw [hsk]; simp)]
        have hkS : k6 < S.size := by
          have := congrArg List.length h64
          rw [drop_len, hsk] at this
          simp at this
          omega
        have hkS' : (k6 : Int) < (S.size : Int) := by omega
        clear h65 h64 hpv hsk HRC HPK HR4 hc2
        by_cases hp0 : pv = 0
        · subst hp0
          go_wp2
          go_ret2
          exact ⟨rcr_no HE.out HB6.out.size, HB6.out.alloc HB6.out.size _⟩
        · have hp0' : ¬ (pv : Int) = 0 := by omega
          go_wp2
          go_ret2
          exact ⟨rcr_no HE.out HB6.out.size, HB6.out.alloc HB6.out.size _⟩
      | nil =>
        have hp0 : pv = 0 := by rw [← hpv]; unfold pkN; rw [hsk]
        subst hp0
        have hkS : ¬ k6 < S.size := by
          have := congrArg List.length h64
          rw [drop_len, hsk] at this
          simp at this
          omega
        have hkS' : ¬ (k6 : Int) < (S.size : Int) := by omega
        obtain ⟨hx6, hcc, hcm⟩ := h65.oc.xs
        have hl6 := h65.ll
        have hl0 := h65.l0
        have HOK := Lib.hid (cd.sok_any (cnE L4) g4 L4.length c4 ⟨hcc, Nat.le_trans hcm (by unfold maxLen; omega)⟩ (by omega) (fun i hi => by have := h65.nm (cnE L4 i) (List.mem_of_getElem? (cnE_some hi)); omega) w6 hx6)
        have HKE : Hid (okL (fl t) = true → L4 = fl t) := fun h => by
          rcases HEX.out with e | ⟨_, h3⟩
          · exact e
          · unfold okL at h
            rw [cd.okAll_no (.inr h3)] at h
            cases h
        have HKN : Hid (okL (fl t) = cd.okAll (cnE L4) L4.length) := by
          show _ = _
          rcases HEX.out with e | ⟨h2, h3⟩
          · rw [e]; rfl
          · unfold okL
            rw [cd.okAll_no (.inr h3), cd.okAll_no (.inr (by omega))]
        have HSE : Hid ((skip r).isEmpty = true) := by show _ = _; rw [hsk]; rfl
        rw [← HKN.out] at HOK
        clear h65 h64 hpv hsk HPK HR4 hc2 hx6 HKN hkS
        cases hk : okL (fl t) with
        | false =>
          rw [hk] at HOK
          have HE : Hid (rcO S = none) := by show _ = _; rw [HRC.out, if_neg (by rw [hk]; simp)]
          clear HRC hk
          go_wp2_with (go_at_call 7; refine HOK.out.mono ?_; rintro e w7 ⟨rfl, hw⟩; obtain rfl := hw.symm; clear hw)
          go_ret2
          exact ⟨rcr_no HE.out HB6.out.size, HB6.out.alloc HB6.out.size _⟩
        | true =>
          have HE : Hid (rcO S = some L4) := by show _ = _; rw [HRC.out, if_pos ⟨HSE.out, hk⟩, HKE.out hk]
          rw [hk] at HOK
          clear HRC hk HKE HEX
          go_wp2_with (go_at_call 7; refine HOK.out.mono ?_; rintro e w7 ⟨rfl, hw⟩; obtain rfl := hw.symm; clear hw)
          go_ret2
          have e1 : rcL S = L4 := by unfold rcL; rw [HE.out]; rfl
          have e2 : rcK S = true := by unfold rcK; rw [HE.out]; rfl
          refine ⟨⟨g4, c4, by rw [e1, e2]; rfl, ?_⟩, HB6.out⟩
          rw [e1]
          exact HR6.out.oc.mono HB1.out.size
  · have h4 : (4000 : Int) < (S.size : Int) := by omega
    have HE : Hid (rcO S = none) := if_neg hs4
    clear hs4
    go_enter Tryz.func32, Tryz.ntmps32
    go_wp2
    go_ret2
    exact ⟨rcr_no HE.out (Nat.le_refl _), (Below.refl _ _).alloc (Nat.le_refl _) _⟩
end Go.Proofs.YtnhddnfobcofcaaGreatDoor.cr

/-
  DERIVED: THE SHELF's CONTRACTS AT THIS DUMP, IN PLAIN WORDS (tools/lay-plain.mjs out of 'YtnhddnfobcofcaaGreatDoorSHfx.lean', which tools/lay-shelf.mjs wrote): THE SAME DECLARATIONS UNDER THE SAME NAMES: 'import', 'namespace', 'open', 'def', 'theorem' AND NOTHING ELSE: no command of the shelf's: FOR A HAND-IN. Each laying: the table of numbers ('.._ren') and one theorem, a field a fact of the dump's own or the kernel's comparison; each contract: ONE APPLICATION.
-/
namespace Go.Proofs
open Go.Shelf
def Tryz.laysSort_ren : Go.Shelf.Ren := ⟨fun | 190 => 30 | 125 => 50 | 258 => 49 | 128 => 72 | 129 => 73 | 302 => 63 | 303 => 64 | 304 => 65 | 305 => 66 | 306 => 67 | 307 => 68 | 308 => 69 | 309 => 70 | 310 => 71 | 333 => 81 | 329 => 82 | 330 => 83 | 334 => 84 | 335 => 85 | 336 => 86 | 344 => 95 | n => n, fun | 31 => 25 | 9 => 9 | 3 => 3 | 46 => 80 | 0 => 0 | 51 => 104 | 53 => 106 | 4 => 4 | 183 => 96 | 182 => 95 | 131 => 101 | 5 => 5 | 218 => 115 | 222 => 119 | 228 => 127 | 229 => 128 | n => n, fun | n => n⟩
theorem Tryz.laysSort : Go.Proofs.Lays.n190 Tryz.prog Tryz.laysSort_ren := {
  mixed := by kernel_rfl
  f125 := Tryz.func50.trans (congrArg some (by kernel_rfl))
  f128 := Tryz.func72.trans (congrArg some (by kernel_rfl))
  f129 := Tryz.func73.trans (congrArg some (by kernel_rfl))
  f190 := Tryz.func30.trans (congrArg some (by kernel_rfl))
  f258 := Tryz.func49.trans (congrArg some (by kernel_rfl))
  f302 := Tryz.func63.trans (congrArg some (by kernel_rfl))
  f303 := Tryz.func64.trans (congrArg some (by kernel_rfl))
  f304 := Tryz.func65.trans (congrArg some (by kernel_rfl))
  f305 := Tryz.func66.trans (congrArg some (by kernel_rfl))
  f306 := Tryz.func67.trans (congrArg some (by kernel_rfl))
  f307 := Tryz.func68.trans (congrArg some (by kernel_rfl))
  f308 := Tryz.func69.trans (congrArg some (by kernel_rfl))
  f309 := Tryz.func70.trans (congrArg some (by kernel_rfl))
  f310 := Tryz.func71.trans (congrArg some (by kernel_rfl))
  f329 := Tryz.func82.trans (congrArg some (by kernel_rfl))
  f330 := Tryz.func83.trans (congrArg some (by kernel_rfl))
  f333 := Tryz.func81.trans (congrArg some (by kernel_rfl))
  f334 := Tryz.func84.trans (congrArg some (by kernel_rfl))
  f335 := Tryz.func85.trans (congrArg some (by kernel_rfl))
  f336 := Tryz.func86.trans (congrArg some (by kernel_rfl))
  f344 := Tryz.func95.trans (congrArg some (by kernel_rfl))
  t0 := Tryz.underlying0
  a0 := Tryz.isAgg0
  z0 := Tryz.sizeOf0
  v0 := Tryz.zeroValue0
  t3 := Tryz.underlying3
  a3 := Tryz.isAgg3
  z3 := Tryz.sizeOf3
  v3 := Tryz.zeroValue3
  t4 := Tryz.underlying4
  a4 := Tryz.isAgg4
  z4 := Tryz.sizeOf4
  v4 := Tryz.zeroValue4
  t5 := Tryz.underlying5
  a5 := Tryz.isAgg5
  z5 := Tryz.sizeOf5
  v5 := Tryz.zeroValue5
  t9 := Tryz.underlying9
  a9 := Tryz.isAgg9
  z9 := Tryz.sizeOf9
  v9 := Tryz.zeroValue9
  t31 := Tryz.underlying25
  a31 := Tryz.isAgg25
  z31 := Tryz.sizeOf25
  v31 := Tryz.zeroValue25
  t46 := Tryz.underlying80
  a46 := Tryz.isAgg80
  z46 := Tryz.sizeOf80
  v46 := Tryz.zeroValue80
  t51 := Tryz.underlying104
  a51 := Tryz.isAgg104
  z51 := Tryz.sizeOf104
  v51 := Tryz.zeroValue104
  t53 := Tryz.underlying106
  a53 := Tryz.isAgg106
  z53 := Tryz.sizeOf106
  v53 := Tryz.zeroValue106
  t131 := Tryz.underlying101
  a131 := Tryz.isAgg101
  z131 := Tryz.sizeOf101
  v131 := Tryz.zeroValue101
  t182 := Tryz.underlying95
  a182 := Tryz.isAgg95
  z182 := Tryz.sizeOf95
  v182 := Tryz.zeroValue95
  t183 := Tryz.underlying96
  a183 := Tryz.isAgg96
  z183 := Tryz.sizeOf96
  v183 := Tryz.zeroValue96
  t218 := Tryz.underlying115
  a218 := Tryz.isAgg115
  z218 := Tryz.sizeOf115
  v218 := Tryz.zeroValue115
  t222 := Tryz.underlying119
  a222 := Tryz.isAgg119
  z222 := Tryz.sizeOf119
  v222 := Tryz.zeroValue119
  t228 := Tryz.underlying127
  a228 := Tryz.isAgg127
  z228 := Tryz.sizeOf127
  v228 := Tryz.zeroValue127
  t229 := Tryz.underlying128
  a229 := Tryz.isAgg128
  z229 := Tryz.sizeOf128
  v229 := Tryz.zeroValue128 }
def Tryz.laysCompact_ren : Go.Shelf.Ren := ⟨fun | 194 => 31 | n => n, fun | 31 => 25 | 9 => 9 | 3 => 3 | 4 => 4 | 0 => 0 | n => n, fun | n => n⟩
theorem Tryz.laysCompact : Go.Proofs.Lays.n194 Tryz.prog Tryz.laysCompact_ren := {
  mixed := by kernel_rfl
  f194 := Tryz.func31.trans (congrArg some (by kernel_rfl))
  t0 := Tryz.underlying0
  a0 := Tryz.isAgg0
  z0 := Tryz.sizeOf0
  v0 := Tryz.zeroValue0
  t3 := Tryz.underlying3
  a3 := Tryz.isAgg3
  z3 := Tryz.sizeOf3
  v3 := Tryz.zeroValue3
  t4 := Tryz.underlying4
  a4 := Tryz.isAgg4
  z4 := Tryz.sizeOf4
  v4 := Tryz.zeroValue4
  t9 := Tryz.underlying9
  a9 := Tryz.isAgg9
  z9 := Tryz.sizeOf9
  v9 := Tryz.zeroValue9
  t31 := Tryz.underlying25
  a31 := Tryz.isAgg25
  z31 := Tryz.sizeOf25
  v31 := Tryz.zeroValue25 }
end Go.Proofs

namespace Go.Proofs.YtnhddnfobcofcaaGreatDoor.fl
open Go.ChangeShapes Go.WideShapes Go.ChangeAt Go.RowKit Go.Deep
set_option linter.unusedVariables false
set_option linter.unusedSimpArgs false

/-! ### Names, ascending -/

/-- A text more in an ascending list. -/
def fadd : List (List UInt8) → List UInt8 → List (List UInt8)
  | [], s => [s]
  | x :: r, s => if Op.bytesLess x s = true then x :: fadd r s else if x = s then x :: r else s :: x :: r

/-! ### Rows of texts -/

def strL (l : List UInt8) : Value := .string ⟨l.toArray⟩
theorem strL_of (s : ByteArray) : strL s.data.toList = .string s := by cases s; simp [strL]
theorem toL (l : List UInt8) : (⟨l.toArray⟩ : ByteArray).toList = l := by simp [ByteArray.toList_eq]

theorem info9 : (Tryz.prog.info? 9).map (fun i => (i.zero, i.size, i.bytes)) = some (some (.string ⟨#[]⟩), 1, 16) := by kernel_rfl
theorem info_parts {e : TypeId} {z : Value} {size bytes : Nat} (hinfo : (Tryz.prog.info? e).map (fun i => (i.zero, i.size, i.bytes)) = some (some z, size, bytes)) : ∃ i, Tryz.prog.info? e = some i ∧ i.zero = some z ∧ i.size = size ∧ i.bytes = bytes := by
  obtain ⟨i, hi, hzz⟩ := Option.map_eq_some_iff.1 hinfo
  simp only [Prod.mk.injEq] at hzz
  exact ⟨i, hi, hzz.1, hzz.2.1, hzz.2.2⟩

/-- A value is a row of texts, wherever it lies. -/
def StrR (w : World) (v : Value) (xs : List (List UInt8)) : Prop := ∃ bb off cap, v = .slice (some ⟨bb, off, none⟩) xs.length cap ∧ xs.length ≤ cap ∧ cap ≤ maxLen ∧ ∀ i x, xs[i]? = some x → w.cell? ⟨bb, off + i, none⟩ = some (strL x)

theorem StrR.below {w w' : World} {v : Value} {xs : List (List UInt8)} (h : StrR w v xs) (hb : Below w.heap.size w w') : StrR w' v xs := by
  obtain ⟨bb, off, cap, e, h1, h2, hc⟩ := h
  exact ⟨bb, off, cap, e, h1, h2, fun i x hx => (hb.cell (p := ⟨bb, _, none⟩) (World.block_lt_of_cell? _ _ (hc i x hx))).trans (hc i x hx)⟩

theorem StrR.drew {w : World} {v : Value} {xs : List (List UInt8)} (h : StrR w v xs) : StrR w.drew v xs := h

theorem StrR.own {w : World} {base : Nat} {v : Value} {xs : List (List UInt8)} (h : w.ownsRow base 9 1 v xs.length (xs.map strL)) (hpos : 0 < xs.length) : StrR w v xs := by
  obtain ⟨_, a, cap, rfl, h1, h2, bb, off, ha, hc⟩ := cd.PsO.own h
  obtain ⟨rfl, _⟩ := ha.resolve_left (by simp; intro e; subst e; simp at hpos)
  exact ⟨bb, off, cap, rfl, h1, h2, fun i x hx => hc i _ (by simp [hx])⟩

def xAt (xs : List (List UInt8)) (i : Nat) : List UInt8 := xs[i]?.getD []
theorem xAt_some {xs : List (List UInt8)} {i : Nat} (h : i < xs.length) : xs[i]? = some (xAt xs i) := by simp [xAt, h]

theorem fadd_len (s : List UInt8) : ∀ (xs : List (List UInt8)), xs.length ≤ (fadd xs s).length ∧ (fadd xs s).length ≤ xs.length + 1
  | [] => by simp [fadd]
  | x :: r => by
    have := fadd_len s r
    unfold fadd
    split
    · simp; omega
    · split <;> simp

/-- Where a text comes into the list. -/
theorem fadd_at {s : List UInt8} : ∀ {xs : List (List UInt8)} {k : Nat}, k ≤ xs.length → (∀ i, i < k → Op.bytesLess (xAt xs i) s = true) → (k = xs.length ∨ Op.bytesLess (xAt xs k) s = false) →
    fadd xs s = if k < xs.length ∧ xAt xs k = s then xs else xs.take k ++ [s] ++ xs.drop k
  | [], k, hk, _, _ => by
    obtain rfl : k = 0 := by simpa using hk
    simp [fadd]
  | x :: r, 0, hk, _, h => by
    have hx : Op.bytesLess x s = false := by
      rcases h with h | h
      · simp at h
      · simpa [xAt] using h
    unfold fadd
    rw [if_neg (by simp [hx])]
    simp [xAt]
  | x :: r, k + 1, hk, ha, h => by
    have hx : Op.bytesLess x s = true := by simpa [xAt] using ha 0 (by omega)
    have ih := fadd_at (s := s) (xs := r) (k := k) (by simp at hk; omega) (fun i hi => by simpa [xAt] using ha (i + 1) (by omega)) (by
      rcases h with h | h
      · left; simpa using h
      · right; simpa [xAt] using h)
    unfold fadd
    rw [if_pos hx, ih]
    have e : xAt (x :: r) (k + 1) = xAt r k := by simp [xAt]
    by_cases hh : k < r.length ∧ xAt r k = s
    · rw [if_pos hh, if_pos ⟨by simp; omega, by rw [e]; exact hh.2⟩]
    · rw [if_neg hh, if_neg (fun h2 => hh ⟨by have := h2.1; simp at this; omega, by rw [← e]; exact h2.2⟩)]
      simp

end Go.Proofs.YtnhddnfobcofcaaGreatDoor.fl

namespace Go.Proofs.YtnhddnfobcofcaaGreatDoor.fl
open Go.ChangeShapes Go.WideShapes Go.ChangeAt Go.RowKit Go.Deep
set_option linter.unusedVariables false
set_option linter.unusedSimpArgs false

theorem strL_one (l : List (List UInt8)) : ∀ u ∈ l.map strL, u.oneCell' = true := by
  intro u hu
  obtain ⟨x, _, rfl⟩ := List.mem_map.1 hu
  rfl

/-- One append of texts at a step of a region that draws its order. -/
theorem step_row {base : Nat} {W : World} {ops : Array Oper} {o : Oper} {a : Act} {K : Act → World → Prop} {Q : Exit → Act → World → Prop} {E : Prop} (hgd : o.guard = none) (s x : Operand)
    (ho : o.op = .call { callee := .builtin .append, args := #[s, x], argTypes := #[25, 25] }) (v : Value) (l : List (List UInt8)) (hs : a.eval s = v) (hown : W.ownsRow base 9 1 v l.length (l.map strL)) (hb : base ≤ W.heap.size) (ad : Addr) (m c : Nat) (news : List (List UInt8))
    (hx : a.eval x = .slice (some ad) m c) (hm : news.length = m) (hnews : ∀ j u, (news.map strL)[j]? = some u → W.cell? (ad.add j) = some u) (hlen : l.length + m ≤ 1000000) (h : ∀ v' w', w'.ownsRow base 9 1 v' (l ++ news).length ((l ++ news).map strL) → W.grownBy w' v.ownBlock → K (a.put o.dst v') w') :
    if Region.wanted o (yielded ops a.tmps) = true then Oper.wp Tryz.prog o a W K Q else E := by
  have hw : Region.wanted o (yielded ops a.tmps) = true := by simp [Region.wanted, hgd]
  rw [if_pos hw]
  obtain ⟨i0, hi, hz0, hz1, hz2⟩ := info_parts info9
  refine wp_append_own W s x 25 ho base 9 i0 _ 1 16 Tryz.underlying25 hi hz0 hz1 hz2 rfl (by omega) v l.length (l.map strL) hs hown ad m c (news.map strL) hx (by simpa using hm) hnews (strL_one _) (by unfold maxLen; omega) (by omega) hb ?_
  intro v' w' h1 h2 _
  exact h _ _ (by rw [List.length_append, List.map_append, hm]; exact h1) h2

/-- The cells of texts that are one block. -/
theorem one_at (w : World) (s : ByteArray) : ∀ j u, ([s.data.toList].map strL)[j]? = some u → (w.alloc (.cells #[.string s] 9)).cell? ((⟨w.heap.size, 0, none⟩ : Addr).add j) = some u := by
  rw [List.map_singleton, strL_of]
  exact one_new w _ 9

theorem row_news {w : World} {bb off k n : Nat} {xs : List (List UInt8)} (hc : ∀ i x, xs[i]? = some x → w.cell? ⟨bb, off + i, none⟩ = some (strL x)) : ∀ j u, ((xs.take k).map strL)[j]? = some u → w.cell? ((⟨bb, off, none⟩ : Addr).add j) = some u := by
  intro j u h
  rw [List.getElem?_map, Option.map_eq_some_iff] at h
  obtain ⟨x, hx, rfl⟩ := h
  rw [List.getElem?_take] at hx
  split at hx
  · rw [addr_add]
    exact hc j x hx
  · cases hx

theorem row_drop {w : World} {bb off k cap : Nat} {xs : List (List UInt8)} (hc : ∀ i x, xs[i]? = some x → w.cell? ⟨bb, off + i, none⟩ = some (strL x)) (hk : k ≤ xs.length) (hcap : xs.length ≤ cap) {a1 : Addr} (ha : (if cap = k then some (⟨bb, off, none⟩ : Addr) else some ⟨bb, off + k, none⟩) = some a1) : ∀ j u, ((xs.drop k).map strL)[j]? = some u → w.cell? (a1.add j) = some u := by
  intro j u h
  rw [List.getElem?_map, Option.map_eq_some_iff] at h
  obtain ⟨x, hx, rfl⟩ := h
  rw [List.getElem?_drop] at hx
  have hlt := (List.getElem?_eq_some_iff.1 hx).1
  rw [if_neg (by omega)] at ha
  obtain rfl := Option.some.inj ha
  rw [addr_add, Nat.add_assoc]
  exact hc _ x hx

end Go.Proofs.YtnhddnfobcofcaaGreatDoor.fl

namespace Go.Proofs.YtnhddnfobcofcaaGreatDoor.fl
open Go.ChangeShapes Go.WideShapes Go.ChangeAt Go.RowKit Go.Deep
set_option linter.unusedVariables false
set_option linter.unusedSimpArgs false

def asc (l : List (List UInt8)) : Prop := l.Pairwise (fun a b => a < b)

theorem bl (x y : List UInt8) : Op.bytesLess x y = true ↔ x < y := by rw [Go.Proofs.bytesLess_eq]; simp

theorem fadd_mem (s : List UInt8) : ∀ (l : List (List UInt8)) (x : List UInt8), x ∈ fadd l s ↔ x ∈ l ∨ x = s
  | [], x => by simp [fadd]
  | y :: r, x => by
    have ih := fadd_mem s r x
    unfold fadd
    split
    · simp [ih, or_assoc]
    · split
      · next h =>
        subst h
        constructor
        · exact fun h => .inl h
        · rintro (h | rfl)
          · exact h
          · simp
      · rw [List.mem_cons, Or.comm]

theorem fadd_asc (s : List UInt8) : ∀ (l : List (List UInt8)), asc l → asc (fadd l s)
  | [], _ => by simp [fadd, asc]
  | y :: r, h => by
    have h' := List.pairwise_cons.1 h
    unfold fadd
    split
    · next hl =>
      refine List.pairwise_cons.2 ⟨fun x hx => ?_, fadd_asc s r h'.2⟩
      rcases (fadd_mem s r x).1 hx with hx | rfl
      · exact h'.1 x hx
      · exact (bl _ _).1 hl
    · next hl =>
      split
      · exact h
      · next hne =>
        have hlt : s < y := by
          have h1 : ¬ y < s := fun hh => hl ((bl _ _).2 hh)
          rcases List.le_iff_lt_or_eq.1 (List.not_lt.1 h1) with h2 | h2
          · exact h2
          · exact absurd h2.symm hne
        refine List.pairwise_cons.2 ⟨fun x hx => ?_, h⟩
        rcases List.mem_cons.1 hx with rfl | hx
        · exact hlt
        · exact List.lt_trans hlt (h'.1 x hx)

theorem fold_mem : ∀ (l o : List (List UInt8)) (x : List UInt8), x ∈ l.foldl fadd o ↔ x ∈ o ∨ x ∈ l
  | [], o, x => by simp
  | y :: l, o, x => by
    have := fold_mem l (fadd o y) x
    rw [List.foldl_cons, this, fadd_mem]
    simp [or_assoc]
theorem fold_asc : ∀ (l o : List (List UInt8)), asc o → asc (l.foldl fadd o)
  | [], o, h => h
  | y :: l, o, h => fold_asc l _ (fadd_asc y o h)

theorem asc_nodup {l : List (List UInt8)} (h : asc l) : l.Nodup := h.imp fun hab e => by subst e; exact List.lt_irrefl _ hab

/-- The keys that are told, sorted, are the names found. -/

theorem asc_ext : ∀ {a b : List (List UInt8)}, asc a → asc b → (∀ x, x ∈ a ↔ x ∈ b) → a = b
  | [], [], _, _, _ => rfl
  | [], y :: b, _, _, h => by have := (h y).2 (by simp); simp at this
  | x :: a, [], _, _, h => by have := (h x).1 (by simp); simp at this
  | x :: a, y :: b, ha, hb, h => by
    have ha' := List.pairwise_cons.1 ha
    have hb' := List.pairwise_cons.1 hb
    have e : x = y := by
      rcases List.mem_cons.1 ((h x).1 (by simp)) with h1 | h1
      · exact h1
      · rcases List.mem_cons.1 ((h y).2 (by simp)) with h2 | h2
        · exact h2.symm
        · exact absurd (List.lt_trans (hb'.1 x h1) (ha'.1 y h2)) (List.lt_irrefl _)
    subst e
    rw [asc_ext ha'.2 hb'.2 (fun z => by
      constructor
      · intro hz
        rcases List.mem_cons.1 ((h z).1 (by simp [hz])) with h1 | h1
        · subst h1; exact absurd (ha'.1 z hz) (List.lt_irrefl _)
        · exact h1
      · intro hz
        rcases List.mem_cons.1 ((h z).2 (by simp [hz])) with h1 | h1
        · subst h1; exact absurd (hb'.1 z hz) (List.lt_irrefl _)
        · exact h1)]

theorem at_toArray (l : List (List UInt8)) (j : Nat) (h : j < l.length) : l.toArray[j]! = l[j] := by
  rw [getElem!_pos _ j (by simpa using h)]; simp

theorem compact_mem (l : List (List UInt8)) (x : List UInt8) : x ∈ Lib.compact l ↔ x ∈ l := by
  unfold Lib.compact Lib.compactUpTo
  simp only [List.mem_map, List.mem_filter, List.mem_range]
  constructor
  · rintro ⟨j, ⟨hj, _⟩, rfl⟩
    rw [at_toArray l j hj]; exact List.getElem_mem hj
  · intro hx
    obtain ⟨j, hj, rfl⟩ := List.getElem_of_mem hx
    induction j using Nat.strongRecOn with
    | ind j ih =>
      by_cases hk : Lib.keeps l.toArray j = true
      · exact ⟨j, ⟨hj, hk⟩, at_toArray l j hj⟩
      · have hk' : ¬ (j = 0) ∧ l[j] = l[j - 1]'(by omega) := by
          have hk2 : ¬ (j = 0 ∨ l.toArray[j]! ≠ l.toArray[j - 1]!) := by simpa [Lib.keeps] using hk
          have h0 : ¬ j = 0 := fun h => hk2 (.inl h)
          refine ⟨h0, ?_⟩
          have h1 : l.toArray[j]! = l.toArray[j - 1]! := Classical.byContradiction fun h => hk2 (.inr h)
          rwa [at_toArray l j hj, at_toArray l (j - 1) (by omega)] at h1
        have := ih (j - 1) (by omega) (by omega)
        rw [hk'.2]
        exact this (List.getElem_mem _)

theorem compact_asc {l : List (List UInt8)} (h : l.Pairwise (fun a b => a ≤ b)) : asc (Lib.compact l) := by
  unfold Lib.compact Lib.compactUpTo asc
  rw [List.pairwise_map]
  have hp : ((List.range l.length).filter (Lib.keeps l.toArray)).Pairwise (fun i j => i < j ∧ j < l.length ∧ Lib.keeps l.toArray j = true) := by
    rw [List.pairwise_iff_forall_sublist]
    intro i j hs
    have h1 : [i, j].Sublist (List.range l.length) := hs.trans List.filter_sublist
    have h2 := (List.pairwise_iff_forall_sublist.1 List.pairwise_lt_range) h1
    have h3 : j ∈ (List.range l.length).filter (Lib.keeps l.toArray) := hs.subset (by simp)
    rw [List.mem_filter, List.mem_range] at h3
    exact ⟨h2, h3.1, h3.2⟩
  refine hp.imp ?_
  rintro i j ⟨hij, hj, hk⟩
  rw [at_toArray l i (by omega), at_toArray l j hj]
  have hk2 : j = 0 ∨ l.toArray[j]! ≠ l.toArray[j - 1]! := by simpa [Lib.keeps] using hk
  have hne : l[j] ≠ l[j - 1]'(by omega) := by
    rcases hk2 with h | h
    · omega
    · rwa [at_toArray l j hj, at_toArray l (j - 1) (by omega)] at h
  have hs1 : l[j - 1]'(by omega) ≤ l[j] := (List.pairwise_iff_getElem.1 h) (j - 1) j (by omega) hj (by omega)
  have hs0 : l[i]'(by omega) ≤ l[j - 1]'(by omega) := by
    rcases Nat.lt_or_ge i (j - 1) with h' | h'
    · exact (List.pairwise_iff_getElem.1 h) i (j - 1) (by omega) (by omega) h'
    · have : i = j - 1 := by omega
      subst this; exact List.le_refl _
  have hlt : l[j - 1]'(by omega) < l[j] := by
    rcases Classical.em (l[j - 1]'(by omega) < l[j]) with h' | h'
    · exact h'
    · exact absurd (List.le_antisymm (List.not_lt.1 h') hs1) hne
  exact Classical.byContradiction fun hn => hne (List.le_antisymm (List.le_trans (List.not_lt.1 hn) hs0) hs1)

theorem sorted_compact (ss : List (List UInt8)) : Lib.compact (ss.mergeSort fun x y => decide (x ≤ y)) = ss.foldl fadd [] := by
  have hs : (ss.mergeSort fun x y => decide (x ≤ y)).Pairwise (fun a b => a ≤ b) := by
    have := List.pairwise_mergeSort (le := fun x y : List UInt8 => decide (x ≤ y)) (fun a b c h1 h2 => by simp only [decide_eq_true_eq] at *; exact List.le_trans h1 h2) (fun a b => by simp only [Bool.or_eq_true, decide_eq_true_eq]; exact List.le_total a b) ss
    exact this.imp (fun h => by simpa using h)
  refine asc_ext (compact_asc hs) (fold_asc ss [] List.Pairwise.nil) (fun x => ?_)
  rw [compact_mem, List.mem_mergeSort, fold_mem]
  simp

end Go.Proofs.YtnhddnfobcofcaaGreatDoor.fl

namespace Go.Proofs.YtnhddnfobcofcaaGreatDoor.fl
open Go.ChangeShapes Go.WideShapes Go.ChangeAt Go.RowKit Go.Deep Go.Shelf Go.Sort
set_option linter.unusedVariables false
set_option linter.unusedSimpArgs false


/-- A row of texts in a block that can be written. -/
structure Blk (w : World) (g cap : Nat) (xs : List (List UInt8)) : Prop where
  row : ∃ cur, w.heap[g]? = some (.cells cur 9 (0, 0)) ∧ cur.size = cap ∧ cur.toList.take xs.length = xs.map encStr
  le : xs.length ≤ cap

theorem enc_strL : (encStr : List UInt8 → Value) = strL := by funext x; rfl

theorem Blk.holds {w : World} {g cap : Nat} {xs : List (List UInt8)} (h : Blk w g cap xs) : Holds encStr w g 0 xs.toArray := by
  obtain ⟨cur, hb, _, ht⟩ := h.row
  exact holds_of_block hb ht

theorem Blk.put {w : World} {g cap n : Nat} {os : Array Obj} {xs ys : List (List UInt8)} (h : Blk w g cap xs) (zs : List (List UInt8)) (hl : (ys ++ zs).length = xs.length) : Blk (grow (putRow encStr (Sort.ahead w n) g 0 (ys ++ zs).toArray) os) g cap ys := by
  obtain ⟨cur, hb, hs, ht⟩ := h.row
  have hle := h.le
  refine ⟨⟨_, heap_sorted _ hb, by simp [putCells, hs], ?_⟩, by rw [List.length_append] at hl; omega⟩
  have := take_putCells cur (ys ++ zs) (by omega)
  have h2 := congrArg (List.take ys.length) this
  rw [List.take_take, List.map_append, List.take_left' (by simp)] at h2
  rwa [Nat.min_eq_left (by simp)] at h2

theorem sort_any (g cap : Nat) (ss : List (List UInt8)) (w : World) (h : Blk w g cap ss) (hn : ss.length ≤ 3000) :
    Calls Tryz.prog 30 #[.slice (some ⟨g, 0, none⟩) ss.length cap] w fun e w' => e = .returned (.tuple #[]) ∧ Blk w' g cap (ss.mergeSort fun x y => decide (x ≤ y)) ∧ w.grownBy w' (some g) := by
  have hlt : g < w.heap.size := by obtain ⟨cur, hb, _⟩ := h.row; exact (Array.getElem?_eq_some_iff.1 hb).1
  refine (Any.slices_Sort_string Tryz.laysSort g 0 cap ss w h.holds hlt (by omega)).mono ?_
  rintro e w' ⟨rfl, n, os, rfl⟩
  refine ⟨rfl, ?_, grownBy_sorted _⟩
  have := h.put (n := n) (os := os) (ys := ss.mergeSort fun x y => decide (x ≤ y)) [] (by simp)
  simpa using this

theorem compact_len (zs : List (List UInt8)) : (Lib.compact zs).length ≤ zs.length := by
  unfold Lib.compact Lib.compactUpTo
  rw [List.length_map]
  have := List.length_filter_le (Lib.keeps zs.toArray) (List.range zs.length)
  simpa using this

theorem compact_any (g cap : Nat) (zs : List (List UInt8)) (w : World) (h : Blk w g cap zs) (hn : zs.length ≤ 3000) :
    Calls Tryz.prog 31 #[.slice (some ⟨g, 0, none⟩) zs.length cap] w fun e w' => e = .returned (.slice (some ⟨g, 0, none⟩) (Lib.compact zs).length cap) ∧ Blk w' g cap (Lib.compact zs) ∧ w.grownBy w' (some g) := by
  refine (Any.slices_Compact_string Tryz.laysCompact g 0 cap zs w h.holds (by omega) h.le).mono ?_
  rintro e w' ⟨rfl, q, rfl⟩
  have hc := compact_len zs
  refine ⟨rfl, ?_, ?_⟩
  · have := h.put (n := q) (os := #[]) (ys := Lib.compact zs) (List.replicate (zs.length - (Lib.compact zs).length) []) (by rw [List.length_append, List.length_replicate]; omega)
    rwa [grow_empty] at this
  · have := grownBy_sorted (w := w) (g := g) (n := q) (os := #[]) (Lib.compact zs ++ List.replicate (zs.length - (Lib.compact zs).length) []).toArray
    rwa [grow_empty] at this

def nms (E : Nat → cd.Cn) : Nat → List (List UInt8)
  | 0 => []
  | k + 1 => if (E k).kind = 1 then nms E k ++ [(E k).name.data.toList] else nms E k
theorem nms_len (E : Nat → cd.Cn) : ∀ k, (nms E k).length ≤ k
  | 0 => by simp [nms]
  | k + 1 => by
    have := nms_len E k
    unfold nms
    split
    · simp; omega
    · omega

def flagsL (E : Nat → cd.Cn) (n : Nat) : List (List UInt8) := if cd.okAll E n = true then (nms E n).foldl fadd [] else []

theorem foldl_len : ∀ (l o : List (List UInt8)), (l.foldl fadd o).length ≤ o.length + l.length
  | [], o => by simp
  | x :: l, o => by
    have h1 := foldl_len l (fadd o x)
    have h2 := (fadd_len x o).2
    simp only [List.foldl_cons, List.length_cons]
    omega

theorem empty_row (w : World) : StrR (w.alloc (.cells #[] 9)) (.slice (some ⟨w.heap.size, 0, none⟩) 0 0) [] := ⟨_, _, _, rfl, Nat.le_refl _, by decide, fun i x hx => by simp at hx⟩

end Go.Proofs.YtnhddnfobcofcaaGreatDoor.fl

namespace Go.Proofs.YtnhddnfobcofcaaGreatDoor.fl
open Go.ChangeShapes Go.WideShapes Go.ChangeAt Go.RowKit Go.Deep Go.Shelf Go.Sort
set_option linter.unusedVariables false
set_option linter.unusedSimpArgs false

theorem flags_few (E : Nat → cd.Cn) (n : Nat) : (flagsL E n).length ≤ 300 := by
  unfold flagsL
  split
  · next h =>
    have hn : n ≤ 300 := by unfold cd.okAll at h; simp only [Bool.and_eq_true, decide_eq_true_eq] at h; exact h.1.2
    have h1 := foldl_len (nms E n) []
    have h2 := nms_len E n
    simp at h1
    omega
  · simp

/-- An append of a row of texts to one that is not nil. -/
theorem app_str (w : World) {ops : Array Oper} {rest : List Oper} {o : Oper} {a : Act} {Q : Exit → Act → World → Prop} (hgd : o.guard = none) (s x : Operand)
    (ho : o.op = .call { callee := .builtin .append, args := #[s, x], argTypes := #[25, 25] })
    (base : Nat) (v : Value) (xs : List (List UInt8)) (hs : a.eval s = v) (hown : w.ownsRow base 9 1 v xs.length (xs.map strL)) (hv : v ≠ .slice none 0 0)
    (ad : Addr) (m c : Nat) (ys : List (List UInt8)) (hx : a.eval x = .slice (some ad) m c) (hm : ys.length = m) (hnews : ∀ j u, (ys.map strL)[j]? = some u → w.cell? (ad.add j) = some u) (hlen : xs.length + m ≤ 1000000) (hbase : base ≤ w.heap.size)
    (h : ∀ v' w', w'.ownsRow base 9 1 v' (xs ++ ys).length ((xs ++ ys).map strL) → v' ≠ .slice none 0 0 → w.grownBy w' v.ownBlock → wpList Tryz.prog ops Q rest (a.put o.dst v') w') : wpList Tryz.prog ops Q (o :: rest) a w := by
  obtain ⟨i0, hi, hz0, hz1, hz2⟩ := info_parts info9
  refine wpList_append_own w hgd s x 25 ho base 9 i0 _ 1 16 Tryz.underlying25 hi hz0 hz1 hz2 rfl (by omega) v xs.length (xs.map strL) hs hown ad m c (ys.map strL) hx (by simpa using hm) hnews (strL_one _) (by unfold maxLen; omega) (by omega) hbase ?_
  intro v' w' h1 h2 h3
  exact h _ _ (by rw [List.length_append, List.map_append, hm]; exact h1) (fun e => hv (h3.1 e).1) h2

theorem blk_own {w : World} {B : Nat} {v : Value} {xs : List (List UInt8)} (h : w.ownsRow B 9 1 v xs.length (xs.map strL)) (hv : v ≠ .slice none 0 0) : ∃ g cap, v = .slice (some ⟨g, 0, none⟩) xs.length cap ∧ B ≤ g ∧ Blk w g cap xs := by
  obtain ⟨hl, h⟩ := h
  rcases h with ⟨e, _⟩ | ⟨g, cap, cur, rfl, hb, hg, hc, hm, hz, ht⟩
  · exact absurd e hv
  · exact ⟨g, cap, rfl, hb, ⟨⟨cur, hg, by omega, by rw [enc_strL]; simpa using ht⟩, hc⟩⟩

set_option maxRecDepth 100000 in
set_option maxHeartbeats 2000000 in
theorem iflags_any (E : Nat → cd.Cn) (b n cap : Nat) (hcap : n ≤ cap ∧ cap ≤ 9223372036854775807) (hn : n ≤ 1048576) (hs : ∀ i, i < n → (E i).name.size ≤ 1048576) (w : World) (hX : cd.XsB w b n E) :
    Calls Tryz.prog 15 #[.slice (some ⟨b, 0, none⟩) n cap] w fun e w' => ∃ g c, e = .returned (.slice (some ⟨g, 0, none⟩) (flagsL E n).length c) ∧ w.heap.size ≤ g ∧ Blk w' g c (flagsL E n) ∧ Below w.heap.size w w' := by
  have HO : Hid (∀ W, W = w → Calls Tryz.prog 8 #[.slice (some ⟨b, 0, none⟩) n cap] W fun e w' => e = .returned (.bool (cd.okAll E n)) ∧ Below W.heap.size W w') := fun W h => by subst h; exact cd.iok_any E b n cap hcap hn hs _ hX
  cases hok : cd.okAll E n with
  | false =>
    have HF : Hid (flagsL E n = []) := by show _ = _; unfold flagsL; rw [hok]; rfl
    rw [hok] at HO
    clear hok
    go_enter Tryz.func15, Tryz.ntmps15
    go_wp2_with (go_at_call 8; refine (HO.out _ rfl).mono ?_; rintro e w1 ⟨rfl, hl1⟩)
    go_ret
    refine ⟨w1.heap.size, 0, by rw [HF.out]; rfl, hl1.size, ?_, hl1.alloc hl1.size _⟩
    rw [HF.out]
    exact ⟨⟨#[], blk_alloc_new _ _, rfl, by simp⟩, Nat.le_refl _⟩
  | true =>
    have HF : Hid (flagsL E n = (nms E n).foldl fadd []) := by show _ = _; unfold flagsL; rw [hok]; rfl
    have hn3 : n ≤ 300 := by unfold cd.okAll at hok; simp only [Bool.and_eq_true, decide_eq_true_eq] at hok; exact hok.1.2
    rw [hok] at HO
    clear hok
    go_enter Tryz.func15, Tryz.ntmps15
    go_wp2_with (go_at_call 8; refine (HO.out _ rfl).mono ?_; rintro e w1 ⟨rfl, hl1⟩)
    have hs1 := hl1.size
    go_loopw [3, 5, 13] (fun v _ x wr => ∃ j : Nat, j ≤ n ∧ x = .int .i64 (j : Int) ∧ wr.ownsRow w1.heap.size 9 1 v (nms E j).length ((nms E j).map strL) ∧ v ≠ .slice none 0 0 ∧ Below w1.heap.size w1 wr) (fun _ _ x _ => n - (intOf x).toNat)
    case atStart => exact ⟨0, Nat.zero_le _, rfl, cd.own_none w1 9, (by intro e; cases e), (Below.refl _ _).alloc (Nat.le_refl _) _⟩
    case round =>
      obtain ⟨j, hj, rfl, hown, hv, hbel⟩ := hrel
      have HV : Hid (u3 ≠ .slice none 0 0) := hv
      clear hv
      have hl2 := nms_len E j
      have hsz := hbel.size
      have HB : Below w.heap.size w wr := hl1.trans (hbel.mono hs1)
      by_cases hjl : j < n
      · have hjl' : (j : Int) < (n : Int) := by omega
        obtain ⟨g0, g1, g2⟩ := (hX.below HB) j hjl
        have hsj := hs j hjl
        by_cases hk : (E j).kind = 1
        · have HN : Hid (nms E (j + 1) = nms E j ++ [(E j).name.data.toList]) := by show _ = _; rw [nms, if_pos hk]
          have HSJ : Hid ((E j).name.size ≤ 1099511627776) := by show _ ≤ _; omega
          rw [hk] at g0
          clear hk
          go_wp2_with (first
            | (go_at_call 29; refine (cl.clone_any _ _ HSJ.out).mono ?_; rintro e w2 ⟨rfl, hl2'⟩; have hown2 := own_below (hown.alloc _) hl2'; have hb2 := (hbel.alloc hsz _).trans (hl2'.mono (by simp; omega)); have hsz2 := hb2.size)
            | (at_builtin; refine app_str _ rfl _ _ rfl w1.heap.size u3 (nms E j) rfl (hown2.alloc _) HV.out ⟨w2.heap.size, 0, none⟩ 1 1 [(E j).name.data.toList] rfl rfl (one_at w2 (E j).name) ?c1 ?c2 ?_)
            | go_in)
          case c1 => omega
          case c2 => simp; omega
          intro v' w' hown' hv' hg
          have hb' := below_grown (hb2.alloc hsz2 _) (hown2.alloc _) hg (by simp; omega)
          have HV' : Hid (v' ≠ .slice none 0 0) := hv'
          clear hown hown2 hg hv'
          go_wp2
          go_roundw
          case rel => exact ⟨j + 1, by omega, by go_num, by rw [HN.out]; simpa using hown', HV'.out, hb'⟩
          case measure => simp [intOf]; omega
        · have HN : Hid (nms E (j + 1) = nms E j) := by show _ = _; rw [nms, if_neg hk]
          have hkb : ((E j).kind == 1) = false := by simpa using hk
          go_wp2
          go_roundw
          case rel => exact ⟨j + 1, by omega, by go_num, by rw [HN.out]; exact hown.alloc _, HV.out, hbel.alloc hsz _⟩
          case measure => simp [intOf]; omega
      · have hjl' : ¬ (j : Int) < (n : Int) := by omega
        obtain rfl : j = n := by omega
        obtain ⟨g, c, rfl, hgB, hblk⟩ := blk_own hown HV.out
        have HBK : Hid (Blk wr g c (nms E j)) := hblk
        have hlm : ((nms E j).mergeSort fun x y => decide (x ≤ y)).length = (nms E j).length := by simp
        have HLM : Hid (((nms E j).mergeSort fun x y => decide (x ≤ y)).length = (nms E j).length) := hlm
        have HL3 : Hid ((nms E j).length ≤ 3000) := by show _ ≤ _; omega
        have HSC : Hid (Lib.compact ((nms E j).mergeSort fun x y => decide (x ≤ y)) = flagsL E j) := by show _ = _; rw [HF.out, sorted_compact]
        have HCO : Hid (∀ W, Blk W g c ((nms E j).mergeSort fun x y => decide (x ≤ y)) → Calls Tryz.prog 31 #[.slice (some ⟨g, 0, none⟩) (nms E j).length c] W fun e w' => e = .returned (.slice (some ⟨g, 0, none⟩) (flagsL E j).length c) ∧ Blk w' g c (flagsL E j) ∧ W.grownBy w' (some g)) := fun W hW => by
          have := compact_any g c _ W hW (by rw [HLM.out]; exact HL3.out)
          rw [HSC.out, HLM.out] at this
          exact this
        clear hblk hown hlm
        go_wp2_with (first
          | (go_at_call 30; refine (sort_any g c (nms E j) _ HBK.out HL3.out).mono ?_; rintro e w3 ⟨rfl, hbk3, hg3⟩)
          | (go_at_call 31; refine (HCO.out _ hbk3).mono ?_; rintro e w4 ⟨rfl, hbk4, hg4⟩))
        go_ret
        have b3 := HB.grown hg3 HB.size (fun k hk => by cases hk; omega)
        have b4 := b3.grown hg4 b3.size (fun k hk => by cases hk; omega)
        exact ⟨g, c, rfl, by omega, hbk4, b4⟩

end Go.Proofs.YtnhddnfobcofcaaGreatDoor.fl
