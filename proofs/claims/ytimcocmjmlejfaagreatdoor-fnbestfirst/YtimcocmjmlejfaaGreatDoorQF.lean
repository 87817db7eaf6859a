import Derived.Test.YtimcocmjmlejfaaGreatDoorQE
namespace Go.Proofs.YtimcocmjmlejfaaGreatDoor.rc
open Go.ChangeShapes Go.WideShapes Go.ChangeAt Go.RowKit Go.Deep Go.Lib Go.Shelf Go.Proofs.YtimcocmjmlejfaaGreatDoor.vr
set_option linter.unusedVariables false
set_option linter.unusedSimpArgs false

/-- What ReadConstraint answers. -/
def RIs (B : Nat) (l : List UInt8) (e : Ending) (w' : World) : Prop := ∃ ls v b vs K, (rd l = none ∧ ls = [] ∧ b = false ∨ rd l = some ls ∧ b = true) ∧ e = .returned (.tuple #[v, .bool b]) ∧ RdS B w' v vs ls K

theorem RdS.mono {B B' : Nat} {wr : World} {r : Value} {vs : List Value} {ls : List (List Tm)} {K : Nat → Prop} (h : RdS B wr r vs ls K) (hb : B' ≤ B) : RdS B' wr r vs ls K := by
  refine ⟨⟨h.own.1, ?_⟩, h.nn, h.len, h.one, h.inn, h.ks, ?_⟩
  · rcases h.own.2 with ⟨e, _⟩ | ⟨g, cap, cur, e, hg, r⟩
    · exact absurd e h.nn
    · exact .inr ⟨g, cap, cur, e, Nat.le_trans hb hg, r⟩
  · obtain ⟨gs, g1, g2, g3, g4⟩ := h.blk
    exact ⟨gs, g1, g2, fun g hg => ⟨(g3 g hg).1, Nat.le_trans hb (g3 g hg).2⟩, g4⟩

theorem rds_zero (w : World) : RdS w.heap.size (w.alloc (.cells #[] 41)) (.slice (some ⟨w.heap.size, 0, none⟩) 0 0) [] [] (fun _ => False) :=
  ⟨World.ownsRow_made w #[] 0 (Nat.le_refl _) (by decide) rfl, (by intro e; cases e), rfl, (fun u hu => by simp at hu), (fun i l h => by simp at h), (fun b h => h.elim), ⟨[], rfl, List.nodup_nil, (fun g hg => by simp at hg), (fun i l h => by simp at h)⟩⟩

set_option maxHeartbeats 2000000 in
set_option maxRecDepth 100000 in
theorem iread_any (s : ByteArray) (hs : s.size ≤ 1048576) (w : World) (hm : ML w) :
    Calls Tryz.prog 6 #[.string s] w fun e w' => RIs w.heap.size s.data.toList e w' ∧ Below w.heap.size w w' := by
  have hz : s.data.toList.length = s.size := by simp
  by_cases hbig : 200 < s.size
  · have hbig' : (200 : Int) < (s.size : Int) := by omega
    have HN : Hid (rd s.data.toList = none) := rd_no (by rw [hz]; exact hbig)
    go_enter Tryz.func6, Tryz.ntmps6
    go_wp2
    go_ret2
    exact ⟨⟨[], _, false, [], _, .inl ⟨HN.out, rfl, rfl⟩, rfl, rds_zero w⟩, (Below.refl _ _).alloc (Nat.le_refl _) _⟩
  have hbig' : ¬ (200 : Int) < (s.size : Int) := by omega
  have hbl : ¬ 200 < s.data.toList.length := by rw [hz]; exact hbig
  have HAL := al_len _ s.data.toList [] (Nat.le_refl _)
  obtain ⟨As, has⟩ : ∃ As, al [] s.data.toList = As := ⟨_, rfl⟩
  have HSP : Hid (∀ W, ML W → Calls Tryz.prog 18 #[.string s, .string ⟨#[124, 124]⟩] W fun e w' => e = .returned (.slice (some ⟨W.heap.size, 0, none⟩) As.length As.length) ∧ (∀ (i : Nat) x, As[i]? = some x → w'.cell? ⟨W.heap.size, i, none⟩ = some (.string ⟨x.toArray⟩)) ∧ Below W.heap.size W w') := fun W hW => by
    have := split_any s W hs hW
    rwa [has] at this
  rw [has, hz] at HAL
  have HAN : As.length ≤ 1000 := by have := HAL.1; omega
  have HAX : Hid (∀ x ∈ As, x.length ≤ 200) := fun x hx => by have := HAL.2 x hx; simp at this; omega
  have HBD : Hid (∀ a, a ∈ As → altOk (wds [] a) = false → rd s.data.toList = none) := fun a ha h => rd_bad (by rw [has]; exact ha) h
  have HYS : Hid ((∀ (i : Nat) (a : List UInt8), As[i]? = some a → altOk (wds [] a) = true) → rd s.data.toList = some (As.map fA)) := fun h => by
    have := rd_yes hbl (by rw [has]; exact h)
    rwa [has] at this
  have B0 : Below w.heap.size w (w.alloc (.cells #[] 41)) := (Below.refl _ _).alloc (Nat.le_refl _) _
  have HM0 : Hid (ML (w.alloc (.cells #[] 41))) := hm.below B0
  clear has HAL hbl hz hm
  go_enter Tryz.func6, Tryz.ntmps6
  go_wp2_with (go_at_call 18; refine (HSP.out _ HM0.out).mono ?_; rintro e w1 ⟨rfl, hAc, hl1⟩)
  have HR1 : Hid (RdS w.heap.size w1 (.slice (some ⟨w.heap.size, 0, none⟩) 0 0) [] [] (fun _ => False)) := (rds_zero w).still hl1
  have HB1 : Hid (Below w.heap.size w w1) := B0.trans (hl1.mono (by simp))
  obtain ⟨A, hA⟩ : ∃ A, (w.alloc (.cells #[] 41)).heap.size = A := ⟨_, rfl⟩
  have hA1 : A = w.heap.size + 1 := by rw [← hA]; simp
  have HAC : Hid (∀ (i : Nat) x, As[i]? = some x → w1.cell? ⟨w.heap.size + 1, i, none⟩ = some (.string ⟨x.toArray⟩)) := fun i x hx => by have := hAc i x hx; rwa [hA, hA1] at this
  have hs1 : w.heap.size + 1 ≤ w1.heap.size := by have := hl1.size; simpa using this
  clear hAc hl1 hA hA1
  go_loopw [4, 6, 7, 16] (fun r _ _ x wr => ∃ (j : Nat) (vs : List Value) (K : Nat → Prop), j ≤ As.length ∧ x = .int .i64 (j : Int) ∧ RdS w.heap.size wr r vs ((As.take j).map fA) K ∧ (∀ (i : Nat) (a : List UInt8), i < j → As[i]? = some a → altOk (wds [] a) = true) ∧ (0 < As.length → wr.heap[w.heap.size + 1]? = w1.heap[w.heap.size + 1]? ∧ w.heap.size + 1 < wr.heap.size ∧ r.ownBlock ≠ some (w.heap.size + 1)) ∧ Below w.heap.size w wr ∧ w.heap.size + 1 ≤ wr.heap.size) (fun _ _ _ x _ => As.length - (intOf x).toNat)
  case atStart =>
    refine ⟨0, [], _, Nat.zero_le _, rfl, HR1.out, fun i a h => by omega, fun hpos => ⟨rfl, ?_, fun h => ?_⟩, HB1.out, hs1⟩
    · exact World.block_lt_of_cell? _ _ (HAC.out 0 (As[0]) (List.getElem?_eq_getElem hpos))
    · simp [Value.ownBlock] at h
  case round =>
    obtain ⟨j, vs, K, hj, rfl, hrd, hall, hpl, hbel, hsz⟩ := hrel
    have HRD : Hid (RdS w.heap.size wr u4 vs ((As.take j).map fA) K) := hrd
    have HBE : Hid (Below w.heap.size w wr) := hbel
    have HALL : Hid (∀ (i : Nat) (a : List UInt8), i < j → As[i]? = some a → altOk (wds [] a) = true) := hall
    by_cases hjl : j < As.length
    · have hj' : (j : Int) < (As.length : Int) := by omega
      have HPL : Hid (wr.heap[w.heap.size + 1]? = w1.heap[w.heap.size + 1]? ∧ w.heap.size + 1 < wr.heap.size ∧ u4.ownBlock ≠ some (w.heap.size + 1)) := hpl (by omega)
      obtain ⟨a, ha⟩ : ∃ a, As[j]? = some a := ⟨_, List.getElem?_eq_getElem hjl⟩
      have ca : wr.cell? ⟨w.heap.size + 1, j, none⟩ = some (.string ⟨a.toArray⟩) := (World.cell?_of_block (a := ⟨w.heap.size + 1, j, none⟩) HPL.out.1).trans (HAC.out j a ha)
      have hal := HAX.out a (List.mem_of_getElem? ha)
      have hwl := wds_len a []
      have HTS : Hid (∀ W, Calls Tryz.prog 19 #[.string ⟨a.toArray⟩] W fun e w' => ∃ v, e = .returned v ∧ OwnT W.heap.size w' v (fA a) ∧ Below W.heap.size W w') := fun W => by
        have e : (⟨a.toArray⟩ : ByteArray).data.toList = a := by simp
        have := termsOf_any ⟨a.toArray⟩ (by show a.toArray.size ≤ _; simp; omega) (by rw [e]; intro x hx; have := hwl.2 x hx; simp at this; omega) (by rw [e]; omega) W
        rwa [e] at this
      have hfl : (fA a).length ≤ 1000000 := by unfold fA; simp; omega
      have HFS : Hid (∀ t ∈ fA a, t.2.length ≤ 1048576) := fun t ht => by
        unfold fA at ht
        obtain ⟨x, hx, rfl⟩ := List.mem_map.1 ht
        have h1 := hwl.2 x hx
        have h2 : (vL x).length ≤ x.length := by have := congrArg List.length (op_v x); simp at this; omega
        show (vL x).length ≤ _
        simp at h1
        omega
      have HAT : Hid (altT (fA a) = altOk (wds [] a)) := alt_trm _
      have HTK : Hid ((As.take (j + 1)).map fA = (As.take j).map fA ++ [fA a]) := by show _ = _; rw [List.take_add_one, ha]; simp
      have hvl : vs.length ≤ 1000 := by rw [hrd.len]; simp; omega
      have HAM : Hid (As[j]? = some a) := ha
      obtain ⟨S, hS⟩ : ∃ S : ByteArray, (⟨a.toArray⟩ : ByteArray) = S := ⟨_, rfl⟩
      rw [hS] at HTS ca
      clear hrd hall hpl hbel hS ha hal hwl
      cases hok : altOk (wds [] a) with
      | false =>
        rw [hok] at HAT
        have HN : Hid (rd s.data.toList = none) := HBD.out a (List.mem_of_getElem? HAM.out) hok
        clear hok
        go_wp2_with (first
          | (go_at_call 19; refine (HTS.out _).mono ?_; rintro e w2 ⟨v2, rfl, ho2, hl2⟩; obtain ⟨g2, c2, rfl, _⟩ := ho2.row)
          | (go_at_call 20; refine (altOk_any (fA a) _ _ ho2.row HFS.out (by omega)).mono ?_; rintro e w3 ⟨rfl, hl3⟩; rw [HAT.out]))
        go_ret2
        have b2 := HBE.out.trans (hl2.mono HBE.out.size)
        have b3 := b2.trans (hl3.mono b2.size)
        exact ⟨⟨[], _, false, [], _, .inl ⟨HN.out, rfl, rfl⟩, rfl, (rds_zero w3).mono b3.size⟩, b3.alloc b3.size _⟩
      | true =>
        rw [hok] at HAT
        have HOK : Hid (altOk (wds [] a) = true) := hok
        clear hok
        go_wp2_with (first
          | (go_at_call 19; refine (HTS.out _).mono ?_; rintro e w2 ⟨v2, rfl, ho2, hl2⟩; obtain ⟨g2, c2, rfl, _⟩ := ho2.row)
          | (go_at_call 20; refine (altOk_any (fA a) _ _ ho2.row HFS.out (by omega)).mono ?_; rintro e w3 ⟨rfl, hl3⟩; rw [HAT.out]; have HR3 := (HRD.out.still hl2).still hl3; have HB3 : Below w.heap.size w w3 := (HBE.out.trans (hl2.mono HBE.out.size)).trans (hl3.mono (HBE.out.trans (hl2.mono HBE.out.size)).size))
          | (at_builtin; refine app_rowT _ rfl _ _ rfl w.heap.size _ vs rfl (HR3.own.alloc _) HR3.nn ⟨_, 0, none⟩ (.slice (some ⟨g2, 0, none⟩) (fA a).length c2) rfl rfl (one_new _ _ _) (by omega) (by have := HB3.size; simp; omega) ?_; intro v4 w4 hown4 hnn4 hg4 hat4; have HB4 : Hid (Below w.heap.size w w4) := below_grownS (HB3.alloc HB3.size _) (HR3.own.alloc _) hg4 (by have := HB3.size; simp; omega))
          | go_in)
        go_roundw
        case rel =>
          have s2 := hl2.size
          have s3 := hl3.size
          have s4 := hg4.size
          have hg2 := own_ltT ho2.1 (b := g2) rfl
          refine ⟨j + 1, vs ++ [.slice (some ⟨g2, 0, none⟩) (fA a).length c2], _, by omega, by go_num, by rw [HTK.out]; exact HR3.more (w0 := wr) (fun b hb => (own_ltT HRD.out.own hb).2) hg2.1 (by omega) (ho2.row.below hl3) (fun b hb => (HRD.out.ks b hb).1) (by have := HBE.out.size; omega) (own_blkT (OwnT.bel ho2 hl3)) _ hown4 hnn4 hg4 hat4, fun i y hi hy => ?_, fun _ => ?_, HB4.out, by simp at s4; omega⟩
          · rcases Nat.lt_or_ge i j with h | h
            · exact HALL.out i y h hy
            · obtain rfl : i = j := by omega
              rw [HAM.out] at hy
              obtain rfl := Option.some.inj hy
              exact HOK.out
          · obtain ⟨p1, p2, p3⟩ := HPL.out
            have hk : w4.heap[w.heap.size + 1]? = wr.heap[w.heap.size + 1]? := by
              rw [hg4.block (w.heap.size + 1) (by simp; omega) (fun e => p3 e.symm)]
              exact ((((Below.refl w3.heap.size w3).alloc (Nat.le_refl _) _).block (w.heap.size + 1) (by omega)).trans (hl3.block (w.heap.size + 1) (by omega))).trans (hl2.block (w.heap.size + 1) p2)
            refine ⟨hk.trans p1, by simp at s4; omega, fun e => ?_⟩
            rcases hat4 with h | h
            · exact p3 (h.symm.trans e)
            · rw [h] at e
              have := Option.some.inj e
              simp at this
              omega
        case measure => simp [intOf]; omega
    · have hj' : ¬ (j : Int) < (As.length : Int) := by omega
      obtain rfl : j = As.length := by omega
      have HY : Hid (rd s.data.toList = some (As.map fA)) := HYS.out (fun i a ha => hall i a (List.getElem?_eq_some_iff.1 ha).1 ha)
      have HTT : Hid (RdS w.heap.size wr u4 vs (As.map fA) K) := by show RdS _ _ _ _ _ _; rw [List.take_length] at hrd; exact hrd
      clear hrd hall hpl
      go_wp2
      go_ret2
      exact ⟨⟨_, _, true, vs, K, .inr ⟨HY.out, rfl⟩, rfl, HTT.out⟩, HBE.out⟩

end Go.Proofs.YtimcocmjmlejfaaGreatDoor.rc
