import Derived.Test.YtlnagmdoepldmaaDoorPD
namespace Go.Proofs.YtlnagmdoepldmaaDoor.ex
open Go.ChangeShapes Go.WideShapes Go.ChangeAt Go.RowKit Go.Deep
set_option linter.unusedVariables false
set_option linter.unusedSimpArgs false

/-- What l3Params says of a part. -/
def parL (E : Nat → Ex) (r : Nat) (ps : List Nat) (j : Nat) : List UInt8 := (if 0 < j then [44, 32] else []) ++ txt r (treeP E r (pAt ps j))

theorem parL_len {E : Nat → Ex} {r p len n : Nat} {ps : List Nat} (hn : n ≤ 3000) (N : Node E r p len ps) (hp : p + len ≤ n) : ∀ i, i ≤ ps.length → (seqTo (parL E r ps) i).length ≤ 108900000000 := by
  intro i hi
  have := seq_len (f := parL E r ps) (m := ps.length) (c := 36300000) (fun j hj => by
    obtain ⟨d, z, e1, e2, e3, e4, e5⟩ := N.at_ j hj
    have := txt_len hn r (p + d) (z + 1) e5 (by omega) (by omega)
    have h2 : (if 0 < j then ([44, 32] : List UInt8) else []).length ≤ 2 := by split <;> simp
    rw [parL, e1, List.length_append]
    omega) i hi
  have := N.few
  have : i * 36300000 ≤ 3000 * 36300000 := Nat.mul_le_mul_right _ (by omega)
  omega

theorem word_pos {E : Nat → Ex} {r q len : Nat} (hl : 0 < len) (hl2 : len ≤ 3000) (hk : (E q).kind = 15) (hok : ok E r q len = true) : 0 < (E q).text.data.toList.length := by
  cases r with
  | zero => cases hok
  | succ r =>
    obtain ⟨_, hh, _⟩ := parts_of_ok hl2 hok
    unfold headB at hh
    rw [Bool.and_eq_true, Bool.and_eq_true, hk] at hh
    have h := hh.2.2
    rw [show useOf 15 = 2 from rfl, text2] at h
    unfold wordB at h
    split at h
    · cases h
    · next hx => rw [hx]; simp

/-- Something is said of the params just where there is one. -/
theorem par_empty {E : Nat → Ex} {r p len n : Nat} {ps : List Nat} (hl2 : len ≤ 3000) (N : Node E r p len ps) (hk : (E p).kind = 14) : (seqTo (parL E r ps) (ps.length - 1)).length = 0 ↔ ¬ 1 < ps.length := by
  constructor
  · intro h h1
    obtain ⟨m, hm⟩ : ∃ m, ps.length - 1 = m + 1 := ⟨ps.length - 2, by omega⟩
    have hx := N.kid 0 (by omega)
    rw [hk] at hx
    have hk0 : (E (pAt ps 0)).kind = 15 := by
      unfold kidOk at hx
      rw [if_neg (by omega), if_pos (by omega)] at hx
      exact hx
    obtain ⟨d, z, e1, e2, e3, e4, e5⟩ := N.at_ 0 (by omega)
    rw [e1] at hk0
    have hp := word_pos (by omega) (by omega) hk0 e5
    have ht : 0 < (txt r (treeP E r (p + d))).length := by
      rcases txt_param (by omega) (by omega) hk0 e5 with ⟨_, e⟩ | ⟨_, _, _, _, _, _, e⟩
      · rw [e]; exact hp
      · rw [e]; simp only [List.length_append]; omega
    have : ∀ m, (parL E r ps 0).length ≤ (seqTo (parL E r ps) (m + 1)).length := fun m => by
      induction m with
      | zero => simp [seqTo]
      | succ m ih => rw [seqTo, List.length_append]; omega
    have h3 := this m
    rw [← hm, h, parL, e1, List.length_append] at h3
    omega
  · intro h1
    rw [show ps.length - 1 = 0 by omega]
    rfl

def moreL (n : Int) (m : Nat) : List UInt8 := if n = 1 then (if 1 < m then [44, 32] else []) ++ [46, 46, 46] else []

set_option maxRecDepth 100000 in
set_option maxHeartbeats 1000000 in
theorem sparams_any {E : Nat → Ex} {b n r : Nat} (hn : n ≤ 3000) (H : ∀ r', r = r' + 1 → TxC E b n r') (p len cap : Nat) (ps : List Nat) (a : Option Addr) (cp : Nat) (w : World) (N : Node E r p len ps) (hk : (E p).kind = 14) (hX : XsB w b n E) (hl : 0 < len) (hp : p + len ≤ n) (hc : len ≤ cap ∧ cap ≤ 1099511627776) (hP : PsB w a (ps.map (relV p))) :
    Calls Tryd.prog 25 #[.slice (some ⟨b, p * 4, none⟩) len cap, .slice a ps.length cp] w fun e w' => e = .returned (.string ⟨([123] ++ seqTo (parL E r ps) (ps.length - 1) ++ moreL (E p).n ps.length ++ [125, 58, 32]).toArray⟩) ∧ Below w.heap.size w w' := by
  obtain ⟨bb, off, ha, hPc⟩ := hP
  have ha' : ps.length = 0 ∨ a = some ⟨bb, off, none⟩ := by simpa using ha
  have HCE : Hid (∀ i, i < ps.length → w.cell? ⟨bb, off + i, none⟩ = some (relV p (pAt ps i))) := fun i h => hPc i _ (by simp [h, pAt])
  have HSZ : Hid (∀ i, i ≤ ps.length → (seqTo (parL E r ps) i).length ≤ 108900000000) := parL_len hn N hp
  have HN : Hid (Node E r p len ps) := N
  have HTX : Hid (∀ r', r = r' + 1 → TxC E b n r') := H
  have hps : ps.length ≤ 3000 := by have := N.few; omega
  have hps1 : 1 ≤ ps.length := N.parts.2.2.2.2.2.2 (by omega)
  have HEM : Hid ((seqTo (parL E r ps) (ps.length - 1)).length = 0 ↔ ¬ 1 < ps.length) := par_empty (n := n) (by omega) N hk
  clear ha hPc N H
  have hl' : (0 : Int) < (len : Int) := by omega
  obtain ⟨G, hG⟩ : ∃ G : ByteArray, (⟨([123] ++ seqTo (parL E r ps) (ps.length - 1) ++ moreL (E p).n ps.length ++ [125, 58, 32]).toArray⟩ : ByteArray) = G := ⟨_, rfl⟩
  rw [hG]
  have HGG : Hid ((⟨([123] ++ seqTo (parL E r ps) (ps.length - 1) ++ moreL (E p).n ps.length ++ [125, 58, 32]).toArray⟩ : ByteArray) = G) := hG
  clear hG
  go_enter Tryd.func25, Tryd.ntmps25
  go_wp2
  go_loopw [5, 6] (fun s x wr => ∃ (i : Nat), i ≤ ps.length - 1 ∧ s = .string ⟨(seqTo (parL E r ps) i).toArray⟩ ∧ x = .int .i64 (i : Int) ∧ Below w.heap.size w wr) (fun _ x _ => ps.length - (intOf x).toNat)
  case atStart => exact ⟨0, Nat.zero_le _, rfl, rfl, Below.refl _ _⟩
  case round =>
    obtain ⟨i, hi, rfl, rfl, hbel⟩ := hrel
    have hszi := HSZ.out i (by omega)
    have hXr := hX.below hbel
    obtain ⟨s, hs⟩ : ∃ s : ByteArray, (⟨(seqTo (parL E r ps) i).toArray⟩ : ByteArray) = s := ⟨_, rfl⟩
    have hsz : s.size ≤ 108900000000 := by rw [← hs]; simpa [ByteArray.size] using hszi
    rw [hs]
    by_cases h : i < ps.length - 1
    · have h' : (i : Int) < (ps.length : Int) - 1 := by omega
      have h2 : (i : Int) < (ps.length : Int) := by omega
      obtain rfl := ha'.resolve_left (by omega)
      obtain ⟨d, z, e1, e2, e3, e4, e5⟩ := HN.out.at_ i (by omega)
      have hk15 : (E (p + d)).kind = 15 := by
        have hx := HN.out.kid i (by omega)
        rw [hk, e1] at hx
        unfold kidOk at hx
        rw [if_neg (by omega), if_pos (by omega)] at hx
        exact hx
      have ci : wr.cell? ⟨bb, off + i, none⟩ = some (.int .i64 (d : Int)) := by
        have c := HCE.out i (by omega)
        rw [e1, relV, show p + d - p = d by omega] at c
        exact (hbel.cell (p := ⟨bb, _, none⟩) (World.block_lt_of_cell? _ _ c)).trans c
      have HPT := part_any E b n p len cap d z wr hXr hp hn hc e3 (by omega)
      have hts := text_of_ok (by omega) e5
      have HNX : Hid (seqTo (parL E r ps) (i + 1) = seqTo (parL E r ps) i ++ ((if 0 < i then [44, 32] else []) ++ txt r (treeP E r (p + d)))) := by show _ = _; rw [seqTo, parL, e1]
      obtain ⟨c', hc'⟩ : ∃ c', cap - d = c' := ⟨_, rfl⟩
      rw [hc'] at HPT
      have hcz : z + 1 ≤ c' := by omega
      have hc2 : c' ≤ 1099511627776 := by omega
      have hQn : p + d + (z + 1) ≤ n := by omega
      obtain ⟨Q, hQ⟩ : ∃ Q, p + d = Q := ⟨_, rfl⟩
      rw [hQ] at HPT e3 e5 hts HNX hQn hk15
      clear hc' e1 e4 hQ
      have c1 := (hXr Q (by omega)).2.1
      obtain ⟨t, ht⟩ : ∃ t, (E Q).text = t := ⟨_, rfl⟩
      rw [ht] at c1 hts
      have HPT' : Hid (Calls Tryd.prog 21 #[.slice (some ⟨b, p * 4, none⟩) len cap, .int .i64 (d : Int)] wr fun e w' => e = .returned (.slice (some ⟨b, Q * 4, none⟩) (z + 1) c') ∧ w' = wr) := HPT
      have HS : Hid ((⟨(seqTo (parL E r ps) i).toArray⟩ : ByteArray) = s) := hs
      clear HPT hs hszi e2 e3
      have g1 : ¬ 9223372036854775807 < s.size + 2 := by omega
      have g2 : ¬ 9223372036854775807 < s.size + t.size := by omega
      have g3 : ¬ 9223372036854775807 < s.size + 2 + t.size := by omega
      rcases txt_param (by omega) (by omega) hk15 e5 with ⟨hz1, et⟩ | ⟨r', z', er, ez, eo, ek, et⟩
      · obtain rfl : z = 0 := by omega
        by_cases hi0 : 0 < i
        · have hi0' : (0 : Int) < (i : Int) := by omega
          have HB : Hid (s ++ ⟨#[44, 32]⟩ ++ t = ⟨(seqTo (parL E r ps) (i + 1)).toArray⟩) := by
            show _ = _
            rw [HNX.out, et, if_pos hi0, ← HS.out, ht]
            apply ByteArray.ext; simp
          clear e5 hXr hk15 et
          go_wp2_with (go_at_call 21; refine HPT'.out.mono ?_; rintro e w1 ⟨rfl, rfl⟩)
          go_roundw
          case rel => exact ⟨i + 1, by omega, by rw [HB.out], by go_num, hbel⟩
          case measure => simp [intOf]; omega
        · obtain rfl : i = 0 := by omega
          have ci0 : wr.cell? ⟨bb, off, none⟩ = some (.int .i64 (d : Int)) := by simpa using ci
          have h20 : (0 : Int) < (ps.length : Int) := by omega
          have h21 : (0 : Int) < (ps.length : Int) - 1 := by omega
          clear ci
          have HB : Hid (s ++ t = ⟨(seqTo (parL E r ps) (0 + 1)).toArray⟩) := by
            show _ = _
            rw [HNX.out, et, if_neg hi0, ← HS.out, ht]
            apply ByteArray.ext; simp
          clear e5 hXr hk15 et
          go_wp2_with (go_at_call 21; refine HPT'.out.mono ?_; rintro e w1 ⟨rfl, rfl⟩)
          go_roundw
          case rel => exact ⟨0 + 1, by omega, by rw [HB.out], by go_num, hbel⟩
          case measure => simp [intOf]; omega
      · obtain rfl : z = z' + 1 := by omega
        have hl2 := txt_len hn r' (Q + 1) (z' + 1) eo (by omega) (by omega)
        have hbr := brak_le (E (Q + 1)).kind (txt r' (treeP E r' (Q + 1)))
        have HSH := fun (w1 : World) (hX1 : XsB w1 b n E) => l3show_any hn (HTX.out r' er) (Q + 1) (z' + 1) (c' - 1) w1 eo ek hX1 (by omega) (by omega) (by omega) (by omega)
        obtain ⟨u, hu⟩ : ∃ u : ByteArray, (⟨(brak (E (Q + 1)).kind (txt r' (treeP E r' (Q + 1)))).toArray⟩ : ByteArray) = u := ⟨_, rfl⟩
        have hus : u.size ≤ 36300002 := by rw [← hu]; simp [ByteArray.size]; omega
        rw [hu, show (Q + 1) * 4 = Q * 4 + 4 by omega] at HSH
        have HSH' : Hid (∀ w1, XsB w1 b n E → Calls Tryd.prog 20 #[.slice (some ⟨b, Q * 4 + 4, none⟩) (z' + 1) (c' - 1)] w1 fun e w' => e = .returned (.string u) ∧ Below w1.heap.size w1 w') := HSH
        have k1 : ¬ c' = 1 := by omega
        have k2 : (1 : Int) ≤ (z' : Int) + 1 + 1 := by omega
        have k3 : (1 : Int) < (z' : Int) + 1 + 1 := by omega
        have HXR : Hid (XsB wr b n E) := hXr
        have HBE : Hid (Below w.heap.size w wr) := hbel
        by_cases hi0 : 0 < i
        · have hi0' : (0 : Int) < (i : Int) := by omega
          have HB : Hid (s ++ ⟨#[44, 32]⟩ ++ t ++ ⟨#[32, 63, 32]⟩ ++ u = ⟨(seqTo (parL E r ps) (i + 1)).toArray⟩) := by
            show _ = _
            rw [HNX.out, et, if_pos hi0, ← HS.out, ht, ← hu]
            apply ByteArray.ext; simp
          have g4 : ¬ 9223372036854775807 < s.size + 2 + t.size + 3 := by omega
          have g5 : ¬ 9223372036854775807 < s.size + 2 + t.size + 3 + u.size := by omega
          clear e5 hXr hk15 et HSH hu eo ek hl2 hbr
          go_wp2_with (first
            | (go_at_call 21; refine HPT'.out.mono ?_; rintro e w1 ⟨rfl, rfl⟩)
            | (go_at_call 20; refine (HSH'.out _ HXR.out).mono ?_; rintro e w2 ⟨rfl, hb2⟩))
          go_roundw
          case rel => exact ⟨i + 1, by omega, by rw [HB.out], by go_num, HBE.out.trans (hb2.mono HBE.out.size)⟩
          case measure => simp [intOf]; omega
        · obtain rfl : i = 0 := by omega
          have ci0 : wr.cell? ⟨bb, off, none⟩ = some (.int .i64 (d : Int)) := by simpa using ci
          have h20 : (0 : Int) < (ps.length : Int) := by omega
          have h21 : (0 : Int) < (ps.length : Int) - 1 := by omega
          clear ci
          have HB : Hid (s ++ t ++ ⟨#[32, 63, 32]⟩ ++ u = ⟨(seqTo (parL E r ps) (0 + 1)).toArray⟩) := by
            show _ = _
            rw [HNX.out, et, if_neg hi0, ← HS.out, ht, ← hu]
            apply ByteArray.ext; simp
          have g4 : ¬ 9223372036854775807 < s.size + t.size + 3 := by omega
          have g5 : ¬ 9223372036854775807 < s.size + t.size + 3 + u.size := by omega
          clear e5 hXr hk15 et HSH hu eo ek hl2 hbr
          go_wp2_with (first
            | (go_at_call 21; refine HPT'.out.mono ?_; rintro e w1 ⟨rfl, rfl⟩)
            | (go_at_call 20; refine (HSH'.out _ HXR.out).mono ?_; rintro e w2 ⟨rfl, hb2⟩))
          go_roundw
          case rel => exact ⟨0 + 1, by omega, by rw [HB.out], by go_num, HBE.out.trans (hb2.mono HBE.out.size)⟩
          case measure => simp [intOf]; omega
    · have h' : ¬ (i : Int) < (ps.length : Int) - 1 := by omega
      obtain rfl : i = ps.length - 1 := by omega
      have HS : Hid ((⟨(seqTo (parL E r ps) (ps.length - 1)).toArray⟩ : ByteArray) = s) := hs
      have hem : s.size = 0 ↔ ¬ 1 < ps.length := by rw [← HEM.out, ← hs]; simp [ByteArray.size]
      have c2 := (hXr p (by omega)).2.2.1
      have HG : Hid (∀ x : List UInt8, (⟨([123] ++ seqTo (parL E r ps) (ps.length - 1) ++ x ++ [125, 58, 32]).toArray⟩ : ByteArray) = ⟨#[123]⟩ ++ (s ++ ⟨x.toArray⟩) ++ ⟨#[125, 58, 32]⟩) := fun x => by
        rw [← hs]
        apply ByteArray.ext; simp
      clear hs
      have g1 : ¬ 9223372036854775807 < s.size + 2 := by omega
      have g2 : ¬ 9223372036854775807 < s.size + 2 + 3 := by omega
      have g3 : ¬ 9223372036854775807 < s.size + 3 := by omega
      have g4 : ¬ 9223372036854775807 < 1 + s.size := by omega
      have g5 : ¬ 9223372036854775807 < 1 + s.size + 3 := by omega
      have g6 : ¬ 9223372036854775807 < 1 + (s.size + 2 + 3) := by omega
      have g7 : ¬ 9223372036854775807 < 1 + (s.size + 2 + 3) + 3 := by omega
      have g8 : ¬ 9223372036854775807 < 1 + (s.size + 3) := by omega
      have g9 : ¬ 9223372036854775807 < 1 + (s.size + 3) + 3 := by omega
      by_cases hn1 : (E p).n = 1
      · rw [hn1] at c2
        by_cases h1 : 1 < ps.length
        · have hne : (s.toList == []) = false := by
            have : ¬ s.size = 0 := fun e => hem.1 e h1
            cases hh : s.toList with
            | nil => exact absurd ((empty_iff s).1 (by rw [hh]; rfl)) this
            | cons x y => rfl
          have HM : Hid (s ++ (⟨(moreL 1 ps.length).toArray⟩ : ByteArray) = s ++ ⟨#[44, 32]⟩ ++ ⟨#[46, 46, 46]⟩) := by
            show _ = _
            rw [moreL, if_pos rfl, if_pos h1]
            apply ByteArray.ext; simp
          go_wp2
          go_ret
          exact ⟨by rw [← HGG.out, hn1, HG.out, HM.out]; rfl, hbel⟩
        · have hne : (s.toList == []) = true := by
            have h0 : s.size = 0 := hem.2 h1
            have := (empty_iff s).2 h0
            cases hh : s.toList with
            | nil => rfl
            | cons x y => rw [hh] at this; cases this
          have HM : Hid (s ++ (⟨(moreL 1 ps.length).toArray⟩ : ByteArray) = s ++ ⟨#[46, 46, 46]⟩) := by
            show _ = _
            rw [moreL, if_pos rfl, if_neg h1]
            apply ByteArray.ext; simp
          go_wp2
          go_ret
          exact ⟨by rw [← HGG.out, hn1, HG.out, HM.out]; rfl, hbel⟩
      · have hn1' : ((E p).n == 1) = false := by simpa using hn1
        have HM : Hid (s ++ (⟨(moreL (E p).n ps.length).toArray⟩ : ByteArray) = s) := by
          show _ = _
          rw [moreL, if_neg hn1]
          apply ByteArray.ext; simp
        go_wp2
        go_ret
        exact ⟨by rw [← HGG.out, HG.out, HM.out]; rfl, hbel⟩

end Go.Proofs.YtlnagmdoepldmaaDoor.ex
