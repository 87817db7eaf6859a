import Derived.Test.YtlnagmdoepldmaaDoorPC
import Derived.Deep.RegionHeld3
namespace Go.Proofs.YtlnagmdoepldmaaDoor.ex
open Go.ChangeShapes Go.WideShapes Go.ChangeAt Go.RowKit Go.Deep
set_option linter.unusedVariables false
set_option linter.unusedSimpArgs false

theorem bindL_len {E : Nat → Ex} {r p len n : Nat} {ps : List Nat} (hn : n ≤ 3000) (N : Node E r p len ps) (hp : p + len ≤ n) : ∀ i, i ≤ ps.length → (seqTo (bindL E r ps) i).length ≤ 108900000000 := by
  intro i hi
  have := seq_len (f := bindL E r ps) (m := ps.length) (c := 36300000) (fun j hj => by
    unfold bindL
    split
    · obtain ⟨d, z, e1, e2, e3, e4, e5⟩ := N.at_ j hj
      have := txt_len hn r (p + d) (z + 1) e5 (by omega) (by omega)
      rw [e1]
      omega
    · simp) i hi
  have := N.few
  have : i * 36300000 ≤ 3000 * 36300000 := Nat.mul_le_mul_right _ (by omega)
  omega

theorem text_of_ok {E : Nat → Ex} {r p len : Nat} (hl2 : len ≤ 3000) (hok : ok E r p len = true) : (E p).text.size ≤ 4000 := by
  cases r with
  | zero => cases hok
  | succ r =>
    obtain ⟨_, hh, _⟩ := parts_of_ok hl2 hok
    unfold headB at hh
    rw [Bool.and_eq_true, Bool.and_eq_true] at hh
    have := text_size hh.2.2
    simpa using this

set_option maxRecDepth 100000 in
set_option maxHeartbeats 1000000 in
theorem sbinds_any {E : Nat → Ex} {b n r : Nat} (hn : n ≤ 3000) (H : ∀ r', r = r' + 1 → TxC E b n r') (p len cap : Nat) (ps : List Nat) (a : Option Addr) (cp : Nat) (w : World) (N : Node E r p len ps) (hX : XsB w b n E) (hl : 0 < len) (hp : p + len ≤ n) (hc : len ≤ cap ∧ cap ≤ 1099511627776) (hP : PsB w a (ps.map (relV p))) :
    Calls Tryd.prog 24 #[.slice (some ⟨b, p * 4, none⟩) len cap, .slice a ps.length cp] w fun e w' => e = .returned (.string ⟨(seqTo (bindL E r ps) ps.length).toArray⟩) ∧ Below w.heap.size w w' := by
  obtain ⟨bb, off, ha, hPc⟩ := hP
  have ha' : ps.length = 0 ∨ a = some ⟨bb, off, none⟩ := by simpa using ha
  have HCE : Hid (∀ i, i < ps.length → w.cell? ⟨bb, off + i, none⟩ = some (relV p (pAt ps i))) := fun i h => hPc i _ (by simp [h, pAt])
  have HSZ : Hid (∀ i, i ≤ ps.length → (seqTo (bindL E r ps) i).length ≤ 108900000000) := bindL_len hn N hp
  have HN : Hid (Node E r p len ps) := N
  have HTX : Hid (∀ r', r = r' + 1 → TxC E b n r') := H
  have hps : ps.length ≤ 3000 := by have := N.few; omega
  clear ha hPc N H
  go_enter Tryd.func24, Tryd.ntmps24
  go_wp2
  go_loopw [5, 6] (fun s x wr => ∃ (i : Nat), i ≤ ps.length ∧ s = .string ⟨(seqTo (bindL E r ps) i).toArray⟩ ∧ x = .int .i64 (i : Int) ∧ Below w.heap.size w wr) (fun _ x _ => ps.length - (intOf x).toNat)
  case atStart => exact ⟨0, Nat.zero_le _, rfl, rfl, Below.refl _ _⟩
  case round =>
    obtain ⟨i, hi, rfl, rfl, hbel⟩ := hrel
    have hszi := HSZ.out i hi
    have hXr := hX.below hbel
    obtain ⟨s, hs⟩ : ∃ s : ByteArray, (⟨(seqTo (bindL E r ps) i).toArray⟩ : ByteArray) = s := ⟨_, rfl⟩
    have hsz : s.size ≤ 108900000000 := by rw [← hs]; simpa [ByteArray.size] using hszi
    rw [hs]
    by_cases h : i < ps.length
    · have h' : (i : Int) < (ps.length : Int) := by omega
      obtain rfl := ha'.resolve_left (by omega)
      obtain ⟨d, z, e1, e2, e3, e4, e5⟩ := HN.out.at_ i h
      have ci : wr.cell? ⟨bb, off + i, none⟩ = some (.int .i64 (d : Int)) := by
        have c := HCE.out i h
        rw [e1, relV, show p + d - p = d by omega] at c
        exact (hbel.cell (p := ⟨bb, _, none⟩) (World.block_lt_of_cell? _ _ c)).trans c
      have HPT := part_any E b n p len cap d z wr hXr hp hn hc e3 (by omega)
      have hts := text_of_ok (by omega) e5
      have HNX : Hid (seqTo (bindL E r ps) (i + 1) = seqTo (bindL E r ps) i ++ bindL E r ps i) := rfl
      have HBL : Hid (bindL E r ps i = if (E (p + d)).kind = 6 ∨ (E (p + d)).kind = 7 then txt r (treeP E r (p + d)) else []) := by show _ = _; rw [bindL, e1]
      obtain ⟨c', hc'⟩ : ∃ c', cap - d = c' := ⟨_, rfl⟩
      rw [hc'] at HPT
      have hcz : z + 1 ≤ c' := by omega
      have hc2 : c' ≤ 1099511627776 := by omega
      have hQn : p + d + (z + 1) ≤ n := by omega
      obtain ⟨Q, hQ⟩ : ∃ Q, p + d = Q := ⟨_, rfl⟩
      rw [hQ] at HPT e3 e5 hts HBL hQn
      clear hc' e1 e4 hQ
      have c0 := (hXr Q (by omega)).1
      have c1 := (hXr Q (by omega)).2.1
      obtain ⟨t, ht⟩ : ∃ t, (E Q).text = t := ⟨_, rfl⟩
      rw [ht] at c1 hts
      have HPT' : Hid (Calls Tryd.prog 21 #[.slice (some ⟨b, p * 4, none⟩) len cap, .int .i64 (d : Int)] wr fun e w' => e = .returned (.slice (some ⟨b, Q * 4, none⟩) (z + 1) c') ∧ w' = wr) := HPT
      have HS : Hid ((⟨(seqTo (bindL E r ps) i).toArray⟩ : ByteArray) = s) := hs
      clear HPT hs hszi e2 e3
      by_cases h7 : (E Q).kind = 7
      · rw [h7] at c0
        have HB : Hid (s ++ ⟨#[105, 110, 104, 101, 114, 105, 116, 32]⟩ ++ t ++ ⟨#[59, 32]⟩ = ⟨(seqTo (bindL E r ps) (i + 1)).toArray⟩) := by
          show _ = _
          rw [HNX.out, HBL.out, if_pos (.inr h7), txt_inherit h7 e5, ← HS.out, ht]
          apply ByteArray.ext; simp
        have g1 : ¬ 9223372036854775807 < s.size + 8 := by omega
        have g2 : ¬ 9223372036854775807 < s.size + 8 + t.size := by omega
        have g3 : ¬ 9223372036854775807 < s.size + 8 + t.size + 2 := by omega
        clear h7 e5 hXr
        go_wp2_with (go_at_call 21; refine HPT'.out.mono ?_; rintro e w1 ⟨rfl, rfl⟩)
        go_roundw
        case rel => exact ⟨i + 1, by omega, by rw [HB.out], by go_num, hbel⟩
        case measure => simp [intOf]; omega
      · by_cases h6 : (E Q).kind = 6
        · rw [h6] at c0
          obtain ⟨r', z', er, ez, eo, ek, et⟩ := txt_bind (by omega) (by omega) h6 e5
          obtain rfl : z = z' + 1 := by omega
          have hl2 := txt_len hn r' (Q + 1) (z' + 1) eo (by omega) (by omega)
          have hbr := brak_le (E (Q + 1)).kind (txt r' (treeP E r' (Q + 1)))
          have HSH := fun (w1 : World) (hX1 : XsB w1 b n E) => l3show_any hn (HTX.out r' er) (Q + 1) (z' + 1) (c' - 1) w1 eo ek hX1 (by omega) (by omega) (by omega) (by omega)
          obtain ⟨u, hu⟩ : ∃ u : ByteArray, (⟨(brak (E (Q + 1)).kind (txt r' (treeP E r' (Q + 1)))).toArray⟩ : ByteArray) = u := ⟨_, rfl⟩
          have hus : u.size ≤ 36300002 := by rw [← hu]; simp [ByteArray.size]; omega
          have HB : Hid (s ++ t ++ ⟨#[32, 61, 32]⟩ ++ u ++ ⟨#[59, 32]⟩ = ⟨(seqTo (bindL E r ps) (i + 1)).toArray⟩) := by
            show _ = _
            rw [HNX.out, HBL.out, if_pos (.inl h6), et, ← HS.out, ht, ← hu]
            apply ByteArray.ext; simp
          rw [hu, show (Q + 1) * 4 = Q * 4 + 4 by omega] at HSH
          have HSH' : Hid (∀ w1, XsB w1 b n E → Calls Tryd.prog 20 #[.slice (some ⟨b, Q * 4 + 4, none⟩) (z' + 1) (c' - 1)] w1 fun e w' => e = .returned (.string u) ∧ Below w1.heap.size w1 w') := HSH
          have HK : Hid (∀ w2, Below wr.drew.heap.size wr.drew w2 → w2.cell? ⟨b, Q * 4 + 1, none⟩ = some (.string t)) := fun w2 h2 => (h2.cell (p := ⟨b, _, none⟩) (World.block_lt_of_cell? _ _ c1)).trans c1
          have g1 : ¬ 9223372036854775807 < s.size + t.size := by omega
          have g2 : ¬ 9223372036854775807 < s.size + t.size + 3 := by omega
          have g3 : ¬ 9223372036854775807 < s.size + t.size + 3 + u.size := by omega
          have g4 : ¬ 9223372036854775807 < s.size + t.size + 3 + u.size + 2 := by omega
          have k1 : ¬ c' = 1 := by omega
          have k2 : (1 : Int) ≤ (z' : Int) + 1 + 1 := by omega
          have k0 : (0 : Int) < (z' : Int) + 1 + 1 := by omega
          have HXD : Hid (XsB wr.drew b n E) := hXr
          have HBE : Hid (Below w.heap.size w wr) := hbel
          clear h7 h6 e5 hXr HSH hu et eo ek hl2 hbr
          go_wp2_with (go_at_call 21; refine HPT'.out.mono ?_; rintro e w1 ⟨rfl, rfl⟩)
          go_region_held3 (fun w' => w'.cell? ⟨b, Q * 4 + 1, none⟩ = some (.string t))
            (first
              | go_keep
              | exact HK.out _ hb2
              | exact HK.out _ hb2.drew)
            (first | ((go_at_call 20; refine (HSH'.out _ HXD.out).mono ?_; rintro e w2 ⟨rfl, hb2⟩)))
          go_wp2_with fail
          go_roundw
          case rel => exact ⟨i + 1, by omega, by rw [HB.out], by go_num, HBE.out.drew.trans (hb2.mono HBE.out.size)⟩
          case measure => simp [intOf]; omega
        · have q7 : ((E Q).kind == 7) = false := by simpa using h7
          have q6 : ((E Q).kind == 6) = false := by simpa using h6
          have HB : Hid (s = ⟨(seqTo (bindL E r ps) (i + 1)).toArray⟩) := by
            show _ = _
            rw [HNX.out, HBL.out, if_neg (by omega), ← HS.out]
            simp
          clear h7 h6 e5 hXr
          go_wp2_with (go_at_call 21; refine HPT'.out.mono ?_; rintro e w1 ⟨rfl, rfl⟩)
          go_roundw
          case rel => exact ⟨i + 1, by omega, by rw [← HB.out], by go_num, hbel⟩
          case measure => simp [intOf]; omega
    · have h' : ¬ (i : Int) < (ps.length : Int) := by omega
      obtain rfl : i = ps.length := by omega
      have HS : Hid ((⟨(seqTo (bindL E r ps) ps.length).toArray⟩ : ByteArray) = s) := hs
      clear hs
      go_wp2
      go_ret
      exact ⟨by rw [HS.out]; rfl, hbel⟩

end Go.Proofs.YtlnagmdoepldmaaDoor.ex
