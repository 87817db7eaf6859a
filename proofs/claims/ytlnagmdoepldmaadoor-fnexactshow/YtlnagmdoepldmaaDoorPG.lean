import Derived.Test.YtlnagmdoepldmaaDoorPF
import Derived.Test.YtlnagmdoepldmaaDoorXK
import Derived.BigQuiet
import Derived.Deep.RegionHeld3
namespace Go.Proofs.YtlnagmdoepldmaaDoor.ex
open Go.ChangeShapes Go.WideShapes Go.ChangeAt Go.RowKit Go.Deep
set_option linter.unusedVariables false
set_option linter.unusedSimpArgs false

theorem row1 {w : World} {base : Nat} {v : Value} {xs : List Value} {n : Nat} {s0 : ByteArray} (hown : w.ownsRow base 9 1 v n xs) (hx : xs = [.string s0]) : ∃ bb off cap, v = .slice (some ⟨bb, off, none⟩) 1 cap ∧ w.cell? ⟨bb, off, none⟩ = some (.string s0) := by
  obtain ⟨hl, a, cap, rfl, _, _, bb, off, ha, hc⟩ := PsB.own hown
  subst hx
  obtain rfl : n = 1 := by simpa using hl.symm
  obtain rfl := ha.resolve_left (by simp)
  exact ⟨bb, off, cap, rfl, hc 0 _ rfl⟩

theorem row2 {w : World} {base : Nat} {v : Value} {xs : List Value} {n : Nat} {s0 s1 : ByteArray} (hown : w.ownsRow base 9 1 v n xs) (hx : xs = [.string s0, .string s1]) : ∃ bb off cap, v = .slice (some ⟨bb, off, none⟩) 2 cap ∧ w.cell? ⟨bb, off, none⟩ = some (.string s0) ∧ w.cell? ⟨bb, off + 1, none⟩ = some (.string s1) := by
  obtain ⟨hl, a, cap, rfl, _, _, bb, off, ha, hc⟩ := PsB.own hown
  subst hx
  obtain rfl : n = 2 := by simpa using hl.symm
  obtain rfl := ha.resolve_left (by simp)
  exact ⟨bb, off, cap, rfl, hc 0 _ rfl, hc 1 _ rfl⟩

theorem row3 {w : World} {base : Nat} {v : Value} {xs : List Value} {n : Nat} {s0 s1 s2 : ByteArray} (hown : w.ownsRow base 9 1 v n xs) (hx : xs = [.string s0, .string s1, .string s2]) : ∃ bb off cap, v = .slice (some ⟨bb, off, none⟩) 3 cap ∧ w.cell? ⟨bb, off, none⟩ = some (.string s0) ∧ w.cell? ⟨bb, off + 1, none⟩ = some (.string s1) ∧ w.cell? ⟨bb, off + 2, none⟩ = some (.string s2) := by
  obtain ⟨hl, a, cap, rfl, _, _, bb, off, ha, hc⟩ := PsB.own hown
  subst hx
  obtain rfl : n = 3 := by simpa using hl.symm
  obtain rfl := ha.resolve_left (by simp)
  exact ⟨bb, off, cap, rfl, hc 0 _ rfl, hc 1 _ rfl, hc 2 _ rfl⟩

theorem list1 {ps : List Nat} (h : ps.length = 1) : ps = [pAt ps 0] := match ps, h with | [a], _ => rfl
theorem list2 {ps : List Nat} (h : ps.length = 2) : ps = [pAt ps 0, pAt ps 1] := match ps, h with | [a, b], _ => rfl
theorem list3 {ps : List Nat} (h : ps.length = 3) : ps = [pAt ps 0, pAt ps 1, pAt ps 2] := match ps, h with | [a, b, c], _ => rfl

theorem ByteArray_to (s : ByteArray) : (⟨s.data.toList.toArray⟩ : ByteArray) = s := by cases s; simp

set_option maxRecDepth 100000 in
set_option maxHeartbeats 0 in
theorem text_succ {E : Nat → Ex} {b n r : Nat} (hn : n ≤ 3000) (H0 : TxC E b n r) (H1 : ∀ r', r = r' + 1 → TxC E b n r') : TxC E b n (r + 1) := by
  intro p len cap w hok hkx hX hl hp hc hcap
  obtain ⟨ps, N⟩ := node_of hl (by omega) hok
  have hps : ps.length ≤ 3000 := by have := N.few; omega
  have HN : Hid (Node E r p len ps) := N
  have HT0 : Hid (TxC E b n r) := H0
  have HT1 : Hid (∀ r', r = r' + 1 → TxC E b n r') := H1
  have htxt := text_of_ok (by omega) hok
  have hcut := N.cut
  have hsz := N.size
  have hl' : (0 : Int) < (len : Int) := by omega
  obtain ⟨c0, c1, c2, c3⟩ := hX p (by omega)
  obtain ⟨K, hK⟩ : ∃ K, (E p).kind = K := ⟨_, rfl⟩
  obtain ⟨t, ht⟩ : ∃ t, (E p).text = t := ⟨_, rfl⟩
  obtain ⟨m, hm⟩ : ∃ m, (E p).n = m := ⟨_, rfl⟩
  obtain ⟨z, hz⟩ : ∃ z, (E p).size = z := ⟨_, rfl⟩
  obtain ⟨G, hG⟩ : ∃ G : ByteArray, (⟨(txt (r + 1) (treeP E (r + 1) p)).toArray⟩ : ByteArray) = G := ⟨_, rfl⟩
  rw [hG]
  rw [hK] at c0 hkx
  rw [ht] at c1 htxt
  rw [hm] at c2
  rw [hz] at c3
  have HK : Hid ((E p).kind = K) := hK
  have HT : Hid ((E p).text = t) := ht
  have HM : Hid ((E p).n = m) := hm
  have HG : Hid ((⟨(txt (r + 1) (treeP E (r + 1) p)).toArray⟩ : ByteArray) = G) := hG
  have HPT : Hid (∀ w1 : World, XsB w1 b n E → Calls Tryd.prog 19 #[.slice (some ⟨b, p * 4, none⟩) len cap] w1 fun e w' => ∃ av cp, e = .returned (.slice av ps.length cp) ∧ PsB w' av (ps.map (relV p)) ∧ Below w1.heap.size w1 w') := fun w1 h1 => parts_at hcut h1 hp hn hl hsz
  have HXW : Hid (∀ o : Obj, XsB (w.alloc o) b n E) := fun o => hX.below ((Below.refl _ _).alloc (Nat.le_refl _) _)
  clear hK ht hm hz hG N H0 H1 hcut hsz hok
  go_enter Tryd.func11, Tryd.ntmps11
  go_wp2_with (go_at_call 19; refine (HPT.out _ (HXW.out _)).mono ?_; rintro e w1 ⟨av, cp, rfl, hP, hb1⟩)
  have hb0 : Below w.heap.size w w1 := ((Below.refl _ _).alloc (Nat.le_refl _) _).trans (hb1.mono (by simp))
  have hX1 := hX.below hb0
  have f0 : w1.heap[w.heap.size]? = some (.cells #[.int .i64 K, .string t, .int .i64 m, .int .i64 z] 33) := (hb1.block w.heap.size (by simp)).trans (heap_alloc_new w _)
  have hlow : w.heap.size < w1.heap.size := (Array.getElem?_eq_some_iff.1 f0).1
  obtain ⟨bp, op, hav, hPc⟩ := hP
  have hav' : ps.length = 0 ∨ av = some ⟨bp, op, none⟩ := by simpa using hav
  have HCE : Hid (∀ i, i < ps.length → w1.cell? ⟨bp, op + i, none⟩ = some (relV p (pAt ps i))) := fun i h => hPc i _ (by simp [h, pAt])
  have HPS : Hid (PsB w1 av (ps.map (relV p))) := ⟨bp, op, hav, hPc⟩
  have HF0 : Hid (w1.heap[w.heap.size]? = some (.cells #[.int .i64 K, .string t, .int .i64 m, .int .i64 z] 33)) := f0
  have HB0 : Hid (Below w.heap.size w w1) := hb0
  clear hav hPc f0 hb0 hb1 hX c0 c1 c2 c3
  go_loopw [5, 6] (fun v x wr => ∃ (i : Nat), i ≤ ps.length ∧ x = .int .i64 (i : Int) ∧ wr.ownsRow w1.heap.size 9 1 v (xsTo E ps i).length ((xsTo E ps i).map (shV E r)) ∧ Below w1.heap.size w1 wr) (fun _ x _ => ps.length - (intOf x).toNat)
  case atStart => exact ⟨0, Nat.zero_le _, rfl, own_none w1 _, (Below.refl _ _).alloc (Nat.le_refl _) _⟩
  case round =>
    obtain ⟨i, hi, rfl, hown, hbel⟩ := hrel
    have hszb := hbel.size
    have hxl := xs_len E ps i
    by_cases h : i < ps.length
    · as_aux_lemma =>
      have h' : (i : Int) < (ps.length : Int) := by omega
      obtain rfl := hav'.resolve_left (by omega)
      have hXr := hX1.below hbel
      obtain ⟨d, zq, e1, e2, e3, e4, e5⟩ := HN.out.at_ i h
      have ci : wr.cell? ⟨bp, op + i, none⟩ = some (.int .i64 (d : Int)) := by
        have cc := HCE.out i h
        rw [e1, relV, show p + d - p = d by omega] at cc
        exact (hbel.cell (p := ⟨bp, _, none⟩) (World.block_lt_of_cell? _ _ cc)).trans cc
      have hd : (d : Int) < (len : Int) := by omega
      have k0 := (hXr (p + d) (by omega)).1
      rw [Nat.add_mul] at k0
      have HPT' := part_any E b n p len cap d zq wr hXr hp hn ⟨hc, hcap⟩ e3 (by omega)
      have HXS : Hid (xsTo E ps (i + 1) = xsTo E ps i ++ if exprK (E (p + d)).kind = true then [p + d] else []) := by show _ = _; rw [xs_step h, e1]
      cases hkq : exprK (E (p + d)).kind with
      | true =>
        rw [hkq, if_pos rfl] at HXS
        have HSH : Hid (Calls Tryd.prog 20 #[.slice (some ⟨b, (p + d) * 4, none⟩) (zq + 1) (cap - d)] wr fun e w' => e = .returned (.string (PB E r (p + d))) ∧ Below wr.heap.size wr w') := l3show_any hn HT0.out (p + d) (zq + 1) (cap - d) wr e5 hkq hXr (by omega) (by omega) (by omega) (by omega)
        obtain ⟨u, hu⟩ : ∃ u, PB E r (p + d) = u := ⟨_, rfl⟩
        rw [hu] at HSH
        have HU : Hid (PB E r (p + d) = u) := hu
        have HPT2 : Hid (Calls Tryd.prog 21 #[.slice (some ⟨b, p * 4, none⟩) len cap, .int .i64 (d : Int)] wr fun e w' => e = .returned (.slice (some ⟨b, (p + d) * 4, none⟩) (zq + 1) (cap - d)) ∧ w' = wr) := HPT'
        clear hu HPT' e1 e2 e3 e4 e5 hXr
        have HOW : Hid (wr.ownsRow w1.heap.size 9 1 u5 (xsTo E ps i).length ((xsTo E ps i).map (shV E r))) := hown
        clear hown
        go_wp2_with (first
          | (go_at_call 17; refine (exprK_any _ _).mono ?_; rw [hkq]; rintro e w' ⟨rfl, rfl⟩)
          | (go_at_call 21; refine HPT2.out.mono ?_; rintro e w' ⟨rfl, rfl⟩)
          | (go_at_call 20; refine HSH.out.mono ?_; rintro e w2 ⟨rfl, hb2⟩; have hown2 := own_below HOW.out hb2)
          | (at_builtin; refine app_own _ rfl _ _ 45 rfl w1.heap.size 9 (.string ⟨#[]⟩) 16 Tryd.underlying45 info9 rfl _ _ _ rfl (hown2.alloc _) ⟨w2.heap.size, 0, none⟩ 1 1 [.string u] rfl rfl (one_new _ _ _) ?c2 ?c3 ?c4 ?c5 ?_)
          | go_in)
        case c2 => first | rfl | (intro u hu; simp at hu; subst hu; rfl)
        case c3 => unfold maxLen; omega
        case c4 => omega
        case c5 => have := hb2.size; simp; omega
        intro v' w' hown' hg
        have hb2' := hbel.trans (hb2.mono hszb)
        have hb' := below_grown (hb2'.alloc hb2'.size _) (hown2.alloc _) hg (by have := hb2'.size; simp; omega)
        have hown3 : w'.ownsRow w1.heap.size 9 1 v' (xsTo E ps (i + 1)).length ((xsTo E ps (i + 1)).map (shV E r)) := by
          rw [HXS.out, List.length_append, List.map_append]
          simpa [shV, HU.out] using hown'
        clear hown' hg hown2
        go_wp2
        go_roundw
        case rel => exact ⟨i + 1, by omega, by go_num, hown3, hb'⟩
        case measure => simp [intOf]; omega
      | false =>
        rw [hkq, if_neg (by simp)] at HXS
        have hown3 : wr.ownsRow w1.heap.size 9 1 u5 (xsTo E ps (i + 1)).length ((xsTo E ps (i + 1)).map (shV E r)) := by
          rw [HXS.out, List.append_nil]
          exact hown
        clear hown HPT' e1 e2 e3 e4 e5 hXr
        go_wp2_with (go_at_call 17; refine (exprK_any _ _).mono ?_; rw [hkq]; rintro e w' ⟨rfl, rfl⟩)
        go_roundw
        case rel => exact ⟨i + 1, by omega, by go_num, hown3, hbel⟩
        case measure => simp [intOf]; omega
    · have h' : ¬ (i : Int) < (ps.length : Int) := by omega
      obtain rfl : i = ps.length := by omega
      have hbw : Below w.heap.size w wr := HB0.out.trans (hbel.mono (by omega))
      have fr : wr.heap[w.heap.size]? = some (.cells #[.int .i64 K, .string t, .int .i64 m, .int .i64 z] 33) := (hbel.block w.heap.size hlow).trans HF0.out
      have c0 : wr.cell? ⟨w.heap.size, 0, none⟩ = some (.int .i64 K) := by simp [World.cell?, fr]
      have c1 : wr.cell? ⟨w.heap.size, 1, none⟩ = some (.string t) := by simp [World.cell?, fr]
      have c2 : wr.cell? ⟨w.heap.size, 2, none⟩ = some (.int .i64 m) := by simp [World.cell?, fr]
      have hXr := hX1.below hbel
      have HPR : Hid (PsB wr av (ps.map (relV p))) := HPS.out.below hbel
      have hpo := HN.out.parts
      rw [HK.out] at hpo
      have HPO : Hid (partsOk K ps.length) := hpo
      clear fr hpo hi h HCE HPS hX1 hxl HPT HXW
      simp only [exprK, decide_eq_true_eq] at hkx
      have hkk : K = 1 ∨ K = 2 ∨ K = 3 ∨ K = 4 ∨ K = 5 ∨ K = 8 ∨ K = 14 ∨ K = 16 ∨ K = 9 ∨ K = 10 ∨ K = 11 ∨ K = 12 ∨ K = 13 ∨ K = 17 ∨ K = 18 ∨ K = 19 ∨ K = 20 := by omega
      clear hkx
      rcases hkk with rfl | rfl | rfl | rfl | rfl | rfl | rfl | rfl | rfl | rfl | rfl | rfl | rfl | rfl | rfl | rfl | rfl
      · as_aux_lemma =>
        have hnn : 0 ≤ m ∧ m ≤ 9223372036854775807 := by
          have hh := HN.out.head
          unfold headB at hh
          rw [Bool.and_eq_true, Bool.and_eq_true] at hh
          have := hh.2.1
          simp only [nB, HK.out, HM.out, mostN, if_true, decide_eq_true_eq] at this
          omega
        obtain ⟨k0, rfl⟩ : ∃ k0 : Nat, m = (k0 : Int) := ⟨m.toNat, by omega⟩
        have HI : Hid (∀ w2 : World, Calls Tryd.prog 22 #[.int .i64 (k0 : Int)] w2 fun e w' => e = .returned (.string ⟨(numL (k0 : Int)).toArray⟩) ∧ Below w2.heap.size w2 w') := fun w2 => int_is k0 (by omega) w2
        have HE : Hid ((⟨(numL (k0 : Int)).toArray⟩ : ByteArray) = G) := by show _ = _; rw [← HG.out, tk1 HN.out HK.out, HM.out]
        rw [HE.out] at HI
        clear hnn hXr
        go_wp2_with (go_at_call 22; refine (HI.out _).mono ?_; rintro e w2 ⟨rfl, hb2⟩)
        go_ret
        exact ⟨rfl, hbw.trans (hb2.mono hbw.size)⟩
      · as_aux_lemma =>
        have HI : Hid (∀ w2 : World, Calls Tryd.prog 23 #[.string t] w2 fun e w' => e = .returned (.string (es.showA t)) ∧ Below w2.heap.size w2 w') := fun w2 => es.spec_any t (by omega) w2
        have HE : Hid (es.showA t = G) := by show _ = _; rw [← HG.out, tk2 HN.out HK.out, HT.out, ByteArray_to]
        rw [HE.out] at HI
        clear hXr
        go_wp2_with (go_at_call 23; refine (HI.out _).mono ?_; rintro e w2 ⟨rfl, hb2⟩)
        go_ret
        exact ⟨rfl, hbw.trans (hb2.mono hbw.size)⟩
      · as_aux_lemma =>
        have HE : Hid (t = G) := by show _ = _; rw [← HG.out, tk3 HN.out HK.out, HT.out, ByteArray_to]
        clear hXr
        go_wp2
        go_ret
        exact ⟨ret_str HE.out, hbw⟩
      · as_aux_lemma =>
        have hxs := xs_all (kid_plain HN.out (by have := HK.out; omega))
        rw [hxs] at hown
        have HE : Hid ((⟨([91] ++ seqTo (itemL E r ps) ps.length ++ [93]).toArray⟩ : ByteArray) = G) := by show _ = _; rw [← HG.out, tk4 HN.out HK.out]
        have HSZ : Hid (∀ i, i ≤ ps.length → (seqTo (itemL E r ps) i).length ≤ 108910000000) := item_len hn HN.out hp
        have HPL : Hid (∀ i, i < ps.length → (PB E r (pAt ps i)).size ≤ 36300002) := px_len hn HN.out hp
        obtain ⟨_, ar, cr, rfl, _, _, br, of, har, hcr⟩ := PsB.own hown
        have har' : ps.length = 0 ∨ ar = some ⟨br, of, none⟩ := by simpa using har
        have HCR : Hid (∀ i, i < ps.length → wr.cell? ⟨br, of + i, none⟩ = some (.string (PB E r (pAt ps i)))) := fun i hi => hcr i _ (by simp [shV, pAt, hi])
        have HBW : Hid (Below w.heap.size w wr) := hbw
        clear hown har hcr hXr hxs
        go_wp2
        go_loopw [7, 8] (fun s x wq => ∃ (i : Nat), i ≤ ps.length ∧ s = .string ⟨([91] ++ seqTo (itemL E r ps) i).toArray⟩ ∧ x = .int .i64 (i : Int) ∧ wq = wr) (fun _ x _ => ps.length - (intOf x).toNat)
        case atStart => exact ⟨0, Nat.zero_le _, rfl, rfl, rfl⟩
        case round =>
          obtain ⟨i, hi, rfl, rfl, rfl⟩ := hrel
          have hszi := HSZ.out i hi
          obtain ⟨s, hs⟩ : ∃ s : ByteArray, (⟨([91] ++ seqTo (itemL E r ps) i).toArray⟩ : ByteArray) = s := ⟨_, rfl⟩
          have hsz : s.size ≤ 108910000001 := by rw [← hs]; simp [ByteArray.size]; omega
          rw [hs]
          have HS : Hid ((⟨([91] ++ seqTo (itemL E r ps) i).toArray⟩ : ByteArray) = s) := hs
          clear hs hszi
          by_cases h4 : i < ps.length
          · have h4' : (i : Int) < (ps.length : Int) := by omega
            obtain rfl := har'.resolve_left (by omega)
            have ce := HCR.out i h4
            have hpl := HPL.out i h4
            obtain ⟨u, hu⟩ : ∃ u, PB E r (pAt ps i) = u := ⟨_, rfl⟩
            rw [hu] at ce hpl
            have HU : Hid (PB E r (pAt ps i) = u) := hu
            clear hu
            have g1 : ¬ 9223372036854775807 < s.size + 1 := by omega
            have g2 : ¬ 9223372036854775807 < s.size + u.size := by omega
            have g3 : ¬ 9223372036854775807 < s.size + 1 + u.size := by omega
            by_cases hi0 : 0 < i
            · have hi0' : (0 : Int) < (i : Int) := by omega
              have HB : Hid (s ++ ⟨#[32]⟩ ++ u = ⟨([91] ++ seqTo (itemL E r ps) (i + 1)).toArray⟩) := by
                show _ = _
                rw [seqTo, itemL, if_pos hi0, ← HS.out, ← HU.out]
                apply ByteArray.ext; simp [PB]
              go_wp2
              go_roundw
              case rel => exact ⟨i + 1, by omega, by rw [HB.out], by go_num, by first | rfl | trivial⟩
              case measure => simp [intOf]; omega
            · obtain rfl : i = 0 := by omega
              have ce0 : wr.cell? ⟨br, of, none⟩ = some (.string u) := by simpa using ce
              have h40 : (0 : Int) < (ps.length : Int) := by omega
              clear ce
              have HB : Hid (s ++ u = ⟨([91] ++ seqTo (itemL E r ps) (0 + 1)).toArray⟩) := by
                show _ = _
                rw [seqTo, itemL, if_neg hi0, ← HS.out, ← HU.out]
                apply ByteArray.ext; simp [PB]
              go_wp2
              go_roundw
              case rel => exact ⟨0 + 1, by omega, by rw [HB.out], by go_num, by first | rfl | trivial⟩
              case measure => simp [intOf]; omega
          · have h4' : ¬ (i : Int) < (ps.length : Int) := by omega
            obtain rfl : i = ps.length := by omega
            have g1 : ¬ 9223372036854775807 < s.size + 1 := by omega
            have HB : Hid (s ++ ⟨#[93]⟩ = G) := by
              show _ = _
              rw [← HE.out, ← HS.out]
              apply ByteArray.ext; simp
            go_wp2
            go_ret
            exact ⟨ret_str HB.out, HBW.out⟩
      · as_aux_lemma =>
        have HSZ := bindL_len hn HN.out hp ps.length (Nat.le_refl _)
        have HBI := fun (w2 : World) (h2 : XsB w2 b n E) (h3 : PsB w2 av (ps.map (relV p))) => sbinds_any hn HT1.out p len cap ps av cp w2 HN.out h2 hl hp ⟨hc, hcap⟩ h3
        obtain ⟨u, hu⟩ : ∃ u : ByteArray, (⟨(seqTo (bindL E r ps) ps.length).toArray⟩ : ByteArray) = u := ⟨_, rfl⟩
        have hus : u.size ≤ 108900000000 := by rw [← hu]; simpa [ByteArray.size] using HSZ
        rw [hu] at HBI
        have HBI2 : Hid (Calls Tryd.prog 24 #[.slice (some ⟨b, p * 4, none⟩) len cap, .slice av ps.length cp] wr fun e w' => e = .returned (.string u) ∧ Below wr.heap.size wr w') := HBI wr hXr HPR.out
        have HU : Hid ((⟨(seqTo (bindL E r ps) ps.length).toArray⟩ : ByteArray) = u) := hu
        have HC2 : Hid (∀ w2, Below wr.heap.size wr w2 → w2.cell? ⟨w.heap.size, 2, none⟩ = some (.int .i64 m)) := fun w2 h2 => (h2.cell (p := ⟨w.heap.size, _, none⟩) (World.block_lt_of_cell? _ _ c2)).trans c2
        have g1 : ¬ 9223372036854775807 < 1 + u.size := by omega
        have g2 : ¬ 9223372036854775807 < 1 + u.size + 1 := by omega
        have g3 : ¬ 9223372036854775807 < 4 + (1 + u.size + 1) := by omega
        clear hu HBI HSZ hXr c2 hown
        by_cases hm1 : m = 1
        · have HB : Hid (⟨#[114, 101, 99, 32]⟩ ++ (⟨#[123]⟩ ++ u ++ ⟨#[125]⟩) = G) := by
            show _ = _
            rw [← HG.out, tk5 HN.out HK.out, HM.out, if_pos hm1, ← HU.out]
            apply ByteArray.ext; simp
          rw [hm1] at HC2
          go_wp2_with (go_at_call 24; refine HBI2.out.mono ?_; rintro e w2 ⟨rfl, hb2⟩; have c2 := HC2.out w2 hb2)
          go_ret
          exact ⟨ret_str HB.out, hbw.trans (hb2.mono hbw.size)⟩
        · have hm1' : (m == 1) = false := by simpa using hm1
          have HB : Hid (⟨#[123]⟩ ++ u ++ ⟨#[125]⟩ = G) := by
            show _ = _
            rw [← HG.out, tk5 HN.out HK.out, HM.out, if_neg hm1, ← HU.out]
            apply ByteArray.ext; simp
          go_wp2_with (go_at_call 24; refine HBI2.out.mono ?_; rintro e w2 ⟨rfl, hb2⟩; have c2 := HC2.out w2 hb2)
          go_ret
          exact ⟨ret_str HB.out, hbw.trans (hb2.mono hbw.size)⟩
      · as_aux_lemma =>
        obtain ⟨hka, hkb⟩ := kid_let HN.out HK.out
        have hp1 : 1 ≤ ps.length := HPO.out.2.2.2.2.2.2 (by omega)
        have hxs := xs_last (E := E) hp1 (fun i hi => not_ex (by have := hka i hi; omega)) hkb
        rw [hxs] at hown
        have hpl := px_len hn HN.out hp (ps.length - 1) (by omega)
        have HSZ := bindL_len hn HN.out hp ps.length (Nat.le_refl _)
        have HBI := fun (w2 : World) (h2 : XsB w2 b n E) (h3 : PsB w2 av (ps.map (relV p))) => sbinds_any hn HT1.out p len cap ps av cp w2 HN.out h2 hl hp ⟨hc, hcap⟩ h3
        obtain ⟨u, hu⟩ : ∃ u : ByteArray, (⟨(seqTo (bindL E r ps) ps.length).toArray⟩ : ByteArray) = u := ⟨_, rfl⟩
        have hus : u.size ≤ 108900000000 := by rw [← hu]; simpa [ByteArray.size] using HSZ
        rw [hu] at HBI
        obtain ⟨s0, hs0⟩ : ∃ s0, PB E r (pAt ps (ps.length - 1)) = s0 := ⟨_, rfl⟩
        rw [hs0] at hpl
        obtain ⟨br, of, cr, rfl, ca⟩ := row1 hown (by show [shV E r _] = _; rw [shV, hs0])
        have HBI2 : Hid (∀ w2 : World, XsB w2 b n E → PsB w2 av (ps.map (relV p)) → Calls Tryd.prog 24 #[.slice (some ⟨b, p * 4, none⟩) len cap, .slice av ps.length cp] w2 fun e w' => e = .returned (.string u) ∧ Below w2.heap.size w2 w') := HBI
        have HXD : Hid (XsB wr.drew b n E) := hXr
        have HPD : Hid (PsB wr.drew av (ps.map (relV p))) := HPR.out
        have HCA : Hid (∀ w2, Below wr.drew.heap.size wr.drew w2 → w2.cell? ⟨br, of, none⟩ = some (.string s0)) := fun w2 h2 => (h2.cell (p := ⟨br, _, none⟩) (World.block_lt_of_cell? _ _ ca)).trans ca
        have HB : Hid (⟨#[108, 101, 116, 32]⟩ ++ u ++ ⟨#[105, 110, 32]⟩ ++ s0 = G) := by
          show _ = _
          rw [← HG.out, tk8 HN.out HK.out, ← hu, ← hs0, PB]
          apply ByteArray.ext; simp
        have g1 : ¬ 9223372036854775807 < 4 + u.size := by omega
        have g2 : ¬ 9223372036854775807 < 4 + u.size + 3 := by omega
        have g3 : ¬ 9223372036854775807 < 4 + u.size + 3 + s0.size := by omega
        have HBW : Hid (Below w.heap.size w wr) := hbw
        have hw1 : IntKind.i64.wrap ((1 : Int) - 1) = 0 := by decide
        have hw2 : IntKind.i64.wrap (((1 : Nat) : Int) - 1) = 0 := by decide
        have hw3 : IntKind.i64.wrap 0 = 0 := by decide
        clear hu hs0 HBI HSZ hXr hown hxs hka hkb
        go_wp2_with fail
        go_region_held3 (fun w' => w'.cell? ⟨br, of, none⟩ = some (.string s0))
          (first
            | go_keep
            | exact HCA.out _ hb2)
          (first | ((go_at_call 24; refine (HBI2.out _ HXD.out HPD.out).mono ?_; rintro e w2 ⟨rfl, hb2⟩)))
        go_wp2_with fail
        go_ret
        exact ⟨ret_str HB.out, HBW.out.drew.trans (hb2.mono HBW.out.size)⟩
      · as_aux_lemma =>
        obtain ⟨hka, hkb⟩ := kid_take HN.out HK.out
        have hp1 : 1 ≤ ps.length := HPO.out.2.2.2.2.2.2 (by omega)
        have hxs := xs_last (E := E) hp1 (fun i hi => not_ex (by have := hka i hi; omega)) hkb
        rw [hxs] at hown
        have hpl := px_len hn HN.out hp (ps.length - 1) (by omega)
        have HSZ := parL_len hn HN.out hp (ps.length - 1) (by omega)
        have hml : (moreL (E p).n ps.length).length ≤ 5 := by unfold moreL; split <;> (try split) <;> simp
        have HBI := fun (w2 : World) (h2 : XsB w2 b n E) (h3 : PsB w2 av (ps.map (relV p))) => sparams_any hn HT1.out p len cap ps av cp w2 HN.out HK.out h2 hl hp ⟨hc, hcap⟩ h3
        obtain ⟨u, hu⟩ : ∃ u : ByteArray, (⟨([123] ++ seqTo (parL E r ps) (ps.length - 1) ++ moreL (E p).n ps.length ++ [125, 58, 32]).toArray⟩ : ByteArray) = u := ⟨_, rfl⟩
        have hus : u.size ≤ 108900000100 := by rw [← hu]; simp only [ByteArray.size, List.size_toArray, List.length_append, List.length_cons, List.length_nil]; omega
        rw [hu] at HBI
        obtain ⟨s0, hs0⟩ : ∃ s0, PB E r (pAt ps (ps.length - 1)) = s0 := ⟨_, rfl⟩
        rw [hs0] at hpl
        obtain ⟨br, of, cr, rfl, ca⟩ := row1 hown (by show [shV E r _] = _; rw [shV, hs0])
        have HBI2 : Hid (∀ w2 : World, XsB w2 b n E → PsB w2 av (ps.map (relV p)) → Calls Tryd.prog 25 #[.slice (some ⟨b, p * 4, none⟩) len cap, .slice av ps.length cp] w2 fun e w' => e = .returned (.string u) ∧ Below w2.heap.size w2 w') := HBI
        have HXD : Hid (XsB wr.drew b n E) := hXr
        have HPD : Hid (PsB wr.drew av (ps.map (relV p))) := HPR.out
        have HCA : Hid (∀ w2, Below wr.drew.heap.size wr.drew w2 → w2.cell? ⟨br, of, none⟩ = some (.string s0)) := fun w2 h2 => (h2.cell (p := ⟨br, _, none⟩) (World.block_lt_of_cell? _ _ ca)).trans ca
        have HB : Hid (u ++ s0 = G) := by
          show _ = _
          rw [← HG.out, tk14 HN.out HK.out, ← hu, ← hs0, PB]
          apply ByteArray.ext; simp
        have g1 : ¬ 9223372036854775807 < u.size + s0.size := by omega
        have HBW : Hid (Below w.heap.size w wr) := hbw
        have hw1 : IntKind.i64.wrap ((1 : Int) - 1) = 0 := by decide
        have hw2 : IntKind.i64.wrap (((1 : Nat) : Int) - 1) = 0 := by decide
        have hw3 : IntKind.i64.wrap 0 = 0 := by decide
        clear hu hs0 HBI HSZ hXr hown hxs hka hkb hml
        go_wp2_with fail
        go_region_held3 (fun w' => w'.cell? ⟨br, of, none⟩ = some (.string s0))
          (first
            | go_keep
            | exact HCA.out _ hb2)
          (first | ((go_at_call 25; refine (HBI2.out _ HXD.out HPD.out).mono ?_; rintro e w2 ⟨rfl, hb2⟩)))
        go_wp2_with fail
        go_ret
        exact ⟨ret_str HB.out, HBW.out.drew.trans (hb2.mono HBW.out.size)⟩
      · as_aux_lemma =>
        rcases HPO.out.2.2.2.2.2.1 rfl with h16 | h16
        · have hxs := xs_all (kid_plain HN.out (by have := HK.out; omega))
          rw [hxs] at hown
          have hpl1 : ps.length = 1 := h16
          have hq0 := px_len hn HN.out hp 0 (by omega)
          obtain ⟨s0, hs0⟩ : ∃ s, PB E r (pAt ps 0) = s := ⟨_, rfl⟩
          rw [hs0] at hq0
          have hmap : ps.map (shV E r) = [.string s0] := by
            have e := congrArg (List.map (shV E r)) (list1 hpl1)
            rw [e]
            simp [shV, hs0]
          obtain ⟨br, of, cr, rfl, ca0⟩ := row1 hown hmap
          have HB : Hid (s0 ++ ⟨#[46]⟩ ++ t = G) := by
            show _ = _
            rw [← HG.out, tk16a HN.out HK.out hpl1, HT.out, ← hs0]
            simp only [PB]
            apply ByteArray.ext; simp
          have g1 : ¬ 9223372036854775807 < s0.size + 1 := by omega
          have g2 : ¬ 9223372036854775807 < s0.size + 1 + t.size := by omega
          have HBW : Hid (Below w.heap.size w wr) := hbw
          clear hXr hown hxs hmap hbw hs0
          go_wp2_with fail
          go_quiet (fail)
          go_wp2_with fail
          go_ret
          exact ⟨ret_str HB.out, by first | exact HBW.out.drew | exact Go.below_drewN HBW.out _⟩
        · have hxs := xs_all (kid_plain HN.out (by have := HK.out; omega))
          rw [hxs] at hown
          have hpl1 : ps.length = 2 := h16
          have hq0 := px_len hn HN.out hp 0 (by omega)
          obtain ⟨s0, hs0⟩ : ∃ s, PB E r (pAt ps 0) = s := ⟨_, rfl⟩
          rw [hs0] at hq0
          have hq1 := px_len hn HN.out hp 1 (by omega)
          obtain ⟨s1, hs1⟩ : ∃ s, PB E r (pAt ps 1) = s := ⟨_, rfl⟩
          rw [hs1] at hq1
          have hmap : ps.map (shV E r) = [.string s0, .string s1] := by
            have e := congrArg (List.map (shV E r)) (list2 hpl1)
            rw [e]
            simp [shV, hs0, hs1]
          obtain ⟨br, of, cr, rfl, ca0, ca1⟩ := row2 hown hmap
          have HB : Hid (s0 ++ ⟨#[46]⟩ ++ t ++ ⟨#[32, 111, 114, 32]⟩ ++ s1 = G) := by
            show _ = _
            rw [← HG.out, tk16b HN.out HK.out hpl1, HT.out, ← hs0, ← hs1]
            simp only [PB]
            apply ByteArray.ext; simp
          have g1 : ¬ 9223372036854775807 < s0.size + 1 := by omega
          have g2 : ¬ 9223372036854775807 < s0.size + 1 + t.size := by omega
          have g3 : ¬ 9223372036854775807 < s0.size + 1 + t.size + 4 := by omega
          have g4 : ¬ 9223372036854775807 < s0.size + 1 + t.size + 4 + s1.size := by omega
          have HBW : Hid (Below w.heap.size w wr) := hbw
          clear hXr hown hxs hmap hbw hs0 hs1
          go_wp2_with fail
          go_quiet (fail)
          go_wp2_with fail
          go_ret
          exact ⟨ret_str HB.out, by first | exact HBW.out.drew | exact Go.below_drewN HBW.out _⟩
      · as_aux_lemma =>
        have hxs := xs_all (kid_plain HN.out (by have := HK.out; omega))
        rw [hxs] at hown
        have hpl1 : ps.length = 2 := HPO.out.2.2.1 (by omega)
        have hq0 := px_len hn HN.out hp 0 (by omega)
        obtain ⟨s0, hs0⟩ : ∃ s, PB E r (pAt ps 0) = s := ⟨_, rfl⟩
        rw [hs0] at hq0
        have hq1 := px_len hn HN.out hp 1 (by omega)
        obtain ⟨s1, hs1⟩ : ∃ s, PB E r (pAt ps 1) = s := ⟨_, rfl⟩
        rw [hs1] at hq1
        have hmap : ps.map (shV E r) = [.string s0, .string s1] := by
          have e := congrArg (List.map (shV E r)) (list2 hpl1)
          rw [e]
          simp [shV, hs0, hs1]
        obtain ⟨br, of, cr, rfl, ca0, ca1⟩ := row2 hown hmap
        have HB : Hid (⟨#[119, 105, 116, 104, 32]⟩ ++ s0 ++ ⟨#[59, 32]⟩ ++ s1 = G) := by
          show _ = _
          rw [← HG.out, tk9 HN.out HK.out hpl1, ← hs0, ← hs1]
          simp only [PB]
          apply ByteArray.ext; simp
        have g1 : ¬ 9223372036854775807 < 5 + s0.size := by omega
        have g2 : ¬ 9223372036854775807 < 5 + s0.size + 2 := by omega
        have g3 : ¬ 9223372036854775807 < 5 + s0.size + 2 + s1.size := by omega
        have HBW : Hid (Below w.heap.size w wr) := hbw
        clear hXr hown hxs hmap hbw hs0 hs1
        go_wp2_with fail
        go_quiet (fail)
        go_wp2_with fail
        go_ret
        exact ⟨ret_str HB.out, by first | exact HBW.out.drew | exact Go.below_drewN HBW.out _⟩
      · as_aux_lemma =>
        have hxs := xs_all (kid_plain HN.out (by have := HK.out; omega))
        rw [hxs] at hown
        have hpl1 : ps.length = 2 := HPO.out.2.2.1 (by omega)
        have hq0 := px_len hn HN.out hp 0 (by omega)
        obtain ⟨s0, hs0⟩ : ∃ s, PB E r (pAt ps 0) = s := ⟨_, rfl⟩
        rw [hs0] at hq0
        have hq1 := px_len hn HN.out hp 1 (by omega)
        obtain ⟨s1, hs1⟩ : ∃ s, PB E r (pAt ps 1) = s := ⟨_, rfl⟩
        rw [hs1] at hq1
        have hmap : ps.map (shV E r) = [.string s0, .string s1] := by
          have e := congrArg (List.map (shV E r)) (list2 hpl1)
          rw [e]
          simp [shV, hs0, hs1]
        obtain ⟨br, of, cr, rfl, ca0, ca1⟩ := row2 hown hmap
        have HB : Hid (⟨#[97, 115, 115, 101, 114, 116, 32]⟩ ++ s0 ++ ⟨#[59, 32]⟩ ++ s1 = G) := by
          show _ = _
          rw [← HG.out, tk10 HN.out HK.out hpl1, ← hs0, ← hs1]
          simp only [PB]
          apply ByteArray.ext; simp
        have g1 : ¬ 9223372036854775807 < 7 + s0.size := by omega
        have g2 : ¬ 9223372036854775807 < 7 + s0.size + 2 := by omega
        have g3 : ¬ 9223372036854775807 < 7 + s0.size + 2 + s1.size := by omega
        have HBW : Hid (Below w.heap.size w wr) := hbw
        clear hXr hown hxs hmap hbw hs0 hs1
        go_wp2_with fail
        go_quiet (fail)
        go_wp2_with fail
        go_ret
        exact ⟨ret_str HB.out, by first | exact HBW.out.drew | exact Go.below_drewN HBW.out _⟩
      · as_aux_lemma =>
        have hxs := xs_all (kid_plain HN.out (by have := HK.out; omega))
        rw [hxs] at hown
        have hpl1 : ps.length = 2 := HPO.out.2.2.1 (by omega)
        have hq0 := px_len hn HN.out hp 0 (by omega)
        obtain ⟨s0, hs0⟩ : ∃ s, PB E r (pAt ps 0) = s := ⟨_, rfl⟩
        rw [hs0] at hq0
        have hq1 := px_len hn HN.out hp 1 (by omega)
        obtain ⟨s1, hs1⟩ : ∃ s, PB E r (pAt ps 1) = s := ⟨_, rfl⟩
        rw [hs1] at hq1
        have hmap : ps.map (shV E r) = [.string s0, .string s1] := by
          have e := congrArg (List.map (shV E r)) (list2 hpl1)
          rw [e]
          simp [shV, hs0, hs1]
        obtain ⟨br, of, cr, rfl, ca0, ca1⟩ := row2 hown hmap
        have HB : Hid (s0 ++ ⟨#[32]⟩ ++ s1 = G) := by
          show _ = _
          rw [← HG.out, tk11 HN.out HK.out hpl1, ← hs0, ← hs1]
          simp only [PB]
          apply ByteArray.ext; simp
        have g1 : ¬ 9223372036854775807 < s0.size + 1 := by omega
        have g2 : ¬ 9223372036854775807 < s0.size + 1 + s1.size := by omega
        have HBW : Hid (Below w.heap.size w wr) := hbw
        clear hXr hown hxs hmap hbw hs0 hs1
        go_wp2_with fail
        go_quiet (fail)
        go_wp2_with fail
        go_ret
        exact ⟨ret_str HB.out, by first | exact HBW.out.drew | exact Go.below_drewN HBW.out _⟩
      · as_aux_lemma =>
        have hxs := xs_all (kid_plain HN.out (by have := HK.out; omega))
        rw [hxs] at hown
        have hpl1 : ps.length = 3 := HPO.out.2.2.2.1 (by omega)
        have hq0 := px_len hn HN.out hp 0 (by omega)
        obtain ⟨s0, hs0⟩ : ∃ s, PB E r (pAt ps 0) = s := ⟨_, rfl⟩
        rw [hs0] at hq0
        have hq1 := px_len hn HN.out hp 1 (by omega)
        obtain ⟨s1, hs1⟩ : ∃ s, PB E r (pAt ps 1) = s := ⟨_, rfl⟩
        rw [hs1] at hq1
        have hq2 := px_len hn HN.out hp 2 (by omega)
        obtain ⟨s2, hs2⟩ : ∃ s, PB E r (pAt ps 2) = s := ⟨_, rfl⟩
        rw [hs2] at hq2
        have hmap : ps.map (shV E r) = [.string s0, .string s1, .string s2] := by
          have e := congrArg (List.map (shV E r)) (list3 hpl1)
          rw [e]
          simp [shV, hs0, hs1, hs2]
        obtain ⟨br, of, cr, rfl, ca0, ca1, ca2⟩ := row3 hown hmap
        have HB : Hid (⟨#[105, 102, 32]⟩ ++ s0 ++ ⟨#[32, 116, 104, 101, 110, 32]⟩ ++ s1 ++ ⟨#[32, 101, 108, 115, 101, 32]⟩ ++ s2 = G) := by
          show _ = _
          rw [← HG.out, tk12 HN.out HK.out hpl1, ← hs0, ← hs1, ← hs2]
          simp only [PB]
          apply ByteArray.ext; simp
        have g1 : ¬ 9223372036854775807 < 3 + s0.size := by omega
        have g2 : ¬ 9223372036854775807 < 3 + s0.size + 6 := by omega
        have g3 : ¬ 9223372036854775807 < 3 + s0.size + 6 + s1.size := by omega
        have g4 : ¬ 9223372036854775807 < 3 + s0.size + 6 + s1.size + 6 := by omega
        have g5 : ¬ 9223372036854775807 < 3 + s0.size + 6 + s1.size + 6 + s2.size := by omega
        have HBW : Hid (Below w.heap.size w wr) := hbw
        clear hXr hown hxs hmap hbw hs0 hs1 hs2
        go_wp2_with fail
        go_quiet (fail)
        go_wp2_with fail
        go_ret
        exact ⟨ret_str HB.out, by first | exact HBW.out.drew | exact Go.below_drewN HBW.out _⟩
      · as_aux_lemma =>
        have hxs := xs_all (kid_plain HN.out (by have := HK.out; omega))
        rw [hxs] at hown
        have hpl1 : ps.length = 1 := HPO.out.2.1 (by omega)
        have hq0 := px_len hn HN.out hp 0 (by omega)
        obtain ⟨s0, hs0⟩ : ∃ s, PB E r (pAt ps 0) = s := ⟨_, rfl⟩
        rw [hs0] at hq0
        have hmap : ps.map (shV E r) = [.string s0] := by
          have e := congrArg (List.map (shV E r)) (list1 hpl1)
          rw [e]
          simp [shV, hs0]
        obtain ⟨br, of, cr, rfl, ca0⟩ := row1 hown hmap
        have HB : Hid (t ++ ⟨#[58, 32]⟩ ++ s0 = G) := by
          show _ = _
          rw [← HG.out, tk13 HN.out HK.out hpl1, HT.out, ← hs0]
          simp only [PB]
          apply ByteArray.ext; simp
        have g1 : ¬ 9223372036854775807 < t.size + 2 := by omega
        have g2 : ¬ 9223372036854775807 < t.size + 2 + s0.size := by omega
        have HBW : Hid (Below w.heap.size w wr) := hbw
        clear hXr hown hxs hmap hbw hs0
        go_wp2_with fail
        go_quiet (fail)
        go_wp2_with fail
        go_ret
        exact ⟨ret_str HB.out, by first | exact HBW.out.drew | exact Go.below_drewN HBW.out _⟩
      · as_aux_lemma =>
        have hxs := xs_all (kid_plain HN.out (by have := HK.out; omega))
        rw [hxs] at hown
        have hpl1 : ps.length = 1 := HPO.out.2.1 (by omega)
        have hq0 := px_len hn HN.out hp 0 (by omega)
        obtain ⟨s0, hs0⟩ : ∃ s, PB E r (pAt ps 0) = s := ⟨_, rfl⟩
        rw [hs0] at hq0
        have hmap : ps.map (shV E r) = [.string s0] := by
          have e := congrArg (List.map (shV E r)) (list1 hpl1)
          rw [e]
          simp [shV, hs0]
        obtain ⟨br, of, cr, rfl, ca0⟩ := row1 hown hmap
        have HB : Hid (s0 ++ ⟨#[32, 63, 32]⟩ ++ t = G) := by
          show _ = _
          rw [← HG.out, tk17 HN.out HK.out hpl1, HT.out, ← hs0]
          simp only [PB]
          apply ByteArray.ext; simp
        have g1 : ¬ 9223372036854775807 < s0.size + 3 := by omega
        have g2 : ¬ 9223372036854775807 < s0.size + 3 + t.size := by omega
        have HBW : Hid (Below w.heap.size w wr) := hbw
        clear hXr hown hxs hmap hbw hs0
        go_wp2_with fail
        go_quiet (fail)
        go_wp2_with fail
        go_ret
        exact ⟨ret_str HB.out, by first | exact HBW.out.drew | exact Go.below_drewN HBW.out _⟩
      · as_aux_lemma =>
        have hxs := xs_all (kid_plain HN.out (by have := HK.out; omega))
        rw [hxs] at hown
        have hpl1 : ps.length = 2 := HPO.out.2.2.1 (by omega)
        have hq0 := px_len hn HN.out hp 0 (by omega)
        obtain ⟨s0, hs0⟩ : ∃ s, PB E r (pAt ps 0) = s := ⟨_, rfl⟩
        rw [hs0] at hq0
        have hq1 := px_len hn HN.out hp 1 (by omega)
        obtain ⟨s1, hs1⟩ : ∃ s, PB E r (pAt ps 1) = s := ⟨_, rfl⟩
        rw [hs1] at hq1
        have hmap : ps.map (shV E r) = [.string s0, .string s1] := by
          have e := congrArg (List.map (shV E r)) (list2 hpl1)
          rw [e]
          simp [shV, hs0, hs1]
        obtain ⟨br, of, cr, rfl, ca0, ca1⟩ := row2 hown hmap
        have HB : Hid (s0 ++ ⟨#[32]⟩ ++ t ++ ⟨#[32]⟩ ++ s1 = G) := by
          show _ = _
          rw [← HG.out, tk18 HN.out HK.out hpl1, HT.out, ← hs0, ← hs1]
          simp only [PB]
          apply ByteArray.ext; simp
        have g1 : ¬ 9223372036854775807 < s0.size + 1 := by omega
        have g2 : ¬ 9223372036854775807 < s0.size + 1 + t.size := by omega
        have g3 : ¬ 9223372036854775807 < s0.size + 1 + t.size + 1 := by omega
        have g4 : ¬ 9223372036854775807 < s0.size + 1 + t.size + 1 + s1.size := by omega
        have HBW : Hid (Below w.heap.size w wr) := hbw
        clear hXr hown hxs hmap hbw hs0 hs1
        go_wp2_with fail
        go_quiet (fail)
        go_wp2_with fail
        go_ret
        exact ⟨ret_str HB.out, by first | exact HBW.out.drew | exact Go.below_drewN HBW.out _⟩
      · as_aux_lemma =>
        have hxs := xs_all (kid_plain HN.out (by have := HK.out; omega))
        rw [hxs] at hown
        have hpl1 : ps.length = 1 := HPO.out.2.1 (by omega)
        have hq0 := px_len hn HN.out hp 0 (by omega)
        obtain ⟨s0, hs0⟩ : ∃ s, PB E r (pAt ps 0) = s := ⟨_, rfl⟩
        rw [hs0] at hq0
        have hmap : ps.map (shV E r) = [.string s0] := by
          have e := congrArg (List.map (shV E r)) (list1 hpl1)
          rw [e]
          simp [shV, hs0]
        obtain ⟨br, of, cr, rfl, ca0⟩ := row1 hown hmap
        have HB : Hid (⟨#[45]⟩ ++ s0 = G) := by
          show _ = _
          rw [← HG.out, tk19 HN.out HK.out hpl1, ← hs0]
          simp only [PB]
          apply ByteArray.ext; simp
        have g1 : ¬ 9223372036854775807 < 1 + s0.size := by omega
        have HBW : Hid (Below w.heap.size w wr) := hbw
        clear hXr hown hxs hmap hbw hs0
        go_wp2_with fail
        go_ret
        exact ⟨ret_str HB.out, HBW.out⟩
      · as_aux_lemma =>
        have hxs := xs_all (kid_plain HN.out (by have := HK.out; omega))
        rw [hxs] at hown
        have hpl1 : ps.length = 1 := HPO.out.2.1 (by omega)
        have hq0 := px_len hn HN.out hp 0 (by omega)
        obtain ⟨s0, hs0⟩ : ∃ s, PB E r (pAt ps 0) = s := ⟨_, rfl⟩
        rw [hs0] at hq0
        have hmap : ps.map (shV E r) = [.string s0] := by
          have e := congrArg (List.map (shV E r)) (list1 hpl1)
          rw [e]
          simp [shV, hs0]
        obtain ⟨br, of, cr, rfl, ca0⟩ := row1 hown hmap
        have HB : Hid (⟨#[33]⟩ ++ s0 = G) := by
          show _ = _
          rw [← HG.out, tk20 HN.out HK.out hpl1, ← hs0]
          simp only [PB]
          apply ByteArray.ext; simp
        have g1 : ¬ 9223372036854775807 < 1 + s0.size := by omega
        have HBW : Hid (Below w.heap.size w wr) := hbw
        clear hXr hown hxs hmap hbw hs0
        go_wp2_with fail
        go_ret
        exact ⟨ret_str HB.out, HBW.out⟩

theorem txc_all {E : Nat → Ex} {b n : Nat} (hn : n ≤ 3000) : ∀ r, TxC E b n r := by
  intro r
  induction r using Nat.strongRecOn with
  | ind r ih =>
    cases r with
    | zero => intro p len cap w h; cases h
    | succ r => exact text_succ hn (ih r (by omega)) (fun r' h => ih r' (by omega))

end Go.Proofs.YtlnagmdoepldmaaDoor.ex
