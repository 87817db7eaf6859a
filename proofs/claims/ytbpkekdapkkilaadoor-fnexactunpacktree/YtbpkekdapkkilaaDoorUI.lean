import Derived.Test.YtbpkekdapkkilaaDoorUH
namespace Go.Proofs.YtbpkekdapkkilaaDoor.up
open Go.ChangeShapes Go.WideShapes Go.ChangeAt Go.RowKit Go.Deep
set_option linter.unusedVariables false
set_option linter.unusedSimpArgs false

theorem kx2_of {z : tt.En} (h : 1 ≤ z.kind ∧ z.kind ≤ 3) : ((tt.kB z).toNat : Int) % 16 = z.kind ∧ (((tt.kB z).toNat : Int) / 16 == 1) = z.exec := by
  obtain ⟨k, hk⟩ : ∃ k : Nat, z.kind = (k : Int) := ⟨z.kind.toNat, by omega⟩
  unfold tt.kB
  rw [hk, show (k : Int).toNat = k from rfl]
  have h3 : k = 1 ∨ k = 2 ∨ k = 3 := by omega
  cases z.exec <;> rcases h3 with rfl | rfl | rfl <;> exact ⟨by decide +kernel, by decide +kernel⟩
theorem sr_i {w : World} {p b N i : Nat} {bad : Bool} (h : Sr w p b N i bad) (hj : i + 1 ≤ N) : Sr (w.setCell ⟨p, 1, none⟩ (.int .i64 ((i : Int) + 1))) p b N (i + 1) bad := h.setI hj
theorem size_set (w : World) (a : Addr) (x : Value) : (w.setCell a x).heap.size = w.heap.size := by simp [World.setCell]

theorem lne_of {l : List UInt8} {N : Nat} (h : N = l.length) (h4 : ¬ N < 4) : l ≠ [] := by
  rintro rfl
  simp at h
  omega

theorem same_any (g z c b N c' : Nat) (l1 l2 : List UInt8) (w : World) (h1 : By w g l1) (h2 : By w b l2) (hz : z = l1.length) (hN : N = l2.length) :
    Calls Tryd.prog 20 #[.slice (some ⟨g, 0, none⟩) z c, .slice (some ⟨b, 0, none⟩) N c'] w fun e w' => e = .returned (.bool (decide (l1 = l2))) ∧ w' = w := by
  have hc : ∀ (k cc : Nat) (m : List UInt8), By w k m → (convert 22 9 (.slice (some ⟨k, 0, none⟩) m.length cc)).run Tryd.prog w = .ok (.string ⟨m.toArray⟩) w := fun k cc m hk => by
    have hB : Lib.Bytes w k 0 ⟨m.toArray⟩ := fun i hi => by
      have hi' : i < m.length := by simpa [ByteArray.size] using hi
      rw [Nat.zero_add, hk i hi']
      rfl
    have := Lib.run_convert_whole (P := Tryd.prog) w 22 5 9 Tryd.underlying22 Tryd.underlying5 Tryd.underlying9 k 0 ⟨m.toArray⟩ hB cc
    simpa [ByteArray.size] using this
  subst hz hN
  have c1 := hc g c l1 h1
  have c2 := hc b c' l2 h2
  have he : ((⟨l1.toArray⟩ : ByteArray).toList == (⟨l2.toArray⟩ : ByteArray).toList) = decide (l1 = l2) := by
    rw [ByteArray.toList_eq, ByteArray.toList_eq, Bool.eq_iff_iff]
    simp
  clear hc
  obtain ⟨z1, hz1⟩ : ∃ z, l1.length = z := ⟨_, rfl⟩
  obtain ⟨z2, hz2⟩ : ∃ z, l2.length = z := ⟨_, rfl⟩
  obtain ⟨s1, hs1⟩ : ∃ s : ByteArray, ⟨l1.toArray⟩ = s := ⟨_, rfl⟩
  obtain ⟨s2, hs2⟩ : ∃ s : ByteArray, ⟨l2.toArray⟩ = s := ⟨_, rfl⟩
  rw [hs1] at c1 he
  rw [hs2] at c2 he
  rw [hz1] at c1 ⊢
  rw [hz2] at c2 ⊢
  obtain ⟨bb, hbb⟩ : ∃ bb, decide (l1 = l2) = bb := ⟨_, rfl⟩
  rw [hbb] at he ⊢
  clear hz1 hz2 hs1 hs2 hbb h1 h2
  go_enter Tryd.func20, Tryd.ntmps20
  go_wp2
  go_ret
  first | exact ⟨rfl, rfl⟩ | exact ⟨by rw [he], rfl⟩

set_option maxRecDepth 100000 in
set_option maxHeartbeats 2000000 in
theorem sunp_box (b N : Nat) (l : List UInt8) (hNl : N = l.length) (hN : l.length ≤ 1048576) (w : World) (hB : By w b l) (hbw : b < w.heap.size) (h4 : ¬ N < 4) (hh : l.take 4 = [76, 65, 82, 49]) :
    Calls Tryd.prog 5 #[.slice (some ⟨b, 0, none⟩) N N] w fun e w' => UnR w w' l e ∧ Below w.heap.size w w' := by
  have HNL : Hid (N = l.length) := hNl
  have HBY : Hid (∀ W, Below w.heap.size w W → By W b l) := fun W hW => hB.below hW
  have hN2 : N ≤ 1048576 := by omega
  clear hNl
  have HRN : Hid (∀ W, Below (w.heap.size + 1) (w.alloc (.cells #[] 42)) W → tt.RowE w.heap.size W (.slice (some ⟨w.heap.size, 0, none⟩) 0 0) 0 (fun _ => default)) := fun W hW =>
    ⟨w.heap.size, 0, fun _ => undef, rfl, Nat.le_refl _, Nat.le_refl _, Nat.zero_le _, ⟨#[], (hW.block w.heap.size (by omega)).trans (heap_alloc_new w _), rfl, fun i hi => by omega⟩, fun i hi => by omega⟩
  have HB0 : Hid (Below w.heap.size w (w.alloc (.cells #[] 42))) := (Below.refl _ _).alloc (Nat.le_refl _) _
  have h4' : ¬ (N : Int) < 4 := by omega
  obtain ⟨X4, hX4⟩ : ∃ X : ByteArray, X = ⟨(l.take 4).toArray⟩ := ⟨_, rfl⟩
  have hX4s : X4.size = 4 := by
    rw [hX4]
    show ((l.take 4).toArray).size = 4
    rw [List.size_toArray, List.length_take]
    have := HNL.out
    omega
  have hcv4 : (convert 22 9 (.slice (some ⟨b, 0, none⟩) 4 N)).run Tryd.prog (w.alloc (.cells #[] 42)) = .ok (.string X4) (w.alloc (.cells #[] 42)) := by
    have hby : Lib.Bytes (w.alloc (.cells #[] 42)) b 0 X4 := fun j hj => by
      have hj4 : j < 4 := by omega
      have hjl : j < l.length := by have := HNL.out; omega
      have e1 := HBY.out _ HB0.out j (by have := HNL.out; omega)
      rw [Nat.zero_add, e1]
      congr 2
      have : X4[j] = l[j] := by
        subst hX4
        show ((l.take 4).toArray)[j] = _
        simp
      rw [this]
    have := Lib.run_convert_whole (P := Tryd.prog) (w.alloc (.cells #[] 42)) 22 5 9 Tryd.underlying22 Tryd.underlying5 Tryd.underlying9 b 0 X4 hby N
    rwa [hX4s] at this
  have hX4l : X4.toList = l.take 4 := by rw [hX4]; simp [ByteArray.toList_eq]
  have hee : (X4.toList == [76, 65, 82, 49]) = true := by rw [hX4l, hh]; rfl
  clear hX4 hX4l hX4s
  go_enter Tryd.func5, Tryd.ntmps5
  go_upto_region 4 with fail
  obtain ⟨w1, hw1⟩ : ∃ W, W = w.alloc (.cells #[] 42) := ⟨_, rfl⟩
  have hs1 : w1.heap.size = w.heap.size + 1 := by rw [hw1, World.size_alloc]
  rw [← hw1, ← hs1] at HRN
  rw [← hw1] at HB0 ⊢
  have hbp : b ≠ w1.heap.size := by omega
  clear hw1 hcv4 hee
  have HUP : Hid (∀ W, Below w1.heap.size w1 W → Below w.heap.size w W) := fun W hW => HB0.out.trans (hW.mono (by omega))
  have hs1l : w.heap.size < w1.heap.size := by omega
  clear hs1
  have HBY1 : Hid (∀ W, Below w1.heap.size w1 W → By W b l) := fun W hW => HBY.out W (HUP.out W hW)
  have HSR0 : Hid (∀ T, Sr (w1.alloc (.cells #[.slice (some ⟨b, 0, none⟩) N N, .int .i64 4, .bool false] T)) w1.heap.size b l.length 4 false) := fun T => by have := sr_new w1 b N T (by omega); rw [HNL.out] at this ⊢; exact this
  have HBA : Hid (∀ ob, Below w1.heap.size w1 (w1.alloc ob)) := fun ob => (Below.refl _ _).alloc (Nat.le_refl _) _
  have HNU : Hid (∀ W i bad, Below w1.heap.size w1 W → Sr W w1.heap.size b l.length i bad → Calls Tryd.prog 17 #[.pointer (some ⟨w1.heap.size, 0, none⟩)] W fun e w' => SnR W w' w1.heap.size b l i bad e) := fun W i bad hW hS => read_any b _ i bad l hbp hN W hS (HBY1.out W hW)
  have HTX : Hid (∀ W i bad, Below w1.heap.size w1 W → Sr W w1.heap.size b l.length i bad → Calls Tryd.prog 18 #[.pointer (some ⟨w1.heap.size, 0, none⟩)] W fun e w' => StR W w' w1.heap.size b l i bad e) := fun W i bad hW hS => rtext_any b _ i bad l hbp hN W hS (HBY1.out W hW)
  have HBG : Hid (∀ W W', Below w1.heap.size w1 W → W.grownBy W' (some w1.heap.size) → Below w1.heap.size w1 W') := fun W W' h1 h2 => h1.grown h2 h1.size (fun k hk => by cases hk; exact Nat.le_refl _)
  have HLN : Hid (l ≠ []) := lne_of HNL.out h4
  go_wp2_with (go_at_call 17; refine (HNU.out _ _ _ (HBA.out _) (HSR0.out _)).mono ?_; rintro e w2 ⟨m, i2, bad2, rfl, hm2, hi2, hs2, hb2, hg2, hp2⟩; refine Hid.out ?_)
  refine Lib.hid ?_
  have HB2 : Hid (Below w1.heap.size w1 w2) := HBG.out _ _ (HBA.out _) hg2
  have hs12 : w1.heap.size < w2.heap.size := by have := hg2.size; simp only [World.size_alloc] at this; omega
  have HP2 : Hid (∀ E n, Good l E n → n ≤ 500 ∧ m = n ∧ l.drop i2 = tt.pkL E n ∧ bad2 = false) := fun E n hg => by
    have hn5 := (tt.treeB_tr' hg.1).1
    obtain ⟨e1, e2, e3⟩ := hp2 n (tt.pkL E n) (good_4 hg).2.2 (by omega)
    exact ⟨hn5, e1, e2, e3⟩
  clear hp2 hb2 hg2
  by_cases hm5 : 500 < m
  · have hm5' : (500 : Int) < (m : Int) := by omega
    have HNG : Hid (∀ E n, ¬ Good l E n) := fun E n hg => by obtain ⟨e1, e2, _⟩ := HP2.out E n hg; omega
    clear hs2
    go_wp2
    go_ret2
    exact ⟨unR_none (HRN.out _ HB2.out) HNG.out, HUP.out _ HB2.out⟩
  have hm5' : ¬ (500 : Int) < (m : Int) := by omega
  go_upto_region 8 with fail
  obtain ⟨bs, hbs⟩ : ∃ bs, bs = w2.heap.size := ⟨_, rfl⟩
  have HO0 : Hid ((w2.alloc (.cells #[] 42)).ownsRow bs 42 4 (.slice (some ⟨w2.heap.size, 0, none⟩) 0 0) 0 []) := by rw [hbs]; exact tt.made_own w2 0 (by omega) #[] rfl
  have HI0 : Hid (SpI (w2.alloc (.cells #[] 42)) bs w1.heap.size b l (.slice (some ⟨w2.heap.size, 0, none⟩) 0 0) m 0 i2 bad2 (fun _ => default)) := by
    refine ⟨HO0.out, (by intro e; cases e), fun i hi => by omega, by omega, by omega, hs2.below ((Below.refl _ _).alloc (Nat.le_refl _) _), fun E n hg => ?_⟩
    obtain ⟨e1, e2, e3, e4⟩ := HP2.out E n hg
    exact ⟨e2, by omega, fun k hk => by omega, by rw [e3]; rfl, e4⟩
  have HBI0 : Hid (Below w1.heap.size w1 (w2.alloc (.cells #[] 42))) := HB2.out.alloc HB2.out.size _
  have HS0 : Hid (bs ≤ (w2.alloc (.cells #[] 42)).heap.size) := by show _ ≤ _; rw [World.size_alloc]; omega
  have hpb : w1.heap.size < bs := by omega
  clear hs2 hbs
  go_wp2
  go_loopw [6, 7, 8, 9] (fun x v _ _ wr => ∃ (r c i' : Nat) (bad : Bool) (X : Nat → tt.En), x = .int .i64 (r : Int) ∧ c + r = m ∧ SpI wr bs w1.heap.size b l v m c i' bad X ∧ Below w1.heap.size w1 wr ∧ bs ≤ wr.heap.size) (fun x _ _ _ _ => (intOf x).toNat)
  case atStart => exact ⟨m, 0, i2, bad2, _, rfl, by omega, HI0.out, HBI0.out, HS0.out⟩
  case round =>
    obtain ⟨r, c, i', bad, X, rfl, hrc, hI, hbel, hbsw⟩ := hrel
    have HII : Hid (SpI wr bs w1.heap.size b l u7 m c i' bad X) := hI
    have HBE : Hid (Below w1.heap.size w1 wr) := hbel
    obtain ⟨c0, c1, c2, fz, hle⟩ := hI.sr
    have f1 := fz 1
    clear hI hbel c0 fz
    cases bad with
    | true =>
      have HNG : Hid (∀ E n, ¬ Good l E n) := fun E n hg => by have := (HII.out.pr E n hg).2.2.2.2; cases this
      by_cases hr0 : 0 < r
      · have hr' : (0 : Int) < (r : Int) := by omega
        go_wp2
        go_ret2
        exact ⟨unR_none (HRN.out _ HBE.out) HNG.out, HUP.out _ HBE.out⟩
      · obtain rfl : r = 0 := by omega
        go_wp2
        go_ret2
        exact ⟨unR_none (HRN.out _ HBE.out) HNG.out, HUP.out _ HBE.out⟩
    | false =>
      by_cases hr0 : 0 < r
      · have hr' : (0 : Int) < (r : Int) := by omega
        by_cases hil : i' < l.length
        · have hiN : ¬ (N : Int) ≤ (i' : Int) := by have := HNL.out; omega
          obtain ⟨y, hy⟩ : ∃ y, y = l[i'] := ⟨_, rfl⟩
          have hcell : wr.cell? ⟨b, i', none⟩ = some (.int .u8 (y.toNat : Int)) := by rw [hy]; exact HBY1.out _ HBE.out i' hil
          have hyb : (y.toNat : Int) < 256 := by have := y.toNat_lt; omega
          have HDR : Hid (l.drop i' = y :: l.drop (i' + 1)) := by show _ = _; rw [hy]; exact List.drop_eq_getElem_cons hil
          have hiN2 : (i' : Int) < (N : Int) := by omega
          have hiN3 : (i' : Int) + 1 < 4194304 := by omega
          obtain ⟨at7, cp7, hv7⟩ := own_shape HII.out.own
          subst hv7
          clear hy
          have HSR : Hid (Sr wr w1.heap.size b l.length i' false) := HII.out.sr
          have HOW : Hid (wr.ownsRow bs 42 4 (.slice at7 c cp7) c (tt.enC X c)) := HII.out.own
          have HNN : Hid (Value.slice at7 c cp7 ≠ .slice none 0 0) := HII.out.nn
          have HSZ : Hid (∀ a x, (wr.setCell a x).heap.size = wr.heap.size) := fun a x => size_set _ _ _
          go_upto_region 16 with fail
          obtain ⟨vk, hvk⟩ : ∃ v, (y.toNat : Int) % 16 = v := ⟨_, rfl⟩
          obtain ⟨vx, hvx⟩ : ∃ v, ((y.toNat : Int) / 16 == 1) = v := ⟨_, rfl⟩
          rw [hvk, hvx]
          obtain ⟨W0, hW0⟩ : ∃ W, W = (wr.setCell ⟨w1.heap.size, 1, none⟩ (.int .i64 ((i' : Int) + 1))).alloc (.cells #[.string ⟨#[]⟩, .int .i64 vk, .string ⟨#[]⟩, .bool vx] 42) := ⟨_, rfl⟩
          rw [← hW0]
          obtain ⟨eb, heb⟩ : ∃ eb, eb = wr.heap.size := ⟨_, rfl⟩
          rw [← heb]
          have hpe : w1.heap.size ≠ eb := by omega
          have hwe : w1.heap.size ≤ eb := by omega
          have HG0 : Hid (wr.grownBy W0 (some w1.heap.size)) := by
            rw [hW0]
            exact grown_bel (grown_set (grown_refl _ _) _ _) ((Below.refl _ _).alloc (Nat.le_refl _) _)
          have HE0 : Hid (W0.heap[eb]? = some (.cells #[.string ⟨#[]⟩, .int .i64 vk, .string ⟨#[]⟩, .bool vx] 42 (0, 0))) := by
            show _ = _
            rw [hW0, heb, ← size_set wr ⟨w1.heap.size, 1, none⟩ (.int .i64 ((i' : Int) + 1))]
            exact heap_alloc_new _ _
          have HS0' : Hid (Sr W0 w1.heap.size b l.length (i' + 1) false) := by rw [hW0]; exact (sr_i HSR.out (by omega)).below ((Below.refl _ _).alloc (Nat.le_refl _) _)
          have HBW0 : Hid (Below w1.heap.size w1 W0) := HBG.out _ _ HBE.out HG0.out
          have heW : eb < W0.heap.size := by rw [hW0, World.size_alloc, size_set]; omega
          have hbe : bs ≤ eb := by omega
          have hew : wr.heap.size ≤ eb := by omega
          clear hW0 heb c1 c2 f1 hcell
          go_wp2_with (go_at_call 18; refine (HTX.out _ _ _ HBW0.out HS0'.out).mono ?_; rintro e w3 ⟨S1, i3, bad3, rfl, hz1, hi3, hs3, hbb3, hg3, hp3⟩; have hk3 := hg3.block eb heW (fun e => hpe (Option.some.inj e).symm); obtain ⟨q0, q1, q2, q3, qf⟩ := c4 (hk3.trans HE0.out); have qf0 := qf 0; refine Hid.out ?_)
          refine Lib.hid ?_
          have HE3 : Hid (w3.heap[eb]? = some (.cells #[.string ⟨#[]⟩, .int .i64 vk, .string ⟨#[]⟩, .bool vx] 42 (0, 0))) := hk3.trans HE0.out
          have HP3 : Hid (∀ T tail, l.drop (i' + 1) = bf.num T.length ++ T ++ tail → T.length ≤ 1048576 → S1.data.toList = T ∧ l.drop i3 = tail ∧ bad3 = false) := fun T tail h1 h2 => hp3 T tail h1 h2 (by first | rfl | trivial)
          have HE3s : Hid ((w3.setCell ⟨eb, 0, none⟩ (.string S1)).heap[eb]? = some (.cells #[.string S1, .int .i64 vk, .string ⟨#[]⟩, .bool vx] 42 (0, 0))) := set4 HE3.out 0 _
          have HB3 : Hid (Below w1.heap.size w1 w3) := HBG.out _ _ HBW0.out hg3
          have HB3s : Hid (Below w1.heap.size w1 (w3.setCell ⟨eb, 0, none⟩ (.string S1))) := HB3.out.setCell hwe _
          have HS3s : Hid (Sr (w3.setCell ⟨eb, 0, none⟩ (.string S1)) w1.heap.size b l.length i3 bad3) := hs3.kept (setO hpe _ _)
          have HG3 : Hid (wr.grownBy w3 (some w1.heap.size)) := HG0.out.trans hg3
          have heW3 : eb < (w3.setCell ⟨eb, 0, none⟩ (.string S1)).heap.size := by rw [size_set]; have := hg3.size; omega
          clear hp3 hs3 hk3 qf
          go_wp2_with (go_at_call 18; refine (HTX.out _ _ _ HB3s.out HS3s.out).mono ?_; rintro e w4 ⟨S2, i4, bad4, rfl, hz2, hi4, hs4, hbb4, hg4, hp4⟩; have hk4 := hg4.block eb heW3 (fun e => hpe (Option.some.inj e).symm); obtain ⟨r0, r1, r2, r3, rf⟩ := c4 (hk4.trans HE3s.out); have rf2 := rf 2; refine Hid.out ?_)
          refine Lib.hid ?_
          have HE4s : Hid ((w4.setCell ⟨eb, 2, none⟩ (.string S2)).heap[eb]? = some (.cells #[.string S1, .int .i64 vk, .string S2, .bool vx] 42 (0, 0))) := set4 (hk4.trans HE3s.out) 2 _
          have HB4 : Hid (Below w1.heap.size w1 w4) := HBG.out _ _ HB3s.out hg4
          have HB4s : Hid (Below w1.heap.size w1 (w4.setCell ⟨eb, 2, none⟩ (.string S2))) := HB4.out.setCell hwe _
          have HS4s : Hid (Sr (w4.setCell ⟨eb, 2, none⟩ (.string S2)) w1.heap.size b l.length i4 bad4) := hs4.kept (setO hpe _ _)
          have HP4 : Hid (∀ T tail, l.drop i3 = bf.num T.length ++ T ++ tail → T.length ≤ 1048576 → bad3 = false → S2.data.toList = T ∧ l.drop i4 = tail ∧ bad4 = false) := hp4
          have HOB : Hid (∀ k, (Value.slice at7 c cp7).ownBlock = some k → k ≠ eb) := fun k hk => by have := (HOW.out.lt k hk).2; omega
          have HO3 : Hid (w3.ownsRow bs 42 4 (.slice at7 c cp7) c (tt.enC X c)) := own_grown HOW.out HG3.out hpb
          have HO3s : Hid ((w3.setCell ⟨eb, 0, none⟩ (.string S1)).ownsRow bs 42 4 (.slice at7 c cp7) c (tt.enC X c)) := HO3.out.kept (grown_set (grown_refl w3 (some eb)) _ _) (.inr fun e => HOB.out eb e rfl)
          have HO4 : Hid (w4.ownsRow bs 42 4 (.slice at7 c cp7) c (tt.enC X c)) := own_grown HO3s.out hg4 hpb
          have HO4s : Hid ((w4.setCell ⟨eb, 2, none⟩ (.string S2)).ownsRow bs 42 4 (.slice at7 c cp7) c (tt.enC X c)) := HO4.out.kept (grown_set (grown_refl w4 (some eb)) _ _) (.inr fun e => HOB.out eb e rfl)
          have HZ4 : Hid ((w4.setCell ⟨eb, 2, none⟩ (.string S2)).heap.size = w4.heap.size) := size_set _ _ _
          have hbs4 : bs ≤ w4.heap.size := by have h1 := hg4.size; rw [size_set] at h1; have h2 := HG3.out.size; omega
          have hbb34 : bad3 = true → bad4 = true := hbb4
          have HX1 : Hid (S1.size ≤ l.length) := hz1
          have HX2 : Hid (S2.size ≤ l.length) := hz2
          clear hp4 hs4 hk4 rf hg4 hg3 q0 q1 q2 q3 qf0 hbb4 hbb34 hbb3 hz1 hz2
          go_upto_region 18 with fail
          obtain ⟨W5, hW5⟩ : ∃ W, W = w4.setCell ⟨eb, 2, none⟩ (.string S2) := ⟨_, rfl⟩
          rw [← hW5] at HE4s HB4s HS4s HO4s HZ4 ⊢
          have hs5 : bs ≤ W5.heap.size := by rw [HZ4.out]; exact hbs4
          clear hW5 r0 r1 r2 r3 rf2 HZ4
          obtain ⟨t0, t1, t2, t3, tf⟩ := c4 HE4s.out
          have HO5 : Hid (∀ ob, (W5.alloc ob).ownsRow bs 42 4 (.slice at7 c cp7) c (tt.enC X c)) := fun ob => own_below HO4s.out ((Below.refl _ _).alloc (Nat.le_refl _) _)
          have HSB : Hid (∀ ob, bs ≤ (W5.alloc ob).heap.size) := fun ob => by rw [World.size_alloc]; omega
          have HS5 : Hid (∀ ob, Sr (W5.alloc ob) w1.heap.size b l.length i4 bad4) := fun ob => HS4s.out.below ((Below.refl _ _).alloc (Nat.le_refl _) _)
          have HBA5 : Hid (∀ ob, Below w1.heap.size w1 (W5.alloc ob)) := fun ob => HB4s.out.alloc HB4s.out.size _
          have hc5 : c ≤ 500 := by have := HII.out.m5; have := HII.out.cm; omega
          have HC2 : Hid (c ≤ 2000000) := by show _ ≤ _; omega
          have HNX : Hid (tt.enC (setX X c ⟨S1, vk, S2, vx⟩) (c + 1) = tt.enC X c ++ [.string S1, .int .i64 vk, .string S2, .bool vx]) := by
            show _ = _
            rw [tt.enC_succ, setX_at, tt.enC_congr (fun i hi => setX_lt hi)]
          clear tf
          go_wp2_with (first
            | (at_builtin; refine tt.app_ent _ rfl _ _ rfl bs _ _ _ rfl (HO5.out _) HNN.out ⟨W5.heap.size, 0, none⟩ 1 (.string S1) (.int .i64 vk) (.string S2) (.bool vx) rfl (tt.four_at _ _ rfl _ _ _ _ _) (tt.four_one S1 vk S2 vx) HC2.out (HSB.out _) ?_; intro v6 w6 hown6 hv6 hg6; refine Hid.out ?_)
            | go_in)
          refine Lib.hid ?_
          have hob : ∀ k, (Value.slice at7 c cp7).ownBlock = some k → bs ≤ k := fun k hk => ((HO5.out (.cells #[.string S1, .int .i64 vk, .string S2, .bool vx] 42)).lt k hk).1
          have HB6 : Hid (Below w1.heap.size w1 w6) := (HBA5.out _).grown hg6 (HBA5.out _).size (fun k hk => by have := hob k hk; omega)
          have HS6 : Hid (bs ≤ w6.heap.size) := Nat.le_trans (HSB.out _) hg6.size
          have HNI : Hid (SpI w6 bs w1.heap.size b l v6 m (c + 1) i4 bad4 (setX X c ⟨S1, vk, S2, vx⟩)) := by
            refine ⟨by rw [HNX.out]; exact hown6, hv6, fun k hk => ?_, HII.out.m5, by omega, (HS5.out _).kept (hg6.block _ (World.block_lt_of_cell? _ _ (HS5.out _).c0) (fun e => by have := hob _ e.symm; omega)), fun E n hg => ?_⟩
            · by_cases hkc : k < c
              · rw [setX_lt hkc]; exact HII.out.sm k hkc
              · obtain rfl : k = c := by omega
                rw [setX_at]
                exact ⟨by have := HX1.out; show S1.size ≤ _; omega, by have := HX2.out; show S2.size ≤ _; omega⟩
            · obtain ⟨e1, e2, e3, e4, _⟩ := HII.out.pr E n hg
              obtain ⟨q, hq⟩ := pkL_pre E (c + 1) n (by omega)
              have hdr : l.drop i' = tt.pkE (E c) ++ q := by
                rw [e4, tt.pkL, List.append_assoc] at hq
                exact List.append_cancel_left hq
              have hsm := hg.2.1 c (by omega)
              have hk := tt.kind_of (tt.treeB_tr' hg.1).2 (show c < n by omega)
              rw [HDR.out] at hdr
              have hz1 : y :: l.drop (i' + 1) = tt.kB (E c) :: (bf.num (E c).path.size ++ ((E c).path.data.toList ++ (bf.num (E c).data.size ++ ((E c).data.data.toList ++ q)))) := by
                rw [hdr]
                unfold tt.pkE
                simp only [List.append_assoc, List.cons_append, List.nil_append]
              have hyz : y = tt.kB (E c) := (List.cons.inj hz1).1
              have hz := (List.cons.inj hz1).2
              have hpl' : (E c).path.data.toList.length = (E c).path.size := by simp
              have hdl' : (E c).data.data.toList.length = (E c).data.size := by simp
              obtain ⟨g1, hz2, hb3⟩ := HP3.out (E c).path.data.toList (bf.num (E c).data.size ++ ((E c).data.data.toList ++ q)) (by rw [hz, hpl']; simp only [List.append_assoc]) (by have := hsm.1; omega)
              obtain ⟨g2, hz3, hb4⟩ := HP4.out (E c).data.data.toList q (by rw [hz2, hdl']; simp only [List.append_assoc]) (by have := hsm.2; omega) hb3
              have hkx := kx2_of hk
              rw [← hyz, hvk, hvx] at hkx
              have f1 : S1 = (E c).path := ByteArray.ext (Array.toList_inj.1 g1)
              have f2 : S2 = (E c).data := ByteArray.ext (Array.toList_inj.1 g2)
              refine ⟨e1, by omega, fun k hk' => ?_, by rw [hq, hz3], hb4⟩
              by_cases hkc : k < c
              · rw [setX_lt hkc]; exact e3 k hkc
              · obtain rfl : k = c := by omega
                rw [setX_at, f1, f2, hkx.1, hkx.2]
          clear hown6 hv6 hg6 hob t0 t1 t2 t3
          have hr1 : (r : Int) - 1 = ((r - 1 : Nat) : Int) := by omega
          go_wp2
          go_roundw
          case rel => exact ⟨r - 1, c + 1, i4, bad4, _, by first | rw [hr1] | go_num, by omega, HNI.out, HB6.out, HS6.out⟩
          case measure => simp [intOf]; omega
        · have hiN : (N : Int) ≤ (i' : Int) := by have := HNL.out; omega
          have HNG : Hid (∀ E n, ¬ Good l E n) := fun E n hg => by
            obtain ⟨e1, e2, e3, e4, _⟩ := HII.out.pr E n hg
            rw [List.drop_eq_nil_of_le (by omega), List.append_nil] at e4
            obtain ⟨q, hq⟩ := pkL_pre E (c + 1) n (by omega)
            rw [tt.pkL, e4, List.append_assoc] at hq
            have h2 : ([] : List UInt8) = tt.pkE (E c) ++ q := List.append_cancel_left ((List.append_nil (tt.pkL E c)).trans hq)
            exact pkE_ne (E c) (List.append_eq_nil_iff.1 h2.symm).1
          go_wp2
          go_ret2
          exact ⟨unR_none (HRN.out _ HBE.out) HNG.out, HUP.out _ HBE.out⟩
      · obtain rfl : r = 0 := by omega
        have HOUT : Hid (Out wr bs l u7 c X) := ⟨HII.out.own, HII.out.nn, HII.out.sm, by have := HII.out.m5; omega, fun h => absurd h HLN.out, fun E n hg => by obtain ⟨e1, e2, e3, _⟩ := HII.out.pr E n hg; exact ⟨by omega, fun k hk => e3 k (by omega)⟩⟩
        obtain ⟨gt, ct, ft, hveq, hgb, hnc, hcm2, hrowt, hEt⟩ := tt.own_rowE HOUT.out.own HOUT.out.nn
        subst hveq
        have hc5 : c ≤ 500 := HOUT.out.c5
        have HROW : Hid (tt.RowE w.heap.size wr (.slice (some ⟨gt, 0, none⟩) c ct) c X) := ⟨gt, ct, ft, rfl, by omega, hnc, hcm2, hrowt, hEt⟩
        have HST : Hid (Calls Tryd.prog 19 #[.slice (some ⟨gt, 0, none⟩) c ct] wr fun e w' => e = .returned (.bool (tt.treeB X c)) ∧ Below wr.heap.size wr w') := tt.stree_any X gt 0 c ct wr hEt HOUT.out.sm (by omega) hnc hcm2
        have HPK : Hid (∀ W, Below wr.heap.size wr W → Calls Tryd.prog 21 #[.slice (some ⟨gt, 0, none⟩) c ct] W fun e w' => (∃ g c' z, e = .returned (.slice (some ⟨g, 0, none⟩) z c') ∧ tt.Pkd W w' (tt.pkB X c) g c' z) ∧ Below W.heap.size W w') := fun W hW => tt.spack_any X gt 0 c ct W (hEt.below hW) HOUT.out.sm (by omega) hnc hcm2
        clear hgb hnc hcm2 hrowt hEt
        cases ht : tt.treeB X c with
        | false =>
          rw [ht] at HST
          have HNG : Hid (∀ E n, ¬ Good l E n) := fun E n hg => by
            obtain ⟨e1, e2⟩ := HOUT.out.pr E n hg
            subst e1
            rw [treeB_congr e2, hg.1] at ht
            cases ht
          clear ht
          go_wp2_with (go_at_call 19; refine HST.out.mono ?_; rintro e w5 ⟨rfl, hl5⟩)
          have HB5 : Hid (Below w1.heap.size w1 w5) := HBE.out.trans (hl5.mono HBE.out.size)
          go_ret2
          exact ⟨unR_none (HRN.out _ HB5.out) HNG.out, HUP.out _ HB5.out⟩
        | true =>
          rw [ht] at HST
          clear ht
          go_wp2_with (first
            | (go_at_call 19; refine HST.out.mono ?_; rintro e w5 ⟨rfl, hl5⟩)
            | (go_at_call 21; refine (HPK.out _ hl5).mono ?_; rintro e w6 ⟨⟨g6, c6, z6, rfl, hz6, hbf6⟩, hl6⟩; have HZ6 : Hid (z6 = (tt.pkB X c).length) := hz6; clear hz6; refine Hid.out ?_))
          refine Lib.hid ?_
          have HB5 : Hid (Below w1.heap.size w1 w5) := HBE.out.trans (hl5.mono HBE.out.size)
          have HB6 : Hid (Below w1.heap.size w1 w6) := HB5.out.trans (hl6.mono HB5.out.size)
          have HROW6 : Hid (tt.RowE w.heap.size w6 (.slice (some ⟨gt, 0, none⟩) c ct) c X) := rowE_below (rowE_below HROW.out hl5) hl6
          have HEQ : Hid (Calls Tryd.prog 20 #[.slice (some ⟨g6, 0, none⟩) z6 c6, .slice (some ⟨b, 0, none⟩) N N] w6 fun e w' => e = .returned (.bool (decide (tt.pkB X c = l))) ∧ w' = w6) := same_any g6 z6 c6 b N N _ _ w6 (bf_by hbf6) (HBY1.out w6 HB6.out) HZ6.out HNL.out
          clear hbf6
          by_cases hpk : tt.pkB X c = l
          · rw [decide_eq_true hpk] at HEQ
            have HR : Hid (UnR w w6 l (.returned (.tuple #[.slice (some ⟨gt, 0, none⟩) c ct, .bool true]))) := unR_yes HROW6.out HOUT.out hpk
            clear hpk
            go_wp2_with (go_at_call 20; refine HEQ.out.mono ?_; rintro e w7 ⟨rfl, hw7⟩; obtain rfl := hw7.symm)
            go_ret2
            exact ⟨HR.out, HUP.out _ HB6.out⟩
          · rw [decide_eq_false hpk] at HEQ
            have HNG : Hid (∀ E n, ¬ Good l E n) := HOUT.out.bad hpk
            clear hpk
            go_wp2_with (go_at_call 20; refine HEQ.out.mono ?_; rintro e w7 ⟨rfl, hw7⟩; obtain rfl := hw7.symm)
            go_ret2
            exact ⟨unR_none (HRN.out _ HB6.out) HNG.out, HUP.out _ HB6.out⟩

theorem sunp_any (b N : Nat) (l : List UInt8) (hNl : N = l.length) (hN : l.length ≤ 1048576) (w : World) (hB : By w b l) (hbw : b < w.heap.size) :
    Calls Tryd.prog 5 #[.slice (some ⟨b, 0, none⟩) N N] w fun e w' => UnR w w' l e ∧ Below w.heap.size w w' := by
  by_cases h4 : N < 4
  · exact sunp_short b N l hNl hN w hB hbw h4
  by_cases hh : l.take 4 = [76, 65, 82, 49]
  · exact sunp_box b N l hNl hN w hB hbw h4 hh
  · exact sunp_head b N l hNl hN w hB hbw h4 hh

end Go.Proofs.YtbpkekdapkkilaaDoor.up
