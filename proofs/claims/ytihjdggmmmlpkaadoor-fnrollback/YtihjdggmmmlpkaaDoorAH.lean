import Derived.Test.YtihjdggmmmlpkaaDoorAG
import Derived.Test.YtihjdggmmmlpkaaDoorPS
namespace Go.Proofs.YtihjdggmmmlpkaaDoor.pf
open Go.ChangeShapes Go.WideShapes Go.ChangeAt Go.RowKit Go.Deep Go.Shelf Go.Sort
set_option linter.unusedVariables false
set_option linter.unusedSimpArgs false

/-! ### Roots on both sides -/

def pthG (l : List Gn) : List (List UInt8) := l.map fun g => g.p.data.toList
def pthP : List Pr → List (List UInt8)
  | [] => []
  | x :: ps => pthG x.gens ++ pthP ps
theorem pthP_app : ∀ l m : List Pr, pthP (l ++ m) = pthP l ++ pthP m
  | [], m => rfl
  | x :: l, m => by simp only [List.cons_append, pthP, pthP_app l m, List.append_assoc]
theorem pthP_take {ps : List Pr} {i : Nat} {x : Pr} (h : ps[i]? = some x) : pthP (ps.take (i + 1)) = pthP (ps.take i) ++ pthG x.gens := by
  rw [List.take_add_one, h, pthP_app]
  simp [pthP]
theorem pthG_take {l : List Gn} {k : Nat} {g : Gn} (h : l[k]? = some g) : pthG (l.take (k + 1)) = pthG (l.take k) ++ [g.p.data.toList] := by
  unfold pthG
  rw [List.take_add_one, h]
  simp
theorem pthP_mem : ∀ {ps : List Pr} {q : List UInt8}, q ∈ pthP ps → ∃ x ∈ ps, ∃ g ∈ x.gens, q = g.p.data.toList
  | [], q, h => by simp [pthP] at h
  | x :: ps, q, h => by
    rcases List.mem_append.1 h with h | h
    · obtain ⟨g, hg, rfl⟩ := List.mem_map.1 h
      exact ⟨x, by simp, g, hg, rfl⟩
    · obtain ⟨y, hy, h2⟩ := pthP_mem h
      exact ⟨y, by simp [hy], h2⟩
theorem pthP_len : ∀ {ps : List Pr}, (∀ x ∈ ps, x.gens.length ≤ 50) → (pthP ps).length ≤ 50 * ps.length
  | [], _ => by simp [pthP]
  | x :: ps, h => by
    have h1 := pthP_len (ps := ps) (fun y hy => h y (by simp [hy]))
    have h2 := h x (by simp)
    simp only [pthP, List.length_append, List.length_cons, pthG, List.length_map]
    omega
theorem PsOk.few50 {ps : List Pr} (h : PsOk ps) : ∀ x ∈ ps, x.gens.length ≤ 50 := fun x hx => by
  obtain ⟨i, hi⟩ := List.mem_iff_getElem?.1 hx
  exact (h.each i x hi).few
theorem PsOk.plen {ps : List Pr} (h : PsOk ps) (i : Nat) : (pthP (ps.take i)).length ≤ 1000 := by
  have h1 := pthP_len (ps := ps.take i) (fun x hx => h.few50 x (List.mem_of_mem_take hx))
  have h2 := h.few
  have h3 : (ps.take i).length ≤ ps.length := by simp; omega
  omega
theorem aokL_of (s : ByteArray) : sr.aokL s.data.toList = wd.aokB s := by unfold sr.aokL; cases s; simp
theorem PsOk.aok {ps : List Pr} (h : PsOk ps) : ∀ q ∈ pthP ps, sr.aokL q = true := fun q hq => by
  obtain ⟨x, hx, g, hg, rfl⟩ := pthP_mem hq
  obtain ⟨i, hi⟩ := List.mem_iff_getElem?.1 hx
  obtain ⟨k, hk⟩ := List.mem_iff_getElem?.1 hg
  rw [aokL_of]
  exact ((h.each i x hi).gen k g hk).2.2

noncomputable def rts (ps : List Pr) (xs : List (List UInt8)) : List (List UInt8) := if psB ps = true ∧ xs.length ≤ 2000 then sr.adr (xs ++ pthP ps) else []
theorem rts_yes {ps : List Pr} {xs : List (List UInt8)} (h : psB ps = true) (hx : xs.length ≤ 2000) : rts ps xs = sr.adr (xs ++ pthP ps) := by unfold rts; rw [if_pos ⟨h, hx⟩]
theorem rts_no {ps : List Pr} {xs : List (List UInt8)} (h : ¬ (psB ps = true ∧ xs.length ≤ 2000)) : rts ps xs = [] := by unfold rts; rw [if_neg h]
/-- The specification's order of going through them leads to the same. -/
theorem rts_spec {ps : List Pr} {xs : List (List UInt8)} (h : PsOk ps) : (xs.filter sr.aokL).foldl sr.fadd ((pthP ps).foldl sr.fadd []) = sr.adr (xs ++ pthP ps) := by
  unfold sr.adr
  refine sr.asc_ext (sr.fold_asc _ _ (sr.fold_asc _ _ List.Pairwise.nil)) (sr.fold_asc _ _ List.Pairwise.nil) (fun q => ?_)
  rw [sr.fold_mem, sr.fold_mem, sr.fold_mem, List.filter_append, List.mem_append]
  have hp : (pthP ps).filter sr.aokL = pthP ps := List.filter_eq_self.2 (h.aok)
  rw [hp]
  simp
  exact Or.comm

theorem own_some' {base : Nat} {w : World} {v : Value} {xs : List (List UInt8)} (h : sr.OwnS base w v xs) : ∃ g c, v = .slice (some ⟨g, 0, none⟩) xs.length c := by
  rcases h.1.2 with ⟨h1, _⟩ | ⟨g, c, cur, h1, _⟩
  · exact absurd h1 h.2
  · exact ⟨g, c, h1⟩

theorem blk_nil (w : World) : sr.Blk (w.alloc (.cells #[] 9)) w.heap.size 0 [] := ⟨⟨#[], heap_alloc_new w _, rfl, by simp⟩, Nat.le_refl _⟩

set_option maxHeartbeats 4000000 in
set_option maxRecDepth 100000 in
theorem iroots_any (ps : List Pr) (a : Option Addr) (cap : Nat) (xs : List (List UInt8)) (hx : ∀ x ∈ xs, x.length ≤ 1048576) (v : Value) (w : World) (hR : SrcP w a ps) (hw : wtP ps ≤ 1048576) (hX : sr.StrR w v xs) (hxl : xs.length ≤ 1048576) (hT : wd.TabB w) :
    Calls Tryd.prog 12 #[.slice a ps.length cap, v] w fun e w' => (∃ g c, e = .returned (.slice (some ⟨g, 0, none⟩) (rts ps xs).length c) ∧ w.heap.size ≤ g ∧ sr.Blk w' g c (rts ps xs)) ∧ Below w.heap.size w w' := by
  have hn : ps.length ≤ 1048576 := by have := wt_len ps; omega
  have HO : Hid (∀ W, W = w → Calls Tryd.prog 5 #[.slice a ps.length cap] W fun e w' => e = .returned (.bool (psB ps)) ∧ Below w.heap.size w w') := fun W h => by subst h; exact ips_any ps a cap W hR hw hT
  have HR : Hid (SrcP w a ps) := hR
  have HWT : Hid (wtP ps ≤ 1048576) := hw
  have HT : Hid (wd.TabB w) := hT
  have HXR : Hid (sr.StrR w v xs) := hX
  obtain ⟨n, hnn⟩ : ∃ t, ps.length = t := ⟨_, rfl⟩
  have HNN : Hid (ps.length = n) := hnn
  rw [hnn] at HO hn ⊢
  obtain ⟨xb, xo, xc, rfl, hxc, hxm, hxcell⟩ := hX
  clear hnn hR hw hT hxcell
  cases hv : psB ps with
  | false =>
    rw [hv] at HO
    have HE : Hid (rts ps xs = []) := rts_no (by rw [hv]; simp)
    rw [HE.out]
    clear hv
    go_enter Tryd.func12, Tryd.ntmps12
    go_wp2_with (go_at_call 5; refine (HO.out _ rfl).mono ?_; rintro e w2 ⟨rfl, hl2⟩)
    go_ret
    exact ⟨⟨w2.heap.size, 0, rfl, hl2.size, blk_nil w2⟩, hl2.alloc hl2.size _⟩
  | true =>
    rw [hv] at HO
    have HOK : Hid (PsOk ps) := psB_iff.1 hv
    clear hv
    by_cases hx2 : 2000 < xs.length
    · have hx2' : (2000 : Int) < (xs.length : Int) := by omega
      have HE : Hid (rts ps xs = []) := rts_no (by omega)
      rw [HE.out]
      go_enter Tryd.func12, Tryd.ntmps12
      go_wp2_with (go_at_call 5; refine (HO.out _ rfl).mono ?_; rintro e w2 ⟨rfl, hl2⟩)
      go_ret
      exact ⟨⟨w2.heap.size, 0, rfl, hl2.size, blk_nil w2⟩, hl2.alloc hl2.size _⟩
    have hx2' : ¬ (2000 : Int) < (xs.length : Int) := by omega
    have HE : Hid (rts ps xs = sr.adr (xs ++ pthP ps)) := rts_yes (psB_yes HOK.out) (by omega)
    rw [HE.out]
    have HCL : Hid (∀ W, Below w.heap.size w W → Calls Tryd.prog 41 #[.slice (some ⟨xb, xo, none⟩) xs.length xc] W fun e w' => ∃ v', e = .returned v' ∧ sr.OwnS W.heap.size w' v' xs ∧ Below W.heap.size W w') := fun W hb => sr.clone_any xs _ W (HXR.out.below hb) (by omega)
    have hal : ∀ q ∈ xs ++ pthP ps, q.length ≤ 1048576 := fun q hq => by
      rcases List.mem_append.1 hq with h | h
      · exact hx q h
      · obtain ⟨x, hx', g, hg, rfl⟩ := pthP_mem h
        have := wt_path hx' hg
        have := HWT.out
        have h3 : g.p.data.toList.length = g.p.size := by rw [Array.length_toList]; rfl
        omega
    have hlen : (xs ++ pthP ps).length ≤ 4000 := by
      have := HOK.out.plen ps.length
      rw [List.take_length] at this
      rw [List.length_append]
      omega
    have HAM : Hid (∀ W v', Below w.heap.size w W → sr.StrR W v' (xs ++ pthP ps) → Calls Tryd.prog 43 #[v'] W fun e w' => (∃ g c, e = .returned (.slice (some ⟨g, 0, none⟩) (sr.adr (xs ++ pthP ps)).length c) ∧ W.heap.size ≤ g ∧ c ≤ maxLen ∧ sr.Blk w' g c (sr.adr (xs ++ pthP ps))) ∧ Below W.heap.size W w') := fun W v' hb h => sr.among_any _ hal v' W h hlen (HT.out.below hb)
    have hadl : (sr.adr (xs ++ pthP ps)).length ≤ 4000 := by have := sr.adr_len (xs ++ pthP ps); omega
    have hadm : ∀ q ∈ sr.adr (xs ++ pthP ps), q.length ≤ 1048576 := fun q hq => by
      unfold sr.adr at hq
      rw [sr.fold_mem] at hq
      exact hal q (List.mem_filter.1 (hq.resolve_left (by simp))).1
    have HCT : Hid (∀ W v', sr.StrR W v' (sr.adr (xs ++ pthP ps)) → Calls Tryd.prog 42 #[v'] W fun e w' => e = .returned (.slice (some ⟨W.heap.size, 0, none⟩) (sr.adr (xs ++ pthP ps)).length (sr.adr (xs ++ pthP ps)).length) ∧ sr.Blk w' W.heap.size (sr.adr (xs ++ pthP ps)).length (sr.adr (xs ++ pthP ps)) ∧ Below W.heap.size W w') := fun W v' h => sr.clonedT_any _ hadm v' W h hadl
    obtain ⟨rs, hrs⟩ : ∃ t, sr.adr (xs ++ pthP ps) = t := ⟨_, rfl⟩
    rw [hrs] at HAM HCT ⊢
    have HXL : Hid (xs.length ≤ 2000) := by show _ ≤ _; omega
    clear hal hlen hadl hadm hrs hx
    go_enter Tryd.func12, Tryd.ntmps12
    go_wp2_with (first
      | (go_at_call 5; refine (HO.out _ rfl).mono ?_; rintro e w2 ⟨rfl, hl2⟩)
      | (go_at_call 41; refine (HCL.out _ hl2).mono ?_; rintro e w3 ⟨v3, rfl, hv3, hl3⟩))
    have HS3 : Hid (sr.OwnS w.heap.size w3 v3 xs) := hv3.mono hl2.size
    have HB3 : Hid (Below w.heap.size w w3) := hl2.trans (hl3.mono hl2.size)
    clear hv3 hl2 hl3
    go_loopw [5, 7, 9, 23] (fun v _ _ y wr => ∃ i : Nat, i ≤ n ∧ y = .int .i64 (i : Int) ∧ sr.OwnS w.heap.size wr v (xs ++ pthP (ps.take i)) ∧ Below w.heap.size w wr) (fun _ _ _ y _ => n - (intOf y).toNat)
    case atStart => exact ⟨0, Nat.zero_le _, rfl, by simpa [pthP] using HS3.out, HB3.out⟩
    case round =>
      obtain ⟨i, hi, rfl, hown, hbel⟩ := hrel
      have HBE : Hid (Below w.heap.size w wr) := hbel
      have HOW : Hid (sr.OwnS w.heap.size wr u5 (xs ++ pthP (ps.take i))) := hown
      by_cases hil : i < n
      · have hil' : (i : Int) < (n : Int) := by omega
        have hi0 : (0 : Int) ≤ (i : Int) := by omega
        obtain ⟨x, hx⟩ : ∃ x, ps[i]? = some x := ⟨_, List.getElem?_eq_getElem (by rw [HNN.out]; exact hil)⟩
        rcases HR.out with h | ⟨b, o, rfl, hc⟩
        · have := HNN.out; rw [h] at this; simp at this; omega
        obtain ⟨u, c, r0, r1, r2, hsg⟩ := hc i x hx
        have K0 : ∀ {p v}, w.cell? ⟨b, p, none⟩ = some v → wr.cell? ⟨b, p, none⟩ = some v := fun {p v} h => (hbel.cell (p := ⟨b, p, none⟩) (World.block_lt_of_cell? _ _ h)).trans h
        have q0 := K0 r0
        have q1 := K0 r1
        have q2 := K0 r2
        clear K0 r0 r1 r2
        have HX : Hid (pthP (ps.take (i + 1)) = pthP (ps.take i) ++ pthG x.gens) := pthP_take hx
        have hf50 : x.gens.length ≤ 50 := (HOK.out.each i x hx).few
        have HPL : Hid ((pthP (ps.take i)).length ≤ 1000) := HOK.out.plen i
        have HSG : Hid (∀ W, Below w.heap.size w W → SrcG W u x.gens) := fun W hb => hsg.below hb
        obtain ⟨A, hA⟩ : ∃ t, x.name = t := ⟨_, rfl⟩
        obtain ⟨z, hz⟩ : ∃ t, x.now = t := ⟨_, rfl⟩
        obtain ⟨m, hm⟩ : ∃ t, x.gens.length = t := ⟨_, rfl⟩
        have HM : Hid (x.gens.length = m) := hm
        rw [hA] at q0
        rw [hz] at q1
        rw [hm] at q2 hf50
        have HBW1 : Hid (Below wr.heap.size wr (wr.alloc (.cells #[.string A, .int .i64 z, .slice u m c] 40))) := (Below.refl _ _).alloc (Nat.le_refl _) _
        have HOA : Hid (sr.OwnS w.heap.size (wr.alloc (.cells #[.string A, .int .i64 z, .slice u m c] 40)) u5 (xs ++ pthP (ps.take i) ++ pthG (x.gens.take 0))) := by
          refine ⟨?_, HOW.out.2⟩
          have := own_below HOW.out.1 HBW1.out
          simpa [pthG] using this
        clear hA hz hm hx hc hsg hown hbel
        obtain ⟨wo, rfl⟩ : ∃ wo, wo = wr := ⟨_, rfl⟩
        go_wp2
        go_loopw [5, 9, 30] (fun v _ y wr => ∃ k : Nat, k ≤ m ∧ y = .int .i64 (k : Int) ∧ sr.OwnS w.heap.size wr v (xs ++ pthP (ps.take i) ++ pthG (x.gens.take k)) ∧ Below w.heap.size w wr) (fun _ _ y _ => m - (intOf y).toNat)
        case atStart => exact ⟨0, Nat.zero_le _, rfl, HOA.out, HBE.out.trans (HBW1.out.mono HBE.out.size)⟩
        case round =>
          obtain ⟨k, hk, rfl, hown, hbel⟩ := hrel
          have HBK : Hid (Below w.heap.size w wr) := hbel
          obtain ⟨ob, oc, hoe⟩ := own_some' hown
          have HOK2 : Hid (sr.OwnS w.heap.size wr u5 (xs ++ pthP (ps.take i) ++ pthG (x.gens.take k))) := hown
          have hll : (xs ++ pthP (ps.take i) ++ pthG (x.gens.take k)).length ≤ 4000 := by
            rw [List.length_append, List.length_append]
            have := HXL.out
            have := HPL.out
            have : (pthG (x.gens.take k)).length ≤ 50 := by unfold pthG; simp; omega
            omega
          by_cases hkm : k < m
          · have hkm' : (k : Int) < (m : Int) := by omega
            have hk0 : (0 : Int) ≤ (k : Int) := by omega
            obtain ⟨g, hg⟩ : ∃ g, x.gens[k]? = some g := ⟨_, List.getElem?_eq_getElem (by rw [HM.out]; exact hkm)⟩
            rcases HSG.out _ hbel with h | ⟨gb, go, rfl, hcg⟩
            · have := HM.out; rw [h] at this; simp at this; omega
            obtain ⟨c0, c1⟩ := hcg k g hg
            have HXK : Hid (xs ++ pthP (ps.take i) ++ pthG (x.gens.take (k + 1)) = xs ++ pthP (ps.take i) ++ pthG (x.gens.take k) ++ [g.p.data.toList]) := by show _ = _; rw [pthG_take hg, ← List.append_assoc]
            obtain ⟨gn, hgn⟩ : ∃ t, g.n = t := ⟨_, rfl⟩
            obtain ⟨gp, hgp⟩ : ∃ t, g.p = t := ⟨_, rfl⟩
            rw [hgn] at c0
            rw [hgp] at c1 HXK
            have HBD : Hid (Below wr.heap.size wr (wr.alloc (.cells #[.int .i64 gn, .string gp] 59))) := (Below.refl _ _).alloc (Nat.le_refl _) _
            have HOA2 : Hid (∀ ob, ((wr.alloc (.cells #[.int .i64 gn, .string gp] 59)).alloc ob).ownsRow w.heap.size 9 1 u5 (xs ++ pthP (ps.take i) ++ pthG (x.gens.take k)).length ((xs ++ pthP (ps.take i) ++ pthG (x.gens.take k)).map sr.strL)) := fun ob => own_below HOK2.out.1 (HBD.out.alloc HBD.out.size _)
            have HSA : Hid (∀ ob, w.heap.size ≤ ((wr.alloc (.cells #[.int .i64 gn, .string gp] 59)).alloc ob).heap.size) := fun ob => by have := HBK.out.size; rw [World.size_alloc, World.size_alloc]; omega
            have HBA : Hid (∀ ob, Below w.heap.size w ((wr.alloc (.cells #[.int .i64 gn, .string gp] 59)).alloc ob)) := fun ob => HBK.out.trans ((HBD.out.alloc HBD.out.size ob).mono HBK.out.size)
            have HNE : Hid (∀ j u, ([gp.data.toList].map sr.strL)[j]? = some u → ((wr.alloc (.cells #[.int .i64 gn, .string gp] 59)).alloc (.cells #[.string gp] 9)).cell? ((⟨wr.heap.size + 1, 0, none⟩ : Addr).add j) = some u) := by
              have := sr.one_atb (wr.alloc (.cells #[.int .i64 gn, .string gp] 59)) gp
              rw [World.size_alloc] at this
              exact this
            clear hgn hgp hg hcg hown hbel hoe
            go_wp2_with (first
              | (at_builtin; refine sr.app_str _ rfl _ _ rfl w.heap.size u5 (xs ++ pthP (ps.take i) ++ pthG (x.gens.take k)) rfl (HOA2.out _) HOK2.out.2 ⟨wr.heap.size + 1, 0, none⟩ 1 1 [gp.data.toList] rfl rfl HNE.out (by omega) (HSA.out _) ?_; intro v6 w6 hown6 hv6 hg6; refine Hid.out ?_)
              | go_in)
            refine Lib.hid ?_
            have HO6 : Hid (sr.OwnS w.heap.size w6 v6 (xs ++ pthP (ps.take i) ++ pthG (x.gens.take (k + 1)))) := by
              show sr.OwnS _ _ _ _
              rw [HXK.out]
              exact ⟨hown6, hv6⟩
            have HB6 : Hid (Below w.heap.size w w6) := below_grown (HBA.out _) (HOA2.out _) hg6 (HSA.out _)
            clear hown6 hv6 hg6
            go_wp2
            go_roundw
            case rel => exact ⟨k + 1, by omega, by go_num, HO6.out, HB6.out⟩
            case measure => simp [intOf]; omega
          · have hkm' : ¬ (k : Int) < (m : Int) := by omega
            have HO7 : Hid (sr.OwnS w.heap.size wr u5 (xs ++ pthP (ps.take (i + 1)))) := by
              have h := HOK2.out
              have e : x.gens.take k = x.gens := List.take_of_length_le (by rw [HM.out]; omega)
              rw [e, List.append_assoc, ← HX.out] at h
              exact h
            clear hown hbel hoe
            go_wp2
            go_roundw
            case rel => exact ⟨i + 1, by omega, by go_num, HO7.out, HBK.out⟩
            case measure => simp [intOf]; omega
      · have hil' : ¬ (i : Int) < (n : Int) := by omega
        obtain rfl : i = n := by omega
        have HRW : Hid (sr.StrR wr u5 (xs ++ pthP ps)) := by
          have h := HOW.out.row
          rwa [List.take_of_length_le (by rw [HNN.out]; exact Nat.le_refl _)] at h
        clear hown
        go_wp2_with (first
          | (go_at_call 43; refine (HAM.out _ _ hbel HRW.out).mono ?_; rintro e w5 ⟨⟨g5, c5, rfl, hg5, hc5, hb5⟩, hl5⟩; have HB5 : Hid (sr.StrR w5 (.slice (some ⟨g5, 0, none⟩) rs.length c5) rs) := hb5.row' hc5; clear hb5)
          | (go_at_call 42; refine (HCT.out _ _ HB5.out).mono ?_; rintro e w6 ⟨rfl, hb6, hl6⟩; have HB6 : Hid (sr.Blk w6 w5.heap.size rs.length rs) := hb6; clear hb6))
        go_ret
        exact ⟨⟨w5.heap.size, _, rfl, Nat.le_trans hbel.size hl5.size, HB6.out⟩, (hbel.trans (hl5.mono hbel.size)).trans (hl6.mono (Nat.le_trans hbel.size hl5.size))⟩

end Go.Proofs.YtihjdggmmmlpkaaDoor.pf
