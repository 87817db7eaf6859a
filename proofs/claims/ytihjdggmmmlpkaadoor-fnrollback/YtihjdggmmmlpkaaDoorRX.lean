import Derived.Test.YtihjdggmmmlpkaaDoorD3
import Derived.Test.YtihjdggmmmlpkaaDoorWH
import Derived.Test.YtihjdggmmmlpkaaDoorSV
import Derived.Test.YtihjdggmmmlpkaaDoorAH
import Derived.Test.YtihjdggmmmlpkaaDoorPI
import Derived.Test.YtihjdggmmmlpkaaDoorPP
import Derived.Test.YtihjdggmmmlpkaaDoorSZ
import Derived.Test.YtihjdggmmmlpkaaDoorPQ
import Derived.Test.YtihjdggmmmlpkaaDoorLQ
import Derived.Test.YtihjdggmmmlpkaaDoorRA
import Derived.OwnWalk
import Derived.Test.YtihjdggmmmlpkaaDoorSY
namespace Go.Proofs.YtihjdggmmmlpkaaDoor.dr
open Go.ChangeShapes Go.WideShapes Go.ChangeAt Go.RowKit Go.Deep
set_option linter.unusedVariables false
set_option linter.unusedSimpArgs false

/-! ### FnRollBack: draws of paths and names -/

theorem dpath_any (k : Nat) (hk : k < 100000) (w : World) :
    Calls Tryd.prog 25 #[.int .i64 (k : Int)] w fun e w' => ∃ s : ByteArray, e = .returned (.string s) ∧ s.size ≤ 100 ∧ Below w.heap.size w w' := by
  have HI : Hid (Calls Tryd.prog 56 #[.int .i64 (k : Int)] w fun e w' => ∃ s : ByteArray, e = .returned (.string s) ∧ s.size ≤ 6 ∧ Below w.heap.size w w') := int_any k hk w
  go_enter Tryd.func25, Tryd.ntmps25
  go_wp2_with (go_at_call 56; refine HI.out.mono ?_; rintro e w1 ⟨s, rfl, hs, hb1⟩; refine Hid.out ?_)
  refine Lib.hid ?_
  have hcat : ¬ 9223372036854775807 < 1 + s.size := by omega
  have HA : Hid (∀ n : ByteArray, n.size ≤ 7 → Calls Tryd.prog 55 #[.string ⟨#[111, 117, 116]⟩, .string n, .slice (some ⟨w1.heap.size, 0, none⟩) 1 1] (w1.alloc (.cells #[.int .u8 1] 5)) fun e w' => ∃ s : ByteArray, e = .returned (.string s) ∧ s.size ≤ 100 ∧ Below w.heap.size w w') := fun n hn =>
    (wd.laddr_any ⟨#[111, 117, 116]⟩ n (by decide) (by omega) w1.heap.size 1 1 [1] (by omega) _ (by simp) (fun i hi => by have h0 : i = 0 := (by omega); subst h0; simp [go_sem])).mono fun e w' ⟨he, hb⟩ =>
      ⟨_, he, by unfold wd.addrA; rw [ByteArray.size_append, ByteArray.size_append, wd.wordA_size]; show 13 + 1 + n.size ≤ 100; omega, (hb1.alloc hb1.size _).trans (hb.mono (hb1.alloc hb1.size _).size)⟩
  have HS : Hid ((⟨#[112]⟩ ++ s : ByteArray).size ≤ 7) := by show _ ≤ 7; rw [ByteArray.size_append]; show 1 + s.size ≤ 7; omega
  clear hb1 hs
  go_wp2_with (go_at_call 55; refine (HA.out _ HS.out).mono ?_; rintro e w2 ⟨t, rfl, ht, hb2⟩; refine Hid.out ?_)
  refine Lib.hid ?_
  go_wp2
  go_ret
  exact ⟨t, rfl, ht, hb2⟩

theorem dname_any {w : World} {c : Nat} {a : Option Addr} {n cap : Nat} (hc : Can w c a n cap) (hcw : c < w.heap.size) :
    Calls Tryd.prog 24 #[.pointer (some ⟨c, 0, none⟩)] w fun e w' => ∃ s : ByteArray, e = .returned (.string s) ∧ s.size ≤ 64 ∧ Draws w w' c a n cap := by
  go_enter Tryd.func24, Tryd.ntmps24
  go_wp2_with (go_at_call 26; refine (below_can (hc.draws (hc.refl.alloc hc hcw _)) 5 (by decide) (by decide)).mono ?_; rintro e w1 ⟨x, rfl, hx, d1⟩; have D1 := (hc.refl.alloc hc hcw _).trans d1; obtain ⟨y, hy, hcy⟩ := (tab_new w _ 5 rfl (by kernel_rfl)).draws d1 (by omega) x hx; clear d1; have hx' : (x : Int) < 5 := (by omega))
  go_ret
  exact ⟨y, rfl, hy, D1⟩

end Go.Proofs.YtihjdggmmmlpkaaDoor.dr

namespace Go.Proofs.YtihjdggmmmlpkaaDoor.pf
open Go.ChangeShapes Go.WideShapes Go.ChangeAt Go.RowKit Go.Deep Go.Maps
set_option linter.unusedVariables false
set_option linter.unusedSimpArgs false

/-! ### FnRollBack: what the law asks, plainly -/

theorem AdjG.far {l : List Gn} (h : AdjG l) : ∀ (d i : Nat) (x y : Gn), l[i]? = some x → l[i + 1 + d]? = some y → x.n < y.n
  | 0, i, x, y, hx, hy => h i x y hx hy
  | d + 1, i, x, y, hx, hy => by
    have hlt := (List.getElem?_eq_some_iff.1 hy).1
    obtain ⟨z, hz⟩ : ∃ z, l[i + 1 + d]? = some z := ⟨_, List.getElem?_eq_getElem (by omega)⟩
    have h1 := AdjG.far h d i x z hx hz
    have h2 := h (i + 1 + d) z y hz hy
    omega
theorem AdjG.lt {l : List Gn} (h : AdjG l) {i j : Nat} {x y : Gn} (hx : l[i]? = some x) (hy : l[j]? = some y) (hij : i < j) : x.n < y.n := by
  obtain ⟨d, rfl⟩ : ∃ d, j = i + 1 + d := ⟨j - i - 1, by omega⟩
  exact h.far d i x y hx hy
theorem AdjG.one {l : List Gn} (h : AdjG l) {i j : Nat} {x y : Gn} (hx : l[i]? = some x) (hy : l[j]? = some y) (e : x.n = y.n) : i = j := by
  rcases Nat.lt_trichotomy i j with h1 | h1 | h1
  · have := h.lt hx hy h1; omega
  · exact h1
  · have := h.lt hy hx h1; omega
theorem AdjG.ix {l : List Gn} (h : AdjG l) {i : Nat} {g : Gn} (hg : l[i]? = some g) : gIx l g.n = (i : Int) :=
  gIx_yes hg rfl fun j y hj hy e => by have := h.lt hy hg hj; omega
theorem adjG_pw {l : List Gn} : AdjG l ↔ l.Pairwise fun a b => a.n < b.n := by
  constructor
  · intro h
    rw [List.pairwise_iff_getElem]
    intro i j hi hj hij
    exact h.lt (List.getElem?_eq_getElem hi) (List.getElem?_eq_getElem hj) hij
  · intro h i x y hx hy
    obtain ⟨hi, rfl⟩ := List.getElem?_eq_some_iff.1 hx
    obtain ⟨hj, rfl⟩ := List.getElem?_eq_some_iff.1 hy
    exact List.pairwise_iff_getElem.1 h i (i + 1) hi hj (by omega)

theorem PsOk.one {ps : List Pr} (h : PsOk ps) {i j : Nat} {x y : Pr} (hx : ps[i]? = some x) (hy : ps[j]? = some y) (e : nmL x = nmL y) : i = j := by
  rcases Nat.lt_trichotomy i j with h1 | h1 | h1
  · exact absurd (h.asc.lt hx hy h1) (e ▸ List.lt_irrefl _)
  · exact h1
  · exact absurd (h.asc.lt hy hx h1) (e ▸ List.lt_irrefl _)
theorem PsOk.ix {ps : List Pr} (h : PsOk ps) {i : Nat} {x : Pr} {q : List UInt8} (hx : ps[i]? = some x) (hn : nmL x = q) : fIx ps q = (i : Int) :=
  fIx_yes hx hn fun j y hj hy e => by have := h.one hy hx (e.trans hn.symm); omega
theorem fIx_nm {ps : List Pr} {q : List UInt8} {i : Nat} {x : Pr} (hf : fIx ps q = (i : Int)) (hx : ps[i]? = some x) : nmL x = q := by
  unfold fIx at hf
  cases h : ps.findIdx? (fun x => decide (nmL x = q)) with
  | none => rw [h] at hf; simp at hf
  | some k =>
    rw [h] at hf
    obtain rfl : k = i := by simp at hf; omega
    obtain ⟨hi, h1, -⟩ := List.findIdx?_eq_some_iff_getElem.1 h
    obtain ⟨_, rfl⟩ := List.getElem?_eq_some_iff.1 hx
    simpa using h1
theorem PsOk.put {ps : List Pr} (h : PsOk ps) {i : Nat} {x y : Pr} (hx : ps[i]? = some x) (hy : POk y) (hn : y.name = x.name) : PsOk (ps.set i y) := by
  have hi := (List.getElem?_eq_some_iff.1 hx).1
  have at' : ∀ (j : Nat) (z : Pr), (ps.set i y)[j]? = some z → ∃ z0, ps[j]? = some z0 ∧ z.name = z0.name ∧ POk z := fun j z hz => by
    rw [List.getElem?_set] at hz
    by_cases e : i = j
    · subst e
      rw [if_pos rfl, if_pos hi] at hz
      obtain rfl := Option.some.inj hz
      exact ⟨x, hx, hn, hy⟩
    · rw [if_neg e] at hz
      exact ⟨z, hz, rfl, h.each j z hz⟩
  refine ⟨by rw [List.length_set]; exact h.few, fun j a b ha hb => ?_, fun j z hz => ?_⟩
  · obtain ⟨a0, h1, h2, _⟩ := at' j a ha
    obtain ⟨b0, h3, h4, _⟩ := at' (j + 1) b hb
    rw [h2, h4]
    exact h.asc j a0 b0 h1 h3
  · obtain ⟨_, _, _, hz'⟩ := at' j z hz
    exact hz'
theorem PsOk.cur_put {ps : List Pr} (h : PsOk ps) {i : Nat} {x y : Pr} {q : List UInt8} (hx : ps[i]? = some x) (hq : nmL x = q) (hy : POk y) (hn : y.name = x.name) : psB (ps.set i y) = true ∧ curP (ps.set i y) q = cur y := by
  have h' := h.put hx hy hn
  have hi := (List.getElem?_eq_some_iff.1 hx).1
  have hg : (ps.set i y)[i]? = some y := by rw [List.getElem?_set, if_pos rfl, if_pos hi]
  exact ⟨psB_yes h', curP_at (psB_yes h') (h'.ix hg (by unfold nmL at *; rw [hn]; exact hq)) hg⟩

theorem sg_name (x : Pr) (pa : ByteArray) : (sg x pa).name = x.name := by
  by_cases h : isNow x pa
  · rw [sg_same h]
  · rw [sg_else h]
theorem rkP_le : ∀ (ps : List Pr) (q : List UInt8), rkP ps q ≤ ps.length
  | [], q => by simp [rkP]
  | x :: l, q => by
    have := rkP_le l q
    unfold rkP
    split
    · simpa using this
    · simp
theorem insg {ps : List Pr} {i : Nat} (hi : i ≤ ps.length) (x : Pr) : (ps.take i ++ x :: ps.drop i)[i]? = some x := by
  rw [List.getElem?_append_right (by rw [List.length_take]; omega), List.length_take, Nat.min_eq_left hi, Nat.sub_self]
  rfl
theorem sw_at {ps : List Pr} {q pa : ByteArray} (h2 : PsOk (swL ps q pa)) : ∃ (i : Nat) (y0 : Pr), (swL ps q pa)[i]? = some (sg y0 pa) ∧ nmL (sg y0 pa) = q.data.toList ∧ fIx (swL ps q pa) q.data.toList = (i : Int) ∧ ((fIx ps q.data.toList = -1 ∧ y0 = nw0 q) ∨ (fIx ps q.data.toList = (i : Int) ∧ ps[i]? = some y0)) := by
  rcases fIx_cases ps q.data.toList with hf | ⟨i, x, hf, hx⟩
  · have e := swL_in (pa := pa) hf rfl
    have hg : (swL ps q pa)[rkP ps q.data.toList]? = some (sg (nw0 q) pa) := by rw [e]; exact insg (rkP_le _ _) _
    have hn : nmL (sg (nw0 q) pa) = q.data.toList := by unfold nmL; rw [sg_name]; rfl
    exact ⟨_, nw0 q, hg, hn, h2.ix hg hn, .inl ⟨hf, rfl⟩⟩
  · have e := swL_at (pa := pa) hf hx
    have hg : (swL ps q pa)[i]? = some (sg x pa) := by rw [e, List.getElem?_set, if_pos rfl, if_pos (List.getElem?_eq_some_iff.1 hx).1]
    have hn : nmL (sg x pa) = q.data.toList := by unfold nmL; rw [sg_name]; exact fIx_nm hf hx
    exact ⟨i, x, hg, hn, h2.ix hg hn, .inr ⟨hf, hx⟩⟩

theorem sg_end {x : Pr} {pa : ByteArray} (h : ¬ isNow x pa) : (sg x pa).gens[x.gens.length]? = some ⟨(sg x pa).now, pa⟩ := by
  rw [sg_else h]
  simp
theorem cur_sg {x : Pr} {pa : ByteArray} (h : POk (sg x pa)) : ∃ (k : Nat) (g : Gn), (sg x pa).gens[k]? = some g ∧ g.n = (sg x pa).now ∧ g.p = pa ∧ gIx (sg x pa).gens (sg x pa).now = (k : Int) ∧ cur (sg x pa) = pa := by
  by_cases hi : isNow x pa
  · rw [sg_same hi]
    rcases gIx_cases x.gens x.now with ⟨hg, _⟩ | ⟨k, g, hg, hk, hn⟩
    · have := hi.1; omega
    · have hp := hi.2
      rw [hg, Int.toNat_natCast, hk] at hp
      exact ⟨k, g, hk, hn, hp, hg, (cur_at hg hk).trans hp⟩
  · have he := sg_end hi
    have hg := h.asc.ix he
    exact ⟨x.gens.length, _, he, rfl, rfl, hg, cur_at hg he⟩

/-- P2. -/
theorem sw_yes {ps : List Pr} {q pa : ByteArray} (h : (swP ps q pa).2 = true) : psB ps = true ∧ psB (swL ps q pa) = true ∧ (swP ps q pa).1 = swL ps q pa := by
  unfold swP at h ⊢
  by_cases h1 : psB ps = true
  · rw [if_pos h1] at h ⊢
    by_cases h2 : psB (swL ps q pa) = true
    · rw [if_pos h2]; exact ⟨h1, h2, rfl⟩
    · rw [if_neg h2] at h; simp at h
  · rw [if_neg h1] at h; simp at h
theorem sw_not {ps : List Pr} {q pa : ByteArray} (h : (swP ps q pa).2 = false) : (swP ps q pa).1 = [] ∨ curP (swP ps q pa).1 q.data.toList = curP ps q.data.toList := by
  unfold swP at h ⊢
  by_cases h1 : psB ps = true
  · rw [if_pos h1] at h ⊢
    by_cases h2 : psB (swL ps q pa) = true
    · rw [if_pos h2] at h; simp at h
    · rw [if_neg h2]; exact .inr rfl
  · rw [if_neg h1]; exact .inl rfl
theorem sw_cur {ps : List Pr} {q pa : ByteArray} (h2 : psB (swL ps q pa) = true) : curP (swL ps q pa) q.data.toList = pa := by
  have h := psB_iff.1 h2
  obtain ⟨i, y0, hg, hn, hf, -⟩ := sw_at h
  obtain ⟨_, _, _, _, _, _, hc⟩ := cur_sg (h.each i _ hg)
  rw [curP_at h2 hf hg, hc]
theorem mem_pthP : ∀ {ps : List Pr} {x : Pr} {g : Gn}, x ∈ ps → g ∈ x.gens → g.p.data.toList ∈ pthP ps
  | y :: l, x, g, hx, hg => by
    rcases List.mem_cons.1 hx with rfl | h
    · exact List.mem_append.2 (.inl (List.mem_map.2 ⟨g, hg, rfl⟩))
    · exact List.mem_append.2 (.inr (mem_pthP h hg))
theorem sw_root {ps : List Pr} {q pa : ByteArray} (h2 : psB (swL ps q pa) = true) : pa.data.toList ∈ rts (swL ps q pa) [] := by
  have h := psB_iff.1 h2
  obtain ⟨i, y0, hg, hn, hf, -⟩ := sw_at h
  obtain ⟨k, g, hk, _, hp, _, hc⟩ := cur_sg (h.each i _ hg)
  rw [rts_yes h2 (by simp), List.nil_append]
  have hm : pa.data.toList ∈ pthP (swL ps q pa) := by have := mem_pthP (List.mem_of_getElem? hg) (List.mem_of_getElem? hk); rw [hp] at this; exact this
  unfold sr.adr
  rw [sr.fold_mem]
  exact .inr (List.mem_filter.2 ⟨hm, h.aok _ hm⟩)

/-- What the law calls the last. -/
def lastX (x : Pr) (q : List UInt8) : Prop := nmL x = q ∧ 0 < x.gens.length ∧ lastN x.gens = x.now
open Classical in
noncomputable def lastB (ps : List Pr) (q : List UInt8) : Bool := decide (∃ x ∈ ps, lastX x q)
open Classical in
theorem lastB_iff {ps : List Pr} {q : List UInt8} : lastB ps q = true ↔ ∃ x ∈ ps, lastX x q := by unfold lastB; exact decide_eq_true_iff

/-- P3. -/
theorem sw_back {ps : List Pr} {q pa : ByteArray} (h1 : psB ps = true) (h2 : psB (swL ps q pa) = true) (hw : curP ps q.data.toList ≠ ⟨#[]⟩) (hp : curP ps q.data.toList ≠ pa) (hl : lastB ps q.data.toList = true) :
    (chP sb (swL ps q pa) q.data.toList).2 = true ∧ curP (chP sb (swL ps q pa) q.data.toList).1 q.data.toList = curP ps q.data.toList := by
  have h0 := psB_iff.1 h1
  have h := psB_iff.1 h2
  obtain ⟨i, y0, hg, hn, hf, hc⟩ := sw_at h
  rcases hc with ⟨hf0, -⟩ | ⟨hf0, hx0⟩
  · exact absurd (curP_not hf0) hw
  have hcur : curP ps q.data.toList = cur y0 := curP_at h1 hf0 hx0
  obtain ⟨z, hz, hzn, hz0, hzl⟩ : ∃ x ∈ ps, lastX x q.data.toList := lastB_iff.1 hl
  obtain ⟨j, hj⟩ := mem_at hz
  obtain rfl : j = i := h0.one hj hx0 (hzn.trans (fIx_nm hf0 hx0).symm)
  obtain rfl : z = y0 := Option.some.inj (hj.symm.trans hx0)
  have hok0 := h0.each _ _ hj
  have hok := h.each _ _ hg
  obtain ⟨m, hm⟩ : ∃ m, z.gens.length = m + 1 := ⟨z.gens.length - 1, by omega⟩
  obtain ⟨g, hgm⟩ : ∃ g, z.gens[m]? = some g := ⟨_, List.getElem?_eq_getElem (by omega)⟩
  have hgn : g.n = z.now := by
    unfold lastN at hzl
    rw [hm, Nat.add_sub_cancel, hgm] at hzl
    exact hzl
  have hix : gIx z.gens z.now = (m : Int) := by rw [← hgn]; exact hok0.asc.ix hgm
  have hcz : cur z = g.p := cur_at hix hgm
  have hni : ¬ isNow z pa := fun hi => by
    have := hi.2
    rw [hix, Int.toNat_natCast, hgm] at this
    exact hp (hcur.trans (hcz.trans this))
  have he := sg_end hni
  have hixs := hok.asc.ix he
  have hgs : (sg z pa).gens[m]? = some g := by
    rw [sg_else hni]
    show (z.gens ++ _)[m]? = _
    rw [List.getElem?_append_left (by omega)]
    exact hgm
  have hsb : sb (sg z pa) = (⟨(sg z pa).name, g.n, (sg z pa).gens⟩, true) := sb_at (K := m) (by rw [hm] at hixs; exact hixs) hgs
  have hch := chP_at (F := sb) h2 hf hg
  rw [hch, hsb]
  have hix2 : gIx (sg z pa).gens g.n = (m : Int) := hok.asc.ix hgs
  have hok2 : POk ⟨(sg z pa).name, g.n, (sg z pa).gens⟩ := ⟨hok.name, hok.few, hok.asc, hok.gen, .inr (by show 0 ≤ gIx (sg z pa).gens g.n; rw [hix2]; omega)⟩
  have := (h.cur_put hg hn hok2 rfl).2
  refine ⟨rfl, this.trans ?_⟩
  rw [hcur, hcz]
  exact cur_at hix2 hgs

theorem kTo_sub (keep now : Int) (l : List Gn) : ∀ i, (kTo keep now l i).Sublist (l.take i)
  | 0 => by simp [kTo]
  | i + 1 => by
    have ih := kTo_sub keep now l i
    rw [List.take_add_one]
    unfold kTo
    refine ih.append ?_
    cases l[i]? with
    | none => simp
    | some g =>
      show (if _ then [g] else []).Sublist _
      split
      · exact List.Sublist.refl _
      · exact List.nil_sublist _
theorem kTo_has {keep now : Int} {l : List Gn} {k : Nat} {g : Gn} (hk : l[k]? = some g) (hn : g.n = now) : ∀ i, k < i → g ∈ kTo keep now l i
  | 0, h => by omega
  | i + 1, h => by
    unfold kTo
    rcases Nat.lt_or_ge k i with h1 | h1
    · exact List.mem_append.2 (.inl (kTo_has hk hn i h1))
    · obtain rfl : k = i := by omega
      rw [hk]
      show g ∈ _ ++ (if _ then [g] else [])
      rw [if_pos (.inr hn)]
      simp
/-- P4. -/
theorem sw_cut {ps : List Pr} {q pa : ByteArray} (h2 : psB (swL ps q pa) = true) :
    (chP (ct 1) (swL ps q pa) q.data.toList).2 = true ∧ curP (chP (ct 1) (swL ps q pa) q.data.toList).1 q.data.toList = pa ∧ psB (chP (ct 1) (swL ps q pa) q.data.toList).1 = true := by
  have h := psB_iff.1 h2
  obtain ⟨i, y0, hg, hn, hf, -⟩ := sw_at h
  have hok := h.each _ _ hg
  obtain ⟨k, g, hk, hgn, hgp, hix, -⟩ := cur_sg hok
  have hch := chP_at (F := ct 1) h2 hf hg
  rw [hch, ct_yes (by omega)]
  obtain ⟨y, hy⟩ : ∃ y, y = sg y0 pa := ⟨_, rfl⟩
  rw [← hy] at hg hn hok hk hgn hix ⊢
  have hsub := kTo_sub 1 y.now y.gens y.gens.length
  rw [List.take_length] at hsub
  have hasc : AdjG (kTo 1 y.now y.gens y.gens.length) := adjG_pw.2 ((adjG_pw.1 hok.asc).sublist hsub)
  have hmem := kTo_has (keep := 1) hk hgn y.gens.length (List.getElem?_eq_some_iff.1 hk).1
  obtain ⟨k', hk'⟩ := mem_at hmem
  have hix' : gIx (kTo 1 y.now y.gens y.gens.length) y.now = (k' : Int) := by have := hasc.ix hk'; rw [hgn] at this; exact this
  have hok' : POk ⟨y.name, y.now, kTo 1 y.now y.gens y.gens.length⟩ := by
    refine ⟨hok.name, Nat.le_trans hsub.length_le hok.few, hasc, fun j g' hj => ?_, .inr (by show 0 ≤ gIx (kTo 1 y.now y.gens y.gens.length) y.now; rw [hix']; omega)⟩
    obtain ⟨j', hj'⟩ := mem_at (hsub.subset (List.mem_of_getElem? hj))
    exact hok.gen j' g' hj'
  obtain ⟨h3, h4⟩ := h.cur_put hg hn hok' rfl
  refine ⟨rfl, h4.trans ?_, h3⟩
  rw [← hgp]
  exact cur_at hix' hk'

/-! How much there is, behind a change. -/

theorem sum_set {f : Pr → Nat} {ps : List Pr} {i : Nat} {x y : Pr} (hx : ps[i]? = some x) (d : Nat) (h : f y ≤ f x + d) : ((ps.set i y).map f).sum ≤ (ps.map f).sum + d := by
  induction ps generalizing i with
  | nil => simp at hx
  | cons a l ih =>
    cases i with
    | zero =>
      simp at hx
      subst hx
      simp only [List.set_cons_zero, List.map_cons, List.sum_cons]
      omega
    | succ i =>
      have := ih (i := i) (by simpa using hx)
      simp only [List.set_cons_succ, List.map_cons, List.sum_cons]
      omega
theorem wt_put {ps : List Pr} {i : Nat} {x y : Pr} (hx : ps[i]? = some x) (d : Nat) (h : wt1 y ≤ wt1 x + d) : wtP (ps.set i y) ≤ wtP ps + d := by
  unfold wtP wtSP
  rw [List.take_length, List.take_length, List.length_set]
  have := sum_set (f := wt1) hx d h
  omega
theorem chP_wt {F : Pr → Pr × Bool} (hF : ∀ x, wt1 (F x).1 ≤ wt1 x) (ps : List Pr) (q : List UInt8) : wtP (chP F ps q).1 ≤ wtP ps := by
  by_cases h : psB ps = true
  · rcases fIx_cases ps q with hf | ⟨i, x, hf, hx⟩
    · rw [chP_not h hf]; exact Nat.le_refl _
    · rw [chP_at h hf hx]; exact wt_put hx 0 (by have := hF x; omega)
  · rw [chP_bad (by simpa using h)]; simp [wtP, wtSP]
theorem sb_wt (x : Pr) : wt1 (sb x).1 ≤ wt1 x := by
  unfold sb
  split
  · exact Nat.le_refl _
  · exact Nat.le_refl _
theorem psOk_wt0 {ps : List Pr} (h : PsOk ps) : wtP ps ≤ 1000000 := by
  have h1 : ∀ x ∈ ps, wt1 x ≤ 60 + 50 + 50 * 74 := fun x hx => by
    obtain ⟨i, hi⟩ := mem_at hx
    have hk := h.each i x hi
    have h2 : wtS x.gens x.gens.length ≤ 50 * 74 := by
      unfold wtS
      rw [List.take_length]
      exact Nat.le_trans (sum_le _ 74 fun g hg => hk.path hg) (Nat.mul_le_mul_right _ hk.few)
    have := name_le hk.name
    have := hk.few
    unfold wt1 wtG
    omega
  have h2 := sum_le wt1 _ h1
  have h3 := h.few
  have h4 := Nat.mul_le_mul_right (60 + 50 + 50 * 74) h3
  unfold wtP wtSP
  rw [List.take_length]
  omega
theorem swP_wt0 {ps : List Pr} {q pa : ByteArray} (h : wtP ps ≤ 1000000) : wtP (swP ps q pa).1 ≤ 1000000 := by
  unfold swP
  split
  · split
    · rename_i h2
      exact psOk_wt0 (psB_iff.1 h2)
    · exact h
  · simp [wtP, wtSP]

end Go.Proofs.YtihjdggmmmlpkaaDoor.pf

namespace Go.Proofs.YtihjdggmmmlpkaaDoor.pf
open Go.ChangeShapes Go.WideShapes Go.ChangeAt Go.RowKit Go.Deep Go.Maps
open Go.Proofs.YtihjdggmmmlpkaaDoor.dr (Draws below_can once_can dpath_any dname_any tab_new)
set_option linter.unusedVariables false
set_option linter.unusedSimpArgs false

/-! ### FnRollBack: the draw of profiles -/

theorem OwP.draws {lo hi : Nat} {w w' : World} {b : Nat} {gs : Nat → Nat} {ps : List Pr} {c : Nat} {a : Option Addr} {n cap : Nat} (h : OwP lo hi w b gs ps) (d : Draws w w' c a n cap) (hc : c < lo) : OwP lo hi w' b gs ps :=
  h.kept d.grown.size fun k h1 h2 => d.grown.block k (by have := h.hi_le; omega) (by simp; omega)
theorem ResP.draws {lo : Nat} {w w' : World} {v : Value} {ps : List Pr} {c : Nat} {a : Option Addr} {n cap : Nat} (h : ResP lo w v ps) (d : Draws w w' c a n cap) (hc : c < lo) : ResP lo w' v ps := by
  obtain ⟨b, cp, gs, hv, ho⟩ := h
  exact ⟨b, cp, gs, hv, (ho.draws d hc).upper d.grown.size (Nat.le_refl _)⟩
theorem ResP.keep {lo lo' : Nat} {w w' : World} {v : Value} {ps : List Pr} (h : ResP lo w v ps) (hb : Below w.heap.size w w') (hl : lo' ≤ lo) : ResP lo' w' v ps := by
  obtain ⟨b, cp, gs, hv, ho⟩ := h
  exact ⟨b, cp, gs, hv, ((ho.below hb).upper hb.size (Nat.le_refl _)).lower hl⟩
theorem OwP.upd_name {lo hi : Nat} {w w' : World} {b : Nat} {gs : Nat → Nat} {ps : List Pr} {k : Nat} {x : Pr} {q : ByteArray} (h : OwP lo hi w b gs ps) (hx : ps[k]? = some x) (hb : Below w.heap.size w w') : OwP lo w'.heap.size (w'.setCell ⟨b, k * 3, none⟩ (.string q)) b gs (ps.set k ⟨q, x.now, x.gens⟩) := by
  have h' := h.below hb
  obtain ⟨c, e0, e1, e2, e3, e4⟩ := h'.ent k x hx
  obtain ⟨N, f, hN, hr⟩ := h'.row
  have hk := (List.getElem?_eq_some_iff.1 hx).1
  have hup := h'.upd (w' := w'.setCell ⟨b, k * 3, none⟩ (.string q)) (hi' := w'.heap.size) (g' := gs k) (c' := c) (x' := ⟨q, x.now, x.gens⟩) hx h'.hi_le (by simp)
    (fun j _ _ h3 _ => blk_oth h3) ⟨N, _, hN, hr.set (k * 3) _⟩ (fun o ho => oth (by omega)) (World.cell?_setCell_same _ _ _ e1) ((oth (by omega)).trans e2) ((oth (by omega)).trans e3) (e0.kept (blk_oth (h'.rng k hk).2.2))
    (e4.kept (blk_oth (h'.rng k hk).2.2)) (h'.rng k hk).1 (Nat.lt_of_lt_of_le (h'.rng k hk).2.1 h'.hi_le) (fun j hj hjk => by
      rcases Nat.lt_or_ge j k with h1 | h1
      · exact h'.inj j k h1 hk
      · exact fun e => h'.inj k j (by omega) hj e.symm)
  have hgs : (fun j => if j = k then gs k else gs j) = gs := by
    funext j
    by_cases hj : j = k
    · rw [if_pos hj, hj]
    · rw [if_neg hj]
  rw [hgs] at hup
  exact hup

theorem draws_mid {w W W' : World} {c : Nat} {a : Option Addr} {n cap : Nat} (h : Draws w W c a n cap) (hc : dr.Can w c a n cap) (hcw : c < w.heap.size) (hb : Below w.heap.size W W') : Draws w W' c a n cap := by
  have h1 := (hc.draws h).below (hb.mono (by omega))
  exact ⟨h1.code, h1.cur, ⟨hb.os.trans h.grown.os, hb.tape.trans h.grown.tape, hb.output.trans h.grown.output, Nat.le_trans h.grown.size hb.size, fun j hj hne => (hb.block j hj).trans (h.grown.block j hj hne)⟩⟩

/-- One more gen, in the row itself or in a new one. -/
structure AP (W : World) (g : Nat) (l : List Gn) (x : Gn) (g' c' : Nat) (W' : World) : Prop where
  own : OwG W' g' (l ++ [x])
  cap : GC W' g' (l.length + 1) c'
  at' : g' = g ∨ W.heap.size ≤ g'
  gr : W.grownBy W' (some g)

theorem ow_own {w : World} {g c lo : Nat} {l : List Gn} (h : OwG w g l) (hc : GC w g l.length c) (hlo : lo ≤ g) : w.ownsRow lo 59 2 (.slice (some ⟨g, 0, none⟩) l.length c) l.length (gnC l) := by
  obtain ⟨h1, h2, f, cur, hg, hcs, hcu⟩ := hc
  refine ⟨gnC_len l, .inr ⟨g, c, cur, rfl, hlo, hg, h1, h2, hcs, ?_⟩⟩
  have hn := ow_news h
  apply List.ext_getElem?
  intro j
  rcases Nat.lt_or_ge j (l.length * 2) with hj | hj
  · obtain ⟨u, hu⟩ : ∃ u, (gnC l)[j]? = some u := ⟨_, List.getElem?_eq_getElem (by rw [gnC_len]; exact hj)⟩
    have hcell := hn j u hu
    rw [addr_add, Nat.zero_add] at hcell
    rw [hu, List.getElem?_take_of_lt hj, Array.getElem?_toList]
    simpa [World.cell?, hg] using hcell
  · rw [List.getElem?_eq_none (by rw [List.length_take]; omega), List.getElem?_eq_none (by rw [gnC_len]; exact hj)]

theorem run_ap {W : World} {g c : Nat} {l : List Gn} (hg : OwG W g l) (hc : GC W g l.length c) (hl : l.length ≤ 1500000) (ty : TypeId) (ad : Addr) (x : Gn) (hnews : ∀ j u, [Value.int .i64 x.n, .string x.p][j]? = some u → W.cell? (ad.add j) = some u) :
    ∃ g' c' W', (Builtin.append_ #[38, 38] ty #[.slice (some ⟨g, 0, none⟩) l.length c, .slice (some ad) 1 1]).run Tryd.prog W = .ok (.slice (some ⟨g', 0, none⟩) (l.length + 1) c') W' ∧ AP W g l x g' c' W' := by
  obtain ⟨i, hi, hzz⟩ := Option.map_eq_some_iff.1 infoG
  simp only [Prod.mk.injEq] at hzz
  obtain ⟨hz, hsi, hb⟩ := hzz
  have e : gnC (l ++ [x]) = gnC l ++ [Value.int .i64 x.n, .string x.p] := by rw [gnC_app]; rfl
  have hl2 : (l ++ [x]).length = l.length + 1 := by simp
  rcases Nat.lt_or_ge c (l.length + 1) with h | h
  · obtain ⟨v', W', hrun, r1, r2⟩ := run_append_arg_grows (P := Tryd.prog) W 38 ty 59 i _ 2 24 Tryd.underlying38 hi hz hsi hb rfl (by decide) ⟨g, 0, none⟩ l.length c (gnC l) (gnC_len l) (ow_news hg) ad 1 1 [Value.int .i64 x.n, .string x.p] rfl hnews h (by unfold maxLen; omega) (by omega)
    obtain ⟨g', c', rfl⟩ : ∃ g' c', v' = .slice (some ⟨g', 0, none⟩) (l.length + 1) c' := by
      rcases r1.2 with ⟨h1, h0⟩ | ⟨g', c', cur, h1, _⟩
      · omega
      · exact ⟨g', c', h1⟩
    rw [← e] at r1
    obtain ⟨_, _, hlo, _⟩ := own_cells r1
    exact ⟨g', c', W', hrun, own_owG r1 hl2, own_gc r1 rfl, .inr hlo, ⟨r2.os, r2.tape, r2.output, r2.size, fun k hk _ => r2.block k hk (by simp)⟩⟩
  · obtain ⟨W', hrun, r1, r2⟩ := run_append_fits (P := Tryd.prog) W 0 38 ty 59 i 2 Tryd.underlying38 hi hsi g l.length c (gnC l) (ow_own hg hc (Nat.zero_le _)) ad 1 1 [Value.int .i64 x.n, .string x.p] rfl hnews (two_oneG _ _) h
    rw [← e] at r1
    exact ⟨g, c, W', hrun, own_owG r1 hl2, own_gc r1 rfl, .inl rfl, r2⟩

theorem ap_list (W : World) {ops : Array Oper} {rest : List Oper} {o : Oper} {a : Act} {Q : Exit → Act → World → Prop} (hgd : o.guard = none) (s y : Operand)
    (ho : o.op = .call { callee := .builtin .append, args := #[s, y], argTypes := #[38, 38] }) {g c : Nat} {l : List Gn} (hg : OwG W g l) (hc : GC W g l.length c) (hl : l.length ≤ 1500000) (hs : a.eval s = .slice (some ⟨g, 0, none⟩) l.length c)
    (ad : Addr) (x : Gn) (hx : a.eval y = .slice (some ad) 1 1) (hnews : ∀ j u, [Value.int .i64 x.n, .string x.p][j]? = some u → W.cell? (ad.add j) = some u)
    (h : ∀ g' c' W', AP W g l x g' c' W' → wpList Tryd.prog ops Q rest (a.put o.dst (.slice (some ⟨g', 0, none⟩) (l.length + 1) c')) W') : wpList Tryd.prog ops Q (o :: rest) a W := by
  obtain ⟨g', c', W', hr, hap⟩ := run_ap hg hc hl o.type ad x hnews
  exact wpList_plain hgd fun _ hK => by
    unfold Oper.wp execOp
    simp only [ho, resolve, invoke, builtin, Sem.run_bind, Sem.run_pure, Result.andThen_ok, List.map_toArray, List.map_cons, List.map_nil, hs, hx, hr]
    exact hK _ _ (h g' c' W' hap)
theorem ap_step {W : World} {ops : Array Oper} {o : Oper} {a : Act} {K : Act → World → Prop} {Q : Exit → Act → World → Prop} {Ex : Prop} (hgd : o.guard = none) (s y : Operand)
    (ho : o.op = .call { callee := .builtin .append, args := #[s, y], argTypes := #[38, 38] }) {g c : Nat} {l : List Gn} (hg : OwG W g l) (hc : GC W g l.length c) (hl : l.length ≤ 1500000) (hs : a.eval s = .slice (some ⟨g, 0, none⟩) l.length c)
    (ad : Addr) (x : Gn) (hx : a.eval y = .slice (some ad) 1 1) (hnews : ∀ j u, [Value.int .i64 x.n, .string x.p][j]? = some u → W.cell? (ad.add j) = some u)
    (h : ∀ g' c' W', AP W g l x g' c' W' → K (a.put o.dst (.slice (some ⟨g', 0, none⟩) (l.length + 1) c')) W') :
    if Region.wanted o (yielded ops a.tmps) = true then Oper.wp Tryd.prog o a W K Q else Ex := by
  have hw : Region.wanted o (yielded ops a.tmps) = true := by simp [Region.wanted, hgd]
  rw [if_pos hw]
  obtain ⟨g', c', W', hr, hap⟩ := run_ap hg hc hl o.type ad x hnews
  unfold Oper.wp
  simp [execOp, ho, resolve, invoke, builtin, hs, hx, hr, Result.andThen]
  exact h g' c' W' hap

theorem ap_fin {lo hi : Nat} {W W' : World} {b i g' c' : Nat} {gs : Nat → Nat} {ps : List Pr} {x : Pr} {y : Gn} (ho : OwP lo hi W b gs ps) (hx : ps[i]? = some x) (hap : AP W (gs i) x.gens y g' c' W') :
    (∃ gs', OwP lo (W'.setCell ⟨b, i * 3 + 2, none⟩ (.slice (some ⟨g', 0, none⟩) (x.gens.length + 1) c')).heap.size (W'.setCell ⟨b, i * 3 + 2, none⟩ (.slice (some ⟨g', 0, none⟩) (x.gens.length + 1) c')) b gs' (ps.set i ⟨x.name, x.now, x.gens ++ [y]⟩)) ∧ Below lo W (W'.setCell ⟨b, i * 3 + 2, none⟩ (.slice (some ⟨g', 0, none⟩) (x.gens.length + 1) c')) := by
  have hi' := (List.getElem?_eq_some_iff.1 hx).1
  obtain ⟨r1, r2, r3⟩ := ho.rng i hi'
  have hbw := ho.blk_lt
  have hhi := ho.hi_le
  have hblo := ho.blo
  have hb' : W'.heap[b]? = W.heap[b]? := hap.gr.block b hbw (by simp; exact fun e => r3 e.symm)
  have hcb : ∀ o, W'.cell? ⟨b, o, none⟩ = W.cell? ⟨b, o, none⟩ := fun o => World.cell?_of_block (a := ⟨b, o, none⟩) hb'
  obtain ⟨c0, e0, e1, e2, e3, e4⟩ := ho.ent i x hx
  obtain ⟨N, f, hN, hr⟩ := ho.row
  have hgb : g' ≠ b := by rcases hap.at' with h | h <;> omega
  have hlen : (x.gens ++ [y]).length = x.gens.length + 1 := by simp
  refine ⟨⟨_, OwP.upd (g' := g') (c' := c') (x' := ⟨x.name, x.now, x.gens ++ [y]⟩) ho hx (by simp; have := hap.gr.size; omega) (Nat.le_refl _) (fun j h1 h2 h3 h4 => ?_) ⟨N, _, hN, (hr.of_block hb').set (i * 3 + 2) _⟩ (fun o h3 => ?_) ?_ ?_ ?_ ?_ ?_ ?_ ?_ ?_⟩, ?_⟩
  · rw [blk_oth h3]
    exact hap.gr.block j (by omega) (by simp; exact h4)
  · rw [oth (by omega), hcb]
  · rw [oth (by omega), hcb]; exact e1
  · rw [oth (by omega), hcb]; exact e2
  · show _ = some (Value.slice _ (x.gens ++ [y]).length _)
    rw [hlen]
    exact World.cell?_setCell_same _ _ _ ((hcb _).trans e3)
  · show GC _ _ (x.gens ++ [y]).length _
    rw [hlen]
    exact hap.cap.kept (blk_oth hgb)
  · exact hap.own.kept (blk_oth hgb)
  · rcases hap.at' with h | h <;> omega
  · simp; exact hap.own.lt
  · intro j hj hji e
    rcases hap.at' with h | h
    · rw [h] at e
      rcases Nat.lt_or_ge j i with h1 | h1
      · exact ho.inj j i h1 hi' e
      · exact ho.inj i j (by omega) hj e.symm
    · have := (ho.rng j hj).2.1; omega
  · exact ⟨hap.gr.os, hap.gr.tape, hap.gr.output, by simp; exact hap.gr.size, fun k hk => by rw [blk_oth (by omega)]; exact hap.gr.block k (by omega) (by simp; omega)⟩

theorem wt1_nm (x : Pr) : wt1 ⟨⟨#[]⟩, x.now, x.gens⟩ ≤ wt1 x + 0 := by unfold wt1; exact Nat.add_le_add_right (Nat.zero_le _) _
theorem wt1_ap (x : Pr) (y : Gn) (h : y.p.size ≤ 100) : wt1 ⟨x.name, x.now, x.gens ++ [y]⟩ ≤ wt1 x + 101 := by
  unfold wt1 wtG wtS
  rw [List.take_length, List.take_length, List.map_append, List.sum_append, List.length_append]
  simp only [List.map_cons, List.map_nil, List.sum_cons, List.sum_nil, List.length_cons, List.length_nil]
  omega

/-- What stays as it was while a gen is drawn. -/
structure ZR (w w4 W : World) (hi b g : Nat) (gs : Nat → Nat) (ps : List Pr) (c : Nat) (a : Option Addr) (n cap : Nat) : Prop where
  own : OwP w.heap.size hi W b gs ps
  dr : Draws w W c a n cap
  bb : W.heap[b]? = w4.heap[b]?
  gg : W.heap[g]? = w4.heap[g]?
theorem ZR.below {w w4 W W' : World} {hi b g : Nat} {gs : Nat → Nat} {ps : List Pr} {c : Nat} {a : Option Addr} {n cap : Nat} (h : ZR w w4 W hi b g gs ps c a n cap) (hc : dr.Can w c a n cap) (hcw : c < w.heap.size) (hg : g < hi) (hb : Below W.heap.size W W') : ZR w w4 W' hi b g gs ps c a n cap :=
  ⟨h.own.below hb, h.dr.below hc hcw hb, (hb.block b h.own.blk_lt).trans h.bb, (hb.block g (by have := h.own.hi_le; omega)).trans h.gg⟩
theorem ZR.draws {w w4 W W' : World} {hi b g : Nat} {gs : Nat → Nat} {ps : List Pr} {c : Nat} {a : Option Addr} {n cap : Nat} (h : ZR w w4 W hi b g gs ps c a n cap) (hcw : c < w.heap.size) (hg : g < hi) (hl : w.heap.size ≤ g) (hd : Draws W W' c a n cap) : ZR w w4 W' hi b g gs ps c a n cap :=
  ⟨h.own.draws hd hcw, h.dr.trans hd, (hd.grown.block b h.own.blk_lt (by have := h.own.blo; simp; omega)).trans h.bb, (hd.grown.block g (by have := h.own.hi_le; omega) (by simp; omega)).trans h.gg⟩

end Go.Proofs.YtihjdggmmmlpkaaDoor.pf

namespace Go.Proofs.YtihjdggmmmlpkaaDoor.pf
open Go.ChangeShapes Go.WideShapes Go.ChangeAt Go.RowKit Go.Deep Go.Maps
open Go.Proofs.YtihjdggmmmlpkaaDoor.dr (Draws below_can once_can dpath_any dname_any tab_new)
set_option linter.unusedVariables false
set_option linter.unusedSimpArgs false

/-- Between two draws. -/
def Dr (w wr : World) (c : Nat) (a : Option Addr) (n cap : Nat) (v : Value) (ps : List Pr) : Prop := ResP w.heap.size wr v ps ∧ wtP ps ≤ 1000000 ∧ Draws w wr c a n cap

set_option maxHeartbeats 8000000 in
set_option maxRecDepth 100000 in
theorem d13_any {w : World} {c : Nat} {a : Option Addr} {n cap : Nat} (hc : dr.Can w c a n cap) (hcw : c < w.heap.size) :
    Calls Tryd.prog 23 #[.pointer (some ⟨c, 0, none⟩)] w fun e w' => ∃ v ps, e = .returned v ∧ ResP w.heap.size w' v ps ∧ wtP ps ≤ 1001000 ∧ Draws w w' c a n cap := by
  have HR0 : Hid (ResP w.heap.size (w.alloc (.cells #[] 40)) (.slice (some ⟨w.heap.size, 0, none⟩) 0 0) []) := resP_nil (Nat.le_refl _)
  go_enter Tryd.func23, Tryd.ntmps23
  go_wp2_with (go_at_call 26; refine (below_can (hc.draws (hc.refl.alloc hc hcw _)) 10 (by decide) (by decide)).mono ?_; rintro e w1 ⟨x1, rfl, hx1, d1⟩; refine Hid.out ?_)
  refine Lib.hid ?_
  have HD1 : Hid (Dr w w1 c a n cap (.slice (some ⟨w.heap.size, 0, none⟩) 0 0) []) := ⟨HR0.out.draws d1 hcw, by simp [wtP, wtSP], (hc.refl.alloc hc hcw _).trans d1⟩
  clear d1 HR0
  go_wp2_with fail
  go_loopw [3, 4] (fun v i wr => ∃ (j : Nat) (ps : List Pr), i = .int .i64 (j : Int) ∧ j ≤ 10 ∧ Dr w wr c a n cap v ps) (fun _ i _ => (intOf i).toNat)
  case atStart => exact ⟨x1, [], rfl, by omega, HD1.out⟩
  case round =>
    obtain ⟨j, ps, rfl, hj, ⟨b, cp, gs, rfl, ho⟩, hwt, hd⟩ := hrel
    have hws := hd.grown.size
    have HWT : Hid (wtP ps ≤ 1000000) := hwt
    have HO : Hid (OwP w.heap.size wr.heap.size wr b gs ps) := ho
    have HD : Hid (Draws w wr c a n cap) := hd
    have hn20 : ps.length ≤ 1000000 := by have := wt_len ps; omega
    clear hwt ho HD1
    by_cases hlt : 0 < j
    · have hlt' : 0 < (j : Int) := by omega
      go_wp2_with (go_at_call 26; refine (below_can (hc.draws (hd.alloc hc hcw _)) 3 (by decide) (by decide)).mono ?_; rintro e w2 ⟨x2, rfl, hx2, d2⟩; refine Hid.out ?_)
      refine Lib.hid ?_
      have HD2 : Hid (Draws w w2 c a n cap) := (hd.alloc hc hcw _).trans d2
      have HO2 : Hid (OwP w.heap.size wr.heap.size w2 b gs ps) := (HO.out.below ((Below.refl _ _).alloc (Nat.le_refl _) _)).draws d2 hcw
      obtain ⟨y, hy, hcy⟩ := (tab_new wr _ 3 rfl (by kernel_rfl)).draws d2 (by omega) x2 hx2
      have hx2' : (x2 : Int) < 3 := by omega
      clear d2 hd
      go_wp2_with (go_at_call 26; refine (below_can (hc.draws HD2.out) 8 (by decide) (by decide)).mono ?_; rintro e w3 ⟨x3, rfl, hx3, d3⟩; refine Hid.out ?_)
      refine Lib.hid ?_
      have HD3 : Hid (Draws w w3 c a n cap) := HD2.out.trans d3
      have HO3 : Hid (OwP w.heap.size wr.heap.size w3 b gs ps) := HO2.out.draws d3 hcw
      clear d3 hcy HD2 HO2
      go_wp2_with (go_at_call 25; refine (dpath_any x3 (by omega) _).mono ?_; rintro e w4 ⟨pa, rfl, hpa, b4⟩; refine Hid.out ?_)
      refine Lib.hid ?_
      have HD4 : Hid (Draws w w4 c a n cap) := HD3.out.below hc hcw b4
      have HO4 : Hid (OwP w.heap.size wr.heap.size w4 b gs ps) := HO3.out.below b4
      clear b4 HD3 HO3
      have HSW : Hid (Calls Tryd.prog 9 #[.slice (some ⟨b, 0, none⟩) ps.length cp, .string y, .string pa] w4 fun e w' => (∃ v, e = .returned (.tuple #[v, .bool (swP ps y pa).2]) ∧ ResP w4.heap.size w' v (swP ps y pa).1) ∧ Below w4.heap.size w4 w') := ssw_any _ _ b cp gs ps y pa w4 HO4.out (by have := HWT.out; omega) (by omega) (by omega)
      go_wp2_with (go_at_call 9; refine HSW.out.mono ?_; rintro e w5 ⟨⟨v5, rfl, hr5⟩, b5⟩; refine Hid.out ?_)
      refine Lib.hid ?_
      have HD5 : Hid (Draws w w5 c a n cap) := HD4.out.below hc hcw b5
      have HO5 : Hid (OwP w.heap.size wr.heap.size w5 b gs ps) := HO4.out.below b5
      have HR5 : Hid (ResP w.heap.size w5 v5 (swP ps y pa).1 ∧ wtP (swP ps y pa).1 ≤ 1000000) := ⟨hr5.keep (Below.refl _ _) HD4.out.grown.size, swP_wt0 HWT.out⟩
      obtain ⟨r5, hr⟩ : ∃ r, (swP ps y pa).2 = r := ⟨_, rfl⟩
      obtain ⟨p5, hp5⟩ : ∃ r, (swP ps y pa).1 = r := ⟨_, rfl⟩
      rw [hr]
      rw [hp5] at HR5
      clear b5 HD4 HO4 HSW hr5 hr hp5
      go_wp2_with (go_at_call 26; refine (below_can (hc.draws HD5.out) 5 (by decide) (by decide)).mono ?_; rintro e w6 ⟨x6, rfl, hx6, d6⟩; refine Hid.out ?_)
      refine Lib.hid ?_
      have HD6 : Hid (Draws w w6 c a n cap) := HD5.out.trans d6
      have HO6 : Hid (OwP w.heap.size wr.heap.size w6 b gs ps) := HO5.out.draws d6 hcw
      have HR6 : Hid (ResP w.heap.size w6 v5 p5 ∧ wtP p5 ≤ 1000000) := ⟨HR5.out.1.draws d6 hcw, HR5.out.2⟩
      clear d6 HD5 HO5 HR5
      have HPS : Hid (∀ (W : World), OwP w.heap.size wr.heap.size W b gs ps → Draws w W c a n cap → Dr w W c a n cap (.slice (some ⟨b, 0, none⟩) ps.length cp) ps) := fun W h1 h2 => ⟨resP_of (h1.upper (by have := h1.hi_le; omega) (Nat.le_refl _)) rfl, HWT.out, h2⟩
      by_cases hz0 : x6 = 0
      · subst hz0
        have HRB : Hid (Calls Tryd.prog 53 #[.slice (some ⟨b, 0, none⟩) ps.length cp, .string y] w6 fun e w' => (∃ v, e = .returned (.tuple #[v, .bool (chP sb ps y.data.toList).2]) ∧ ResP w6.heap.size w' v (chP sb ps y.data.toList).1) ∧ Below w6.heap.size w6 w') := srb_any _ _ b cp gs ps y w6 HO6.out (by have := HWT.out; omega)
        clear HR6
        go_wp2_with (go_at_call 53; refine HRB.out.mono ?_; rintro e w7 ⟨⟨v7, rfl, hr7⟩, b7⟩; refine Hid.out ?_)
        refine Lib.hid ?_
        have HD7 : Hid (Draws w w7 c a n cap) := HD6.out.below hc hcw b7
        have HO7 : Hid (OwP w.heap.size wr.heap.size w7 b gs ps) := HO6.out.below b7
        have HR7 : Hid (Dr w w7 c a n cap v7 (chP sb ps y.data.toList).1) := ⟨hr7.keep (Below.refl _ _) HD6.out.grown.size, Nat.le_trans (chP_wt sb_wt _ _) HWT.out, HD7.out⟩
        obtain ⟨r7, hr⟩ : ∃ r, (chP sb ps y.data.toList).2 = r := ⟨_, rfl⟩
        rw [hr]
        clear b7 HD6 HO6 HRB hr7 hr
        cases r7
        · go_wp2
          go_roundw
          case rel => exact ⟨j - 1, ps, by go_num, by omega, HPS.out _ HO7.out HD7.out⟩
          case measure => simp [intOf]; omega
        · go_wp2
          go_roundw
          case rel => exact ⟨j - 1, _, by go_num, by omega, HR7.out⟩
          case measure => simp [intOf]; omega
      · by_cases hz1 : x6 = 1
        · subst hz1
          clear HR6
          go_wp2_with (go_at_call 26; refine (below_can (hc.draws HD6.out) 3 (by decide) (by decide)).mono ?_; rintro e w7 ⟨x7, rfl, hx7, d7⟩; refine Hid.out ?_)
          refine Lib.hid ?_
          have HD7 : Hid (Draws w w7 c a n cap) := HD6.out.trans d7
          have HO7 : Hid (OwP w.heap.size wr.heap.size w7 b gs ps) := HO6.out.draws d7 hcw
          clear d7 HD6 HO6
          have HPR : Hid (Calls Tryd.prog 54 #[.slice (some ⟨b, 0, none⟩) ps.length cp, .string y, .int .i64 (x7 : Int)] w7 fun e w' => (∃ v, e = .returned (.tuple #[v, .bool (chP (ct (x7 : Int)) ps y.data.toList).2]) ∧ ResP w7.heap.size w' v (chP (ct (x7 : Int)) ps y.data.toList).1) ∧ Below w7.heap.size w7 w') := spr_any _ _ b cp gs ps y (x7 : Int) w7 HO7.out (by have := HWT.out; omega) (by omega)
          go_wp2_with (go_at_call 54; refine HPR.out.mono ?_; rintro e w8 ⟨⟨v8, rfl, hr8⟩, b8⟩; refine Hid.out ?_)
          refine Lib.hid ?_
          have HD8 : Hid (Draws w w8 c a n cap) := HD7.out.below hc hcw b8
          have HO8 : Hid (OwP w.heap.size wr.heap.size w8 b gs ps) := HO7.out.below b8
          have HR8 : Hid (Dr w w8 c a n cap v8 (chP (ct (x7 : Int)) ps y.data.toList).1) := ⟨hr8.keep (Below.refl _ _) HD7.out.grown.size, Nat.le_trans (chP_wt (ct_wt _) _ _) HWT.out, HD8.out⟩
          obtain ⟨r8, hr⟩ : ∃ r, (chP (ct (x7 : Int)) ps y.data.toList).2 = r := ⟨_, rfl⟩
          rw [hr]
          clear b8 HD7 HO7 HPR hr8 hr
          cases r8
          · go_wp2
            go_roundw
            case rel => exact ⟨j - 1, ps, by go_num, by omega, HPS.out _ HO8.out HD8.out⟩
            case measure => simp [intOf]; omega
          · go_wp2
            go_roundw
            case rel => exact ⟨j - 1, _, by go_num, by omega, HR8.out⟩
            case measure => simp [intOf]; omega
        · have hz0' : ¬ (x6 : Int) = 0 := by omega
          have hz1' : ¬ (x6 : Int) = 1 := by omega
          cases r5
          · go_wp2
            go_roundw
            case rel => exact ⟨j - 1, ps, by go_num, by omega, HPS.out _ HO6.out HD6.out⟩
            case measure => simp [intOf]; omega
          · go_wp2
            go_roundw
            case rel => exact ⟨j - 1, p5, by go_num, by omega, HR6.out.1, HR6.out.2, HD6.out⟩
            case measure => simp [intOf]; omega
    · obtain rfl : j = 0 := by omega
      go_wp2_with (go_at_call 27; refine (once_can (hc.draws hd) 12 (by decide) (by decide)).mono ?_; rintro e w2 ⟨o2, rfl, d2⟩; refine Hid.out ?_)
      refine Lib.hid ?_
      have HD2 : Hid (Draws w w2 c a n cap) := HD.out.trans d2
      have HO2 : Hid (OwP w.heap.size wr.heap.size w2 b gs ps) := HO.out.draws d2 hcw
      have HPS : Hid (∀ (W : World), OwP w.heap.size wr.heap.size W b gs ps → Draws w W c a n cap → ∃ v' ps', Ending.returned (.slice (some ⟨b, 0, none⟩) ps.length cp) = .returned v' ∧ ResP w.heap.size W v' ps' ∧ wtP ps' ≤ 1001000 ∧ Draws w W c a n cap) := fun W h1 h2 => ⟨_, ps, rfl, resP_of (h1.upper (by have := h1.hi_le; omega) (Nat.le_refl _)) rfl, by have := HWT.out; omega, h2⟩
      clear d2 hd HD HO
      cases o2
      · go_wp2
        go_ret
        exact HPS.out _ HO2.out HD2.out
      · by_cases h0 : 0 < ps.length
        · have h0' : 0 < (ps.length : Int) := by omega
          go_wp2_with (go_at_call 26; refine (below_can (hc.draws HD2.out) ps.length (by omega) (by omega)).mono ?_; rintro e w3 ⟨i, rfl, hi, d3⟩; refine Hid.out ?_)
          refine Lib.hid ?_
          have HD3 : Hid (Draws w w3 c a n cap) := HD2.out.trans d3
          have HO3 : Hid (OwP w.heap.size wr.heap.size w3 b gs ps) := HO2.out.draws d3 hcw
          have hi' : (i : Int) < (ps.length : Int) := by omega
          clear d3 HD2 HO2
          go_wp2_with (go_at_call 26; refine (below_can (hc.draws HD3.out) 4 (by decide) (by decide)).mono ?_; rintro e w4 ⟨x4, rfl, hx4, d4⟩; refine Hid.out ?_)
          refine Lib.hid ?_
          have HD4 : Hid (Draws w w4 c a n cap) := HD3.out.trans d4
          have HO4 : Hid (OwP w.heap.size wr.heap.size w4 b gs ps) := HO3.out.draws d4 hcw
          clear d4 HD3 HO3
          obtain ⟨x, hx⟩ : ∃ x, ps[i]? = some x := ⟨_, List.getElem?_eq_getElem hi⟩
          have HX : Hid (ps[i]? = some x) := hx
          obtain ⟨cg, e0, e1, e2, e3, e4⟩ := HO4.out.ent i x hx
          have HFZ : Hid (∀ (W : World) (o : Nat), OwP w.heap.size wr.heap.size W b gs ps → W.frozen? ⟨b, o, none⟩ = false) := fun W o h => by
            obtain ⟨N, f, hN, hr⟩ := h.row
            exact hr.frozen _
          have hwx : wt1 x ≤ 1000000 := by have := wt_mem (List.mem_of_getElem? hx); have := HWT.out; omega
          have hgl : x.gens.length ≤ 1000000 := by unfold wt1 wtG at hwx; omega
          have HAP : Hid (∀ (W W' : World) (g' c' : Nat) (y : Gn), OwP w.heap.size wr.heap.size W b gs ps → Draws w W c a n cap → y.p.size ≤ 100 → AP W (gs i) x.gens y g' c' W' → ∃ v' ps', Ending.returned (.slice (some ⟨b, 0, none⟩) ps.length cp) = .returned v' ∧ ResP w.heap.size (W'.setCell ⟨b, i * 3 + 2, none⟩ (.slice (some ⟨g', 0, none⟩) (x.gens.length + 1) c')) v' ps' ∧ wtP ps' ≤ 1001000 ∧ Draws w (W'.setCell ⟨b, i * 3 + 2, none⟩ (.slice (some ⟨g', 0, none⟩) (x.gens.length + 1) c')) c a n cap) := fun W W' g' c' y h1 h2 h3 hap => by
            obtain ⟨⟨gs', hf⟩, hb⟩ := ap_fin h1 HX.out hap
            refine ⟨_, _, rfl, resP_of (c := cp) hf (by rw [List.length_set]), ?_, draws_mid h2 hc hcw hb⟩
            have := wt_put (y := ⟨x.name, x.now, x.gens ++ [y]⟩) HX.out 101 (wt1_ap x y h3)
            have := HWT.out
            omega
          rcases (show x4 = 0 ∨ x4 = 1 ∨ x4 = 2 ∨ x4 = 3 by omega) with rfl | rfl | rfl | rfl
          · have HF : Hid (∀ z : Int, ∃ v' ps', Ending.returned (.slice (some ⟨b, 0, none⟩) ps.length cp) = .returned v' ∧ ResP w.heap.size (w4.setCell ⟨b, i * 3 + 1, none⟩ (.int .i64 z)) v' ps' ∧ wtP ps' ≤ 1001000 ∧ Draws w (w4.setCell ⟨b, i * 3 + 1, none⟩ (.int .i64 z)) c a n cap) := fun z => by
              refine ⟨_, _, rfl, resP_of (c := cp) (by have := HO4.out.upd_now (z := z) HX.out (Below.refl _ _); simpa using this) (by rw [List.length_set]), ?_, draws_mid HD4.out hc hcw ((Below.refl _ _).setCell HO4.out.blo _)⟩
              have := wt_put (y := ⟨x.name, z, x.gens⟩) HX.out 0 (Nat.le_refl _)
              have := HWT.out
              omega
            have f2 := HFZ.out w4 (i * 3 + 1) HO4.out
            clear e0 e1 e3 e4 hx
            go_wp2
            go_ret
            exact HF.out _
          · have HF : Hid (∃ v' ps', Ending.returned (.slice (some ⟨b, 0, none⟩) ps.length cp) = .returned v' ∧ ResP w.heap.size (w4.setCell ⟨b, i * 3, none⟩ (.string ⟨#[]⟩)) v' ps' ∧ wtP ps' ≤ 1001000 ∧ Draws w (w4.setCell ⟨b, i * 3, none⟩ (.string ⟨#[]⟩)) c a n cap) := by
              refine ⟨_, _, rfl, resP_of (c := cp) (by have := HO4.out.upd_name (q := ⟨#[]⟩) HX.out (Below.refl _ _); simpa using this) (by rw [List.length_set]), ?_, draws_mid HD4.out hc hcw ((Below.refl _ _).setCell HO4.out.blo _)⟩
              have := wt_put (y := ⟨⟨#[]⟩, x.now, x.gens⟩) HX.out 0 (wt1_nm x)
              have := HWT.out
              omega
            have f2 := HFZ.out w4 (i * 3) HO4.out
            clear e0 e2 e3 e4 hx
            go_wp2
            go_ret
            exact HF.out
          · have hgr := HO4.out.rng i hi
            obtain ⟨A, hA⟩ : ∃ A, x.name = A := ⟨_, rfl⟩
            rw [hA] at e1
            have HZ0 : Hid (ZR w w4 w4.drew wr.heap.size b (gs i) gs ps c a n cap) := (ZR.mk HO4.out HD4.out rfl rfl).below hc hcw hgr.2.1 (Below.refl _ _).drew
            have HF : Hid (∀ W, ZR w w4 W wr.heap.size b (gs i) gs ps c a n cap → (W.cell? ⟨b, i * 3, none⟩ = some (.string A) ∧ W.cell? ⟨b, i * 3 + 2, none⟩ = some (.slice (some ⟨gs i, 0, none⟩) x.gens.length cg)) ∧ (OwG W (gs i) x.gens ∧ GC W (gs i) x.gens.length cg) ∧ W.frozen? ⟨b, i * 3 + 2, none⟩ = false) := fun W h =>
              ⟨⟨(World.cell?_of_block (a := ⟨b, i * 3, none⟩) h.bb).trans e1, (World.cell?_of_block (a := ⟨b, i * 3 + 2, none⟩) h.bb).trans e3⟩, ⟨e4.kept h.gg, e0.kept h.gg⟩, HFZ.out W _ h.own⟩
            have HZB : Hid (∀ W W', ZR w w4 W wr.heap.size b (gs i) gs ps c a n cap → Below W.heap.size W W' → ZR w w4 W' wr.heap.size b (gs i) gs ps c a n cap) := fun W W' h hb => h.below hc hcw hgr.2.1 hb
            have HZD : Hid (∀ W W', ZR w w4 W wr.heap.size b (gs i) gs ps c a n cap → Draws W W' c a n cap → ZR w w4 W' wr.heap.size b (gs i) gs ps c a n cap) := fun W W' h hd => h.draws hcw hgr.2.1 hgr.1 hd
            have HS7 : Hid (∀ (W W' : World) (g' c' : Nat) (y : Gn), ZR w w4 W wr.heap.size b (gs i) gs ps c a n cap → AP W (gs i) x.gens y g' c' W' → W'.cell? ⟨b, i * 3, none⟩ = some (.string A) ∧ W'.cell? ⟨b, i * 3 + 2, none⟩ = some (.slice (some ⟨gs i, 0, none⟩) x.gens.length cg) ∧ W'.frozen? ⟨b, i * 3 + 2, none⟩ = false) := fun W W' g' c' y hz hap => by
              have hbk : W'.heap[b]? = W.heap[b]? := hap.gr.block b hz.own.blk_lt (by simp; exact fun e => hgr.2.2 e.symm)
              have := HF.out W hz
              exact ⟨(World.cell?_of_block (a := ⟨b, i * 3, none⟩) hbk).trans this.1.1, (World.cell?_of_block (a := ⟨b, i * 3 + 2, none⟩) hbk).trans this.1.2, (World.frozen?_of_block (a := ⟨b, i * 3 + 2, none⟩) hbk).trans this.2.2⟩
            have HB2 : Hid (∀ W, ZR w w4 W wr.heap.size b (gs i) gs ps c a n cap → Calls Tryd.prog 26 #[.pointer (some ⟨c, 0, none⟩), .int .i64 2] W fun e w' => ∃ x : Nat, e = .returned (.int .i64 (x : Int)) ∧ x < 2 ∧ Draws W w' c a n cap) := fun W h => below_can (hc.draws h.dr) 2 (by decide) (by decide)
            have HDP : Hid (∀ W, Calls Tryd.prog 25 #[.int .i64 1] W fun e w' => ∃ s : ByteArray, e = .returned (.string s) ∧ s.size ≤ 100 ∧ Below W.heap.size W w') := fun W => dpath_any 1 (by decide) W
            have D0 := HF.out _ HZ0.out
            clear e0 e1 e2 e3 e4 hx hA hwx hgr HFZ
            go_wp2_with fail
            refine wq 15 (S := fun W => W.cell? ⟨b, i * 3, none⟩ = some (.string A)) (by kernel_rfl) D0.1.1 fun hHeld => ?_
            refine uq (i := 0) rfl ?_
            try simp only [aP]
            refine uq (i := 1) rfl ?_
            try simp only [aP]
            refine uq (i := 2) rfl ?_
            try simp only [aP]
            refine uq (i := 3) rfl ?_
            try simp only [aP]
            refine uq (i := 5) rfl ?_
            try simp only [aP]
            refine wpAnyH_ready (rs := [4, 6]) (by kernel_rfl) (by simp) ?_
            refine cq rfl (fun K hK => ?_) (cq rfl (fun K hK => ?_) AllReadyH.nil)
            · have d3 := D0.1.2
              go_simp
              try go_wp2_with fail
              refine hK.out _ _ D0.1.1 (fun hHeld => ?_)
              clear hK K d3
              try simp only [aP]
              refine wpAnyH_ready (rs := [6]) (by kernel_rfl) (by simp) ?_
              refine cq rfl (fun K hK => ?_) AllReadyH.nil
              go_simp
              (go_at_call 26; refine (HB2.out _ HZ0.out).mono ?_; rintro e w5 ⟨x5, rfl, hx5, d5⟩)
              try go_wp2_with fail
              have HZ5 := Lib.hid (HZD.out _ _ HZ0.out d5)
              have D5 := HF.out _ HZ5.out
              have hv5 : IntKind.i64.wrap (9007199254740992 + (x5 : Int)) = 9007199254740992 + (x5 : Int) := by rw [IntKind.wrap_i64]; omega
              refine hK.out _ _ D5.1.1 (fun hHeld => ?_)
              clear hK K d5
              try simp only [aP]
              refine uq (i := 7) rfl ?_
              try simp only [aP]
              refine wpAnyH_ready (rs := [8]) (by kernel_rfl) (by simp) ?_
              refine cq rfl (fun K hK => ?_) AllReadyH.nil
              go_simp
              (go_at_call 25; refine (HDP.out _).mono ?_; rintro e w6 ⟨p6, rfl, hp6, b6⟩)
              try go_wp2_with fail
              have HZ6 := Lib.hid (HZB.out _ _ HZ5.out b6)
              have D6 := HF.out _ HZ6.out
              refine hK.out _ _ D6.1.1 (fun hHeld => ?_)
              clear hK K b6
              try simp only [aP]
              refine uq (i := 9) rfl ?_
              try simp only [aP]
              refine wpAnyH_ready (rs := [10]) (by kernel_rfl) (by simp) ?_
              refine cq rfl (fun K hK => ?_) AllReadyH.nil
              have HZ7 := Lib.hid (HZB.out _ _ HZ6.out ((Below.refl _ w6).alloc (Nat.le_refl _) (.cells #[.int .i64 (9007199254740992 + (x5 : Int)), .string p6] 59)))
              have D7 := HF.out _ HZ7.out
              go_simp
              try go_wp2_with fail
              refine hK.out _ _ D7.1.1 (fun hHeld => ?_)
              clear hK K
              try simp only [aP]
              refine rq 11 rfl fun K hK => ?_
              refine ap_step (by rfl) _ _ (by rfl) D7.2.1.1 D7.2.1.2 (by omega) (by rfl) ⟨w6.heap.size, 0, none⟩ ⟨9007199254740992 + (x5 : Int), p6⟩ (by rfl) (cells_new w6 _ rfl _ [.int .i64 (9007199254740992 + (x5 : Int)), .string p6]) ?_
              intro g' c' w8 hap
              obtain ⟨k0, k1, k2⟩ := HS7.out _ _ _ _ _ HZ7.out hap
              have HFF := Lib.hid (HAP.out _ _ _ _ _ HZ7.out.own HZ7.out.dr hp6 hap)
              refine hK.out _ _ k0 (fun hHeld => ?_)
              clear hK K hap
              try simp only [aP]
              refine uq (i := 12) rfl ?_
              try simp only [aP]
              refine uq (i := 13) rfl ?_
              try simp only [aP]
              refine rq 14 rfl fun K hK => ?_
              go_simp
              try go_wp2_with fail
              refine hK.out _ _ ((oth (by omega)).trans k0) (fun hHeld => ?_)
              clear hK K
              try simp only [aP]
              refine dq ?_
              go_wp2
              go_ret
              exact HFF.out

            · go_simp
              (go_at_call 26; refine (HB2.out _ HZ0.out).mono ?_; rintro e w5 ⟨x5, rfl, hx5, d5⟩)
              try go_wp2_with fail
              have HZ5 := Lib.hid (HZD.out _ _ HZ0.out d5)
              have D5 := HF.out _ HZ5.out
              have hv5 : IntKind.i64.wrap (9007199254740992 + (x5 : Int)) = 9007199254740992 + (x5 : Int) := by rw [IntKind.wrap_i64]; omega
              refine hK.out _ _ D5.1.1 (fun hHeld => ?_)
              clear hK K d5
              try simp only [aP]
              refine uq (i := 7) rfl ?_
              try simp only [aP]
              refine wpAnyH_ready (rs := [4, 8]) (by kernel_rfl) (by simp) ?_
              refine cq rfl (fun K hK => ?_) (cq rfl (fun K hK => ?_) AllReadyH.nil)
              · have d3 := D5.1.2
                go_simp
                try go_wp2_with fail
                refine hK.out _ _ D5.1.1 (fun hHeld => ?_)
                clear hK K d3
                try simp only [aP]
                refine wpAnyH_ready (rs := [8]) (by kernel_rfl) (by simp) ?_
                refine cq rfl (fun K hK => ?_) AllReadyH.nil
                go_simp
                (go_at_call 25; refine (HDP.out _).mono ?_; rintro e w6 ⟨p6, rfl, hp6, b6⟩)
                try go_wp2_with fail
                have HZ6 := Lib.hid (HZB.out _ _ HZ5.out b6)
                have D6 := HF.out _ HZ6.out
                refine hK.out _ _ D6.1.1 (fun hHeld => ?_)
                clear hK K b6
                try simp only [aP]
                refine uq (i := 9) rfl ?_
                try simp only [aP]
                refine wpAnyH_ready (rs := [10]) (by kernel_rfl) (by simp) ?_
                refine cq rfl (fun K hK => ?_) AllReadyH.nil
                have HZ7 := Lib.hid (HZB.out _ _ HZ6.out ((Below.refl _ w6).alloc (Nat.le_refl _) (.cells #[.int .i64 (9007199254740992 + (x5 : Int)), .string p6] 59)))
                have D7 := HF.out _ HZ7.out
                go_simp
                try go_wp2_with fail
                refine hK.out _ _ D7.1.1 (fun hHeld => ?_)
                clear hK K
                try simp only [aP]
                refine rq 11 rfl fun K hK => ?_
                refine ap_step (by rfl) _ _ (by rfl) D7.2.1.1 D7.2.1.2 (by omega) (by rfl) ⟨w6.heap.size, 0, none⟩ ⟨9007199254740992 + (x5 : Int), p6⟩ (by rfl) (cells_new w6 _ rfl _ [.int .i64 (9007199254740992 + (x5 : Int)), .string p6]) ?_
                intro g' c' w8 hap
                obtain ⟨k0, k1, k2⟩ := HS7.out _ _ _ _ _ HZ7.out hap
                have HFF := Lib.hid (HAP.out _ _ _ _ _ HZ7.out.own HZ7.out.dr hp6 hap)
                refine hK.out _ _ k0 (fun hHeld => ?_)
                clear hK K hap
                try simp only [aP]
                refine uq (i := 12) rfl ?_
                try simp only [aP]
                refine uq (i := 13) rfl ?_
                try simp only [aP]
                refine rq 14 rfl fun K hK => ?_
                go_simp
                try go_wp2_with fail
                refine hK.out _ _ ((oth (by omega)).trans k0) (fun hHeld => ?_)
                clear hK K
                try simp only [aP]
                refine dq ?_
                go_wp2
                go_ret
                exact HFF.out

              · go_simp
                (go_at_call 25; refine (HDP.out _).mono ?_; rintro e w6 ⟨p6, rfl, hp6, b6⟩)
                try go_wp2_with fail
                have HZ6 := Lib.hid (HZB.out _ _ HZ5.out b6)
                have D6 := HF.out _ HZ6.out
                refine hK.out _ _ D6.1.1 (fun hHeld => ?_)
                clear hK K b6
                try simp only [aP]
                refine uq (i := 9) rfl ?_
                try simp only [aP]
                refine wpAnyH_ready (rs := [4, 10]) (by kernel_rfl) (by simp) ?_
                refine cq rfl (fun K hK => ?_) (cq rfl (fun K hK => ?_) AllReadyH.nil)
                · have d3 := D6.1.2
                  go_simp
                  try go_wp2_with fail
                  refine hK.out _ _ D6.1.1 (fun hHeld => ?_)
                  clear hK K d3
                  try simp only [aP]
                  refine wpAnyH_ready (rs := [10]) (by kernel_rfl) (by simp) ?_
                  refine cq rfl (fun K hK => ?_) AllReadyH.nil
                  have HZ7 := Lib.hid (HZB.out _ _ HZ6.out ((Below.refl _ w6).alloc (Nat.le_refl _) (.cells #[.int .i64 (9007199254740992 + (x5 : Int)), .string p6] 59)))
                  have D7 := HF.out _ HZ7.out
                  go_simp
                  try go_wp2_with fail
                  refine hK.out _ _ D7.1.1 (fun hHeld => ?_)
                  clear hK K
                  try simp only [aP]
                  refine rq 11 rfl fun K hK => ?_
                  refine ap_step (by rfl) _ _ (by rfl) D7.2.1.1 D7.2.1.2 (by omega) (by rfl) ⟨w6.heap.size, 0, none⟩ ⟨9007199254740992 + (x5 : Int), p6⟩ (by rfl) (cells_new w6 _ rfl _ [.int .i64 (9007199254740992 + (x5 : Int)), .string p6]) ?_
                  intro g' c' w8 hap
                  obtain ⟨k0, k1, k2⟩ := HS7.out _ _ _ _ _ HZ7.out hap
                  have HFF := Lib.hid (HAP.out _ _ _ _ _ HZ7.out.own HZ7.out.dr hp6 hap)
                  refine hK.out _ _ k0 (fun hHeld => ?_)
                  clear hK K hap
                  try simp only [aP]
                  refine uq (i := 12) rfl ?_
                  try simp only [aP]
                  refine uq (i := 13) rfl ?_
                  try simp only [aP]
                  refine rq 14 rfl fun K hK => ?_
                  go_simp
                  try go_wp2_with fail
                  refine hK.out _ _ ((oth (by omega)).trans k0) (fun hHeld => ?_)
                  clear hK K
                  try simp only [aP]
                  refine dq ?_
                  go_wp2
                  go_ret
                  exact HFF.out

                · have HZ7 := Lib.hid (HZB.out _ _ HZ6.out ((Below.refl _ w6).alloc (Nat.le_refl _) (.cells #[.int .i64 (9007199254740992 + (x5 : Int)), .string p6] 59)))
                  have D7 := HF.out _ HZ7.out
                  go_simp
                  try go_wp2_with fail
                  refine hK.out _ _ D7.1.1 (fun hHeld => ?_)
                  clear hK K
                  try simp only [aP]
                  refine wpAnyH_ready (rs := [4]) (by kernel_rfl) (by simp) ?_
                  refine cq rfl (fun K hK => ?_) AllReadyH.nil
                  have d3 := D7.1.2
                  go_simp
                  try go_wp2_with fail
                  refine hK.out _ _ D7.1.1 (fun hHeld => ?_)
                  clear hK K d3
                  try simp only [aP]
                  refine rq 11 rfl fun K hK => ?_
                  refine ap_step (by rfl) _ _ (by rfl) D7.2.1.1 D7.2.1.2 (by omega) (by rfl) ⟨w6.heap.size, 0, none⟩ ⟨9007199254740992 + (x5 : Int), p6⟩ (by rfl) (cells_new w6 _ rfl _ [.int .i64 (9007199254740992 + (x5 : Int)), .string p6]) ?_
                  intro g' c' w8 hap
                  obtain ⟨k0, k1, k2⟩ := HS7.out _ _ _ _ _ HZ7.out hap
                  have HFF := Lib.hid (HAP.out _ _ _ _ _ HZ7.out.own HZ7.out.dr hp6 hap)
                  refine hK.out _ _ k0 (fun hHeld => ?_)
                  clear hK K hap
                  try simp only [aP]
                  refine uq (i := 12) rfl ?_
                  try simp only [aP]
                  refine uq (i := 13) rfl ?_
                  try simp only [aP]
                  refine rq 14 rfl fun K hK => ?_
                  go_simp
                  try go_wp2_with fail
                  refine hK.out _ _ ((oth (by omega)).trans k0) (fun hHeld => ?_)
                  clear hK K
                  try simp only [aP]
                  refine dq ?_
                  go_wp2
                  go_ret
                  exact HFF.out

          · have f2 := HFZ.out
            have HB5 : Hid (∀ ob, OwP w.heap.size wr.heap.size (w4.alloc ob) b gs ps ∧ Draws w (w4.alloc ob) c a n cap) := fun ob => ⟨HO4.out.below ((Below.refl _ _).alloc (Nat.le_refl _) _), HD4.out.alloc hc hcw _⟩
            have HG5 : Hid (∀ ob, OwG (w4.alloc ob) (gs i) x.gens ∧ GC (w4.alloc ob) (gs i) x.gens.length cg) := fun ob => ⟨e4.kept (blk_alloc_lt _ _ _ e4.lt), e0.kept (blk_alloc_lt _ _ _ e4.lt)⟩
            have HC7 : Hid (∀ (W' : World) (g' c' : Nat) (y : Gn) ob, AP (w4.alloc ob) (gs i) x.gens y g' c' W' → W'.cell? ⟨b, i * 3 + 2, none⟩ = some (.slice (some ⟨gs i, 0, none⟩) x.gens.length cg) ∧ W'.frozen? ⟨b, i * 3 + 2, none⟩ = false) := fun W' g' c' y ob hap => by
              have hne := (HO4.out.rng i hi).2.2
              have hbk : W'.heap[b]? = w4.heap[b]? := (hap.gr.block b (by rw [World.size_alloc]; have := HO4.out.blk_lt; omega) (by simp; exact fun e => hne e.symm)).trans (blk_alloc_lt _ _ _ HO4.out.blk_lt)
              exact ⟨(World.cell?_of_block (a := ⟨b, i * 3 + 2, none⟩) hbk).trans e3, (World.frozen?_of_block (a := ⟨b, i * 3 + 2, none⟩) hbk).trans (HFZ.out w4 _ HO4.out)⟩
            clear e0 e1 e2 e4 hx f2
            go_wp2_with (first
              | (at_builtin; refine ap_list _ rfl _ _ rfl (HG5.out _).1 (HG5.out _).2 (by omega) rfl ⟨w4.heap.size, 0, none⟩ ⟨1, ⟨#[120]⟩⟩ rfl (cells_new w4 _ rfl _ [.int .i64 1, .string ⟨#[120]⟩]) ?_; intro g' c' w7 hap; refine Hid.out ?_)
              | go_in)
            refine Lib.hid ?_
            obtain ⟨k1, k2⟩ := HC7.out _ _ _ _ _ hap
            have HF := HAP.out _ _ _ _ _ (HB5.out _).1 (HB5.out _).2 (by decide) hap
            have HFF := Lib.hid HF
            clear HF hap
            go_wp2
            go_ret
            exact HFF.out
        · have h0' : ¬ 0 < (ps.length : Int) := by omega
          go_wp2
          go_ret
          first
            | exact HPS.out _ HO2.out HD2.out
            | (obtain ⟨v', ps', h1, h2, h3, h4⟩ := HPS.out _ HO2.out HD2.out; exact ⟨v', h1, ps', h2, h3, h4⟩)

end Go.Proofs.YtihjdggmmmlpkaaDoor.pf

namespace Go.Proofs.YtihjdggmmmlpkaaDoor.sr
open Go.ChangeShapes Go.WideShapes Go.ChangeAt Go.RowKit Go.Deep
set_option linter.unusedVariables false
set_option linter.unusedSimpArgs false

/-! ### The specification's l3Has -/

set_option maxRecDepth 100000 in
theorem lhas_any (xs : List (List UInt8)) (bb cap : Nat) (s : ByteArray) (w : World) (h2 : xs.length ≤ 1000000) (hc : ∀ i x, xs[i]? = some x → w.cell? ⟨bb, i, none⟩ = some (strL x)) :
    Calls Tryd.prog 11 #[.slice (some ⟨bb, 0, none⟩) xs.length cap, .string s] w fun e w' => e = .returned (.bool (decide (s.data.toList ∈ xs))) ∧ w' = w := by
  have HC : Hid (∀ i, i < xs.length → w.cell? ⟨bb, i, none⟩ = some (strL (xAt xs i))) := fun i hi => hc i _ (xAt_some hi)
  clear hc
  go_enter Tryd.func11, Tryd.ntmps11
  go_wp2
  go_loopw [5] (fun x wr => ∃ (i : Nat), i ≤ xs.length ∧ x = .int .i64 (i : Int) ∧ (∀ j, j < i → xAt xs j ≠ s.data.toList) ∧ wr = w) (fun x _ => xs.length - (intOf x).toNat)
  case atStart => exact ⟨0, Nat.zero_le _, rfl, fun j h => by omega, rfl⟩
  case round =>
    obtain ⟨i, hi, rfl, hno, rfl⟩ := hrel
    have HNO : Hid (∀ j, j < i → xAt xs j ≠ s.data.toList) := hno
    clear hno
    by_cases h : i < xs.length
    · have h' : (i : Int) < (xs.length : Int) := by omega
      have ce := HC.out i h
      rw [strL] at ce
      obtain ⟨u, hu⟩ : ∃ u : ByteArray, (⟨(xAt xs i).toArray⟩ : ByteArray) = u := ⟨_, rfl⟩
      rw [hu] at ce
      have HU : Hid (u.toList = xAt xs i) := by show _ = _; rw [← hu, ByteArray.toList_eq]
      clear hu
      cases he : (u.toList == s.toList) with
      | true =>
        have HY : Hid (decide (s.data.toList ∈ xs) = true) := by
          show _ = _
          rw [decide_eq_true_eq]
          have e : xAt xs i = s.data.toList := by rw [← HU.out, ← ByteArray.toList_eq]; simpa using he
          rw [← e]
          exact List.mem_of_getElem? (xAt_some h)
        go_wp2
        go_ret
        exact ⟨ret_bool HY.out.symm, rfl⟩
      | false =>
        have HX : Hid (xAt xs i ≠ s.data.toList) := by
          intro e
          rw [← HU.out, ← ByteArray.toList_eq] at e
          simp [e] at he
        go_wp2
        go_roundw
        case rel => exact ⟨i + 1, by omega, by go_num, fun j hj => by
          rcases Nat.lt_or_ge j i with h | h
          · exact HNO.out j h
          · obtain rfl : j = i := by omega
            exact HX.out, by first | rfl | trivial⟩
        case measure => simp [intOf]; omega
    · have h' : ¬ (i : Int) < (xs.length : Int) := by omega
      obtain rfl : i = xs.length := by omega
      have HY : Hid (decide (s.data.toList ∈ xs) = false) := by
        show _ = _
        rw [decide_eq_false_iff_not]
        intro hm
        obtain ⟨j, hj, e⟩ := List.mem_iff_getElem.1 hm
        exact HNO.out j hj (by simp [xAt, hj, e])
      go_wp2
      go_ret
      exact ⟨ret_bool HY.out.symm, rfl⟩

end Go.Proofs.YtihjdggmmmlpkaaDoor.sr

namespace Go.Proofs.YtihjdggmmmlpkaaDoor.pf
open Go.ChangeShapes Go.WideShapes Go.ChangeAt Go.RowKit Go.Deep Go.Maps
open Go.Proofs.YtihjdggmmmlpkaaDoor.dr (Draws below_can once_can dpath_any dname_any tab_new)
set_option linter.unusedVariables false
set_option linter.unusedSimpArgs false

/-! ### FnRollBack: last, and the draw -/

theorem wc_of {W : World} {b o : Nat} {v : Value} (nq : Nat) (h : W.cell? ⟨b, o, none⟩ = some v) : (W.drewN nq).cell? ⟨b, o, none⟩ = some v := h

set_option maxHeartbeats 4000000 in
set_option maxRecDepth 100000 in
theorem last_any (lo hi b cp : Nat) (gs : Nat → Nat) (ps : List Pr) (q : ByteArray) (w : World) (ho : OwP lo hi w b gs ps) (hw : wtP ps ≤ 1048576) :
    Calls Tryd.prog 14 #[.slice (some ⟨b, 0, none⟩) ps.length cp, .string q] w fun e w' => e = .returned (.bool (lastB ps q.data.toList)) ∧ Below w.heap.size w w' := by
  have HO : Hid (OwP lo hi w b gs ps) := ho
  have HWT : Hid (wtP ps ≤ 1048576) := hw
  obtain ⟨n, hn⟩ : ∃ n, ps.length = n := ⟨_, rfl⟩
  have HN : Hid (ps.length = n) := hn
  have hn' : n ≤ 1048576 := by have := wt_len ps; omega
  rw [hn]
  have HNO2 : Hid ((∀ (j : Nat) (y : Pr), j < n → ps[j]? = some y → ¬ lastX y q.data.toList) → lastB ps q.data.toList = false) := fun h => by
    cases hl : lastB ps q.data.toList with
    | false => rfl
    | true =>
      obtain ⟨y, hy, hx⟩ := lastB_iff.1 hl
      obtain ⟨j, hj⟩ := mem_at hy
      exact absurd hx (h j y (by have := (List.getElem?_eq_some_iff.1 hj).1; omega) hj)
  clear ho hw hn
  go_enter Tryd.func14, Tryd.ntmps14
  go_wp2
  go_loopw [5] (fun x wr => ∃ i : Nat, i ≤ n ∧ x = .int .i64 (i : Int) ∧ (∀ (j : Nat) (y : Pr), j < i → ps[j]? = some y → ¬ lastX y q.data.toList) ∧ Below w.heap.size w wr) (fun x _ => n - (intOf x).toNat)
  case atStart => exact ⟨0, Nat.zero_le _, rfl, fun j y h => by omega, Below.refl _ _⟩
  case round =>
    obtain ⟨i, hi, rfl, hno, hbel⟩ := hrel
    have HNO : Hid (∀ (j : Nat) (y : Pr), j < i → ps[j]? = some y → ¬ lastX y q.data.toList) := hno
    have HBE : Hid (Below w.heap.size w wr) := hbel
    clear hno
    by_cases h : i < n
    · have h' : (i : Int) < (n : Int) := by omega
      obtain ⟨x, hx⟩ : ∃ x, ps[i]? = some x := ⟨_, List.getElem?_eq_getElem (by rw [HN.out]; exact h)⟩
      obtain ⟨cc, e0, e1, e2, e3, e4⟩ := (HO.out.below hbel).ent i x hx
      have hgl : x.gens.length ≤ 1048576 := by have := wt_gens (List.mem_of_getElem? hx); have := HWT.out; omega
      have HNX : Hid (¬ lastX x q.data.toList → ∀ (j : Nat) (y : Pr), j < i + 1 → ps[j]? = some y → ¬ lastX y q.data.toList) := fun hl j y hj hy => by
        rcases Nat.lt_or_ge j i with h1 | h1
        · exact HNO.out j y h1 hy
        · obtain rfl : j = i := by omega
          obtain rfl := Option.some.inj (hx.symm.trans hy)
          exact hl
      have HYX : Hid (lastX x q.data.toList → lastB ps q.data.toList = true) := fun hl => lastB_iff.2 ⟨x, List.mem_of_getElem? hx, hl⟩
      have HBA : Hid (∀ (ob : Obj) (nq : Nat), Below w.heap.size w ((wr.alloc ob).drewN nq)) := fun ob nq => Go.below_drewN (hbel.alloc hbel.size _) nq
      have HGN : Hid (∀ (ob : Obj) (J : Nat) (g : Gn), x.gens[J]? = some g → (wr.alloc ob).cell? ⟨gs i, J * 2, none⟩ = some (.int .i64 g.n)) := fun ob J g hg => by
        obtain ⟨N, f, _, _, hc⟩ := e4.kept (blk_alloc_lt wr ob _ e4.lt)
        exact (hc J g hg).1
      have HLX : Hid (lastX x q.data.toList ↔ x.name.data.toList = q.data.toList ∧ 0 < x.gens.length ∧ lastN x.gens = x.now) := Iff.rfl
      obtain ⟨A, hA⟩ : ∃ A, x.name = A := ⟨_, rfl⟩
      obtain ⟨z, hz⟩ : ∃ z, x.now = z := ⟨_, rfl⟩
      obtain ⟨m, hm⟩ : ∃ m, x.gens.length = m := ⟨_, rfl⟩
      obtain ⟨G, hG⟩ : ∃ G, gs i = G := ⟨_, rfl⟩
      have HM : Hid (x.gens.length = m) := hm
      rw [hA, hz, hm] at HLX
      rw [hA] at e1
      rw [hz] at e2
      rw [hm, hG] at e3
      rw [hG] at HGN
      rw [hm] at hgl
      clear hA hz hm hG e0 e4 hx hbel
      cases he : (A.toList == q.toList) with
      | false =>
        have HL : Hid (¬ lastX x q.data.toList) := fun hl => by
          have := (HLX.out.1 hl).1
          rw [← ByteArray.toList_eq, ← ByteArray.toList_eq] at this
          simp [this] at he
        go_wp2
        go_quiet (fail)
        go_wp2
        go_roundw
        case rel => exact ⟨i + 1, by omega, by go_num, HNX.out HL.out, HBA.out _ _⟩
        case measure => simp [intOf]; omega
      | true =>
        have HQ : Hid (A.data.toList = q.data.toList) := by
          show _ = _
          rw [← ByteArray.toList_eq, ← ByteArray.toList_eq]
          simpa using he
        by_cases hm0 : m = 0
        · subst hm0
          have HL : Hid (¬ lastX x q.data.toList) := fun hl => by have := (HLX.out.1 hl).2.1; omega
          go_wp2
          go_quiet (fail)
          go_wp2
          go_roundw
          case rel => exact ⟨i + 1, by omega, by go_num, HNX.out HL.out, HBA.out _ _⟩
          case measure => simp [intOf]; omega
        · have hm1 : (0 : Int) < (m : Int) := by omega
          have hm2 : 0 < m := by omega
          obtain ⟨J, hJ⟩ : ∃ J, m = J + 1 := ⟨m - 1, by omega⟩
          obtain ⟨g, hg⟩ : ∃ g, x.gens[J]? = some g := ⟨_, List.getElem?_eq_getElem (by have := HM.out; omega)⟩
          obtain ⟨v, hv⟩ : ∃ v, g.n = v := ⟨_, rfl⟩
          have HV : Hid (lastN x.gens = v) := by show _ = _; unfold lastN; rw [HM.out, hJ, Nat.add_sub_cancel, hg]; exact hv
          have fj := HGN.out (.cells #[.string A, .int .i64 z, .slice (some ⟨G, 0, none⟩) m cc] 40) J g hg
          rw [hv] at fj
          have hJ1 : (m : Int) - 1 = (J : Int) := by omega
          have hJ2 : IntKind.i64.wrap ((m : Int) - 1) = (J : Int) := by rw [IntKind.wrap_i64]; omega
          have hJ0 : (0 : Int) ≤ (J : Int) := by omega
          have hJm : (J : Int) < (m : Int) := by omega
          have hJn : J < m := by omega
          clear hv hg hJ hm0
          by_cases hvz : v = z
          · have HL : Hid (lastB ps q.data.toList = true) := HYX.out (HLX.out.2 ⟨HQ.out, by omega, HV.out.trans hvz⟩)
            go_wp2
            go_quiet (fail)
            go_wp2
            go_ret
            exact ⟨ret_bool HL.out.symm, HBA.out _ _⟩
          · have HL : Hid (¬ lastX x q.data.toList) := fun hl => hvz (HV.out.symm.trans (HLX.out.1 hl).2.2)
            go_wp2
            go_quiet (fail)
            go_wp2
            go_roundw
            case rel => exact ⟨i + 1, by omega, by go_num, HNX.out HL.out, HBA.out _ _⟩
            case measure => simp [intOf]; omega
    · have h' : ¬ (i : Int) < (n : Int) := by omega
      obtain rfl : i = n := by omega
      have HL : Hid (lastB ps q.data.toList = false) := HNO2.out HNO.out
      go_wp2
      go_ret
      exact ⟨ret_bool HL.out.symm, HBE.out⟩

theorem curP_size (ps : List Pr) (q : List UInt8) : (curP ps q).size ≤ wtP ps := by
  by_cases h : psB ps = true
  · rcases fIx_cases ps q with hf | ⟨i, x, hf, hx⟩
    · rw [curP_not hf]; exact Nat.zero_le _
    · rw [curP_at h hf hx]
      rcases gIx_cases x.gens x.now with ⟨hg, _⟩ | ⟨k, g, hg, hk, _⟩
      · rw [cur_no hg]; exact Nat.zero_le _
      · rw [cur_at hg hk]; exact wt_path (List.mem_of_getElem? hx) (List.mem_of_getElem? hk)
  · rw [curP_bad (by simpa using h)]; exact Nat.zero_le _

set_option maxHeartbeats 4000000 in
set_option maxRecDepth 100000 in
theorem dsw_any (a : Option Addr) (n cap : Nat) (w : World) (hb : dr.CodeB w a n) (hn : n ≤ 1048576) (hlt : ∀ x, a = some x → 0 < n → x.block < w.heap.size) :
    Calls Tryd.prog 6 #[.slice a n cap] w fun e w' => ∃ v ps q pa, e = .returned (.tuple #[v, .string q, .string pa]) ∧ ResP w.heap.size w' v ps ∧ wtP ps ≤ 1001000 ∧ q.size ≤ 1048576 ∧ pa.size ≤ 1048576 ∧ Below w.heap.size w w' := by
  have HNE : Hid (Calls Tryd.prog 22 #[.slice a n cap] w fun e w' => e = .returned (.pointer (some ⟨w.heap.size, 0, none⟩)) ∧ ∃ h : Int, Hid (w' = w.alloc (.cells #[.slice a n cap, .int .i64 0, .int .i64 h] 80))) := dr.new_any a n cap w hb hn
  have HCN : Hid (∀ h : Int, dr.Can (w.alloc (.cells #[.slice a n cap, .int .i64 0, .int .i64 h] 80)) w.heap.size a n cap) := fun h => dr.new_can hb hn hlt h
  clear hb hn hlt
  go_enter Tryd.func6, Tryd.ntmps6
  go_wp2_with (go_at_call 22; refine HNE.out.mono ?_; rintro e w1 ⟨rfl, h, hw1⟩; refine Hid.out ?_)
  refine Lib.hid ?_
  have hs1 : w1.heap.size = w.heap.size + 1 := by rw [hw1.out, World.size_alloc]
  have hc : dr.Can w1 w.heap.size a n cap := by rw [hw1.out]; exact HCN.out h
  have HB1 : Hid (Below w.heap.size w w1) := by show Below _ _ _; rw [hw1.out]; exact (Below.refl _ _).alloc (Nat.le_refl _) _
  have hcw : w.heap.size < w1.heap.size := by omega
  clear hw1 HNE HCN
  go_wp2_with (go_at_call 23; refine (d13_any hc hcw).mono ?_; rintro e w2 ⟨v, ps, rfl, hr2, hwt, D2⟩; refine Hid.out ?_)
  refine Lib.hid ?_
  have HWT : Hid (wtP ps ≤ 1001000) := hwt
  obtain ⟨b, cp, gs, rfl, ho2⟩ := hr2
  go_wp2_with (go_at_call 24; refine (dname_any (hc.draws D2) (by have := D2.grown.size; omega)).mono ?_; rintro e w3 ⟨q, rfl, hq, d3⟩; refine Hid.out ?_)
  refine Lib.hid ?_
  have D3 := D2.trans d3
  have ho3 := ho2.draws d3 hcw
  clear D2 ho2 d3
  go_wp2_with (go_at_call 26; refine (below_can (hc.draws D3) 8 (by decide) (by decide)).mono ?_; rintro e w4 ⟨x4, rfl, hx4, d4⟩; refine Hid.out ?_)
  refine Lib.hid ?_
  have D4 := D3.trans d4
  have ho4 := ho3.draws d4 hcw
  clear D3 ho3 d4
  go_wp2_with (go_at_call 25; refine (dpath_any x4 (by omega) _).mono ?_; rintro e w5 ⟨pa, rfl, hpa, b5⟩; refine Hid.out ?_)
  refine Lib.hid ?_
  have D5 := D4.below hc hcw b5
  have ho5 := ho4.below b5
  clear D4 ho4 b5
  go_wp2_with (go_at_call 27; refine (once_can (hc.draws D5) 3 (by decide) (by decide)).mono ?_; rintro e w6 ⟨o6, rfl, d6⟩; refine Hid.out ?_)
  refine Lib.hid ?_
  have D6 := D5.trans d6
  have ho6 := ho5.draws d6 hcw
  clear D5 ho5 d6
  have HEND : Hid (∀ (W : World) (p : ByteArray), Below w6.heap.size w6 W → p.size ≤ 1048576 → ∃ v' ps' q' pa', Ending.returned (.tuple #[.slice (some ⟨b, 0, none⟩) ps.length cp, .string q, .string p]) = .returned (.tuple #[v', .string q', .string pa']) ∧ ResP w.heap.size W v' ps' ∧ wtP ps' ≤ 1001000 ∧ q'.size ≤ 1048576 ∧ pa'.size ≤ 1048576 ∧ Below w.heap.size w W) := fun W p hb hp =>
    ⟨_, ps, q, p, rfl, resP_of (((ho6.below hb).upper (by have := (ho6.below hb).hi_le; omega) (Nat.le_refl _)).lower (by omega)) rfl, HWT.out, by omega, hp, (HB1.out.trans ((dr.below_of_grown D6.grown (Nat.le_refl _) (by omega)).mono (Nat.le_refl _))).trans (hb.mono (by have := D6.grown.size; omega))⟩
  have HCU : Hid (Calls Tryd.prog 28 #[.slice (some ⟨b, 0, none⟩) ps.length cp, .string q] w6 fun e w' => e = .returned (.string (curP ps q.data.toList)) ∧ Below w6.heap.size w6 w') := scur_any ps _ cp q w6 ho6.src (by have := HWT.out; omega)
  clear D6 ho6 hwt
  cases o6
  · go_wp2
    go_ret3
    exact HEND.out _ _ (Below.refl _ _) (by omega)
  · go_wp2_with (go_at_call 28; refine HCU.out.mono ?_; rintro e w7 ⟨rfl, b7⟩)
    go_ret3
    exact HEND.out _ _ b7 (by have := curP_size ps q.data.toList; have := HWT.out; omega)

end Go.Proofs.YtihjdggmmmlpkaaDoor.pf

namespace Go.Proofs.YtihjdggmmmlpkaaDoor.pf
open Go.ChangeShapes Go.WideShapes Go.ChangeAt Go.RowKit Go.Deep Go.Maps
set_option linter.unusedVariables false
set_option linter.unusedSimpArgs false

/-! ### FnRollBack: the law's walk -/

theorem big_any (a : Option Addr) (n cap : Nat) (w : World) : Calls Tryd.prog 4 #[.slice a n cap] w fun e w' => e = .returned (.bool (decide (1048576 < (n : Int)))) ∧ w' = w := by
  go_enter Tryd.func4, Tryd.ntmps4
  go_wp2
  go_ret
  exact ⟨rfl, rfl⟩

theorem blk_cells {w : World} {g cap : Nat} {xs : List (List UInt8)} (h : sr.Blk w g cap xs) : ∀ i x, xs[i]? = some x → w.cell? ⟨g, i, none⟩ = some (sr.strL x) := fun i x hx => by
  obtain ⟨cur, hb, hs, ht⟩ := h.row
  have hi := (List.getElem?_eq_some_iff.1 hx).1
  have h1 : (cur.toList.take xs.length)[i]? = (xs.map encStr)[i]? := by rw [ht]
  rw [List.getElem?_take_of_lt hi, List.getElem?_map, hx, Array.getElem?_toList] at h1
  simp [World.cell?, hb, h1, sr.enc_strL]
theorem rts_len {ps : List Pr} (h : psB ps = true) : (rts ps []).length ≤ 1000000 := by
  have hk := psB_iff.1 h
  rw [rts_yes h (by simp), List.nil_append]
  have h1 := sr.adr_len (pthP ps)
  have h2 := pthP_len (ps := ps) fun x hx => by
    obtain ⟨i, hi⟩ := mem_at hx
    exact (hk.each i x hi).few
  have := hk.few
  omega
theorem beq_no {x y : ByteArray} (h : x ≠ y) : (x.toList == y.toList) = false := by
  rw [beq_eq_false_iff_ne]
  intro e
  rw [ByteArray.toList_eq, ByteArray.toList_eq] at e
  exact h (ByteArray.ext (Array.toList_inj.1 e))

theorem nil_no {x : ByteArray} (h : x ≠ ⟨#[]⟩) : ¬ x.toList = [] := fun e => by
  rw [ByteArray.toList_eq] at e
  exact h (ByteArray.ext (Array.toList_inj.1 e))

set_option maxHeartbeats 8000000 in
set_option maxRecDepth 100000 in
theorem rb_law (a : Option Addr) (n cap : Nat) (w : World) (hb : dr.CodeB w a n) (hlt : ∀ x, a = some x → 0 < n → x.block < w.heap.size) (hT : wd.TabB w) :
    Calls Tryd.prog 3 #[.slice a n cap] w fun e w' => e = .returned (.bool true) ∧ Below w.heap.size w w' := by
  by_cases hn : n ≤ 1048576
  · have hn' : ¬ (1048576 : Int) < (n : Int) := by omega
    have hd' : decide (1048576 < (n : Int)) = false := by simpa using hn'
    have HDW : Hid (∀ W, Below w.heap.size w W → Calls Tryd.prog 6 #[.slice a n cap] W fun e w' => ∃ v ps q pa, e = .returned (.tuple #[v, .string q, .string pa]) ∧ ResP W.heap.size w' v ps ∧ wtP ps ≤ 1001000 ∧ q.size ≤ 1048576 ∧ pa.size ≤ 1048576 ∧ Below W.heap.size W w') := fun W h => by
      refine dsw_any a n cap W ?_ hn (fun x e h0 => Nat.lt_of_lt_of_le (hlt x e h0) h.size)
      rcases hb with h1 | ⟨b, off, rfl, h1⟩
      · exact .inl h1
      · refine .inr ⟨b, off, rfl, fun i hi => ?_⟩
        obtain ⟨x, hx, hc⟩ := h1 i hi
        exact ⟨x, hx, (h.cell (p := ⟨b, off + i, none⟩) (World.block_lt_of_cell? _ _ hc)).trans hc⟩
    have HT : Hid (∀ W, Below w.heap.size w W → wd.TabB W) := fun W h => hT.below h
    have HOK0 : Hid (∀ W, Below w.heap.size w W → Calls Tryd.prog 5 #[.slice (some ⟨w.heap.size, 0, none⟩) 0 0] W fun e w' => e = .returned (.bool true) ∧ Below W.heap.size W w') := fun W h =>
      (ips_any [] (some ⟨w.heap.size, 0, none⟩) 0 W (.inl rfl) (by simp [wtP, wtSP]) (HT.out W h)).mono fun e w' ⟨he, hb⟩ => ⟨by rw [he, psB_yes (ps := []) ⟨by simp, fun i x y hx => by simp at hx, fun i x hx => by simp at hx⟩], hb⟩
    clear hb hlt hT
    go_enter Tryd.func3, Tryd.ntmps3
    go_wp2_with (go_at_call 4; refine (big_any _ _ _ _).mono ?_; rintro e w' ⟨rfl, hw⟩; have hw2 := hw.symm; subst hw2; clear hw; rw [hd'])
    go_wp2_with (go_at_call 5; refine (HOK0.out _ ((Below.refl _ _).alloc (Nat.le_refl _) _)).mono ?_; rintro e w1 ⟨rfl, hb1⟩; refine Hid.out ?_)
    refine Lib.hid ?_
    have HB1 : Hid (Below w.heap.size w w1) := ((Below.refl _ _).alloc (Nat.le_refl _) _).trans (hb1.mono (by simp))
    clear hb1 HOK0
    go_wp2_with (go_at_call 6; refine (HDW.out _ HB1.out).mono ?_; rintro e w2 ⟨v, ps, q, pa, rfl, hr2, hwt, hq, hpa, hb2⟩; refine Hid.out ?_)
    refine Lib.hid ?_
    have HB2 : Hid (Below w.heap.size w w2) := HB1.out.trans (hb2.mono HB1.out.size)
    obtain ⟨b, cp, gs, rfl, ho2⟩ := hr2
    have HO2 : Hid (OwP w1.heap.size w2.heap.size w2 b gs ps) := ho2
    have HWT : Hid (wtP ps ≤ 1048576) := by show _ ≤ _; omega
    have HQ : Hid (q.size ≤ 1048576 ∧ pa.size ≤ 1048576) := ⟨hq, hpa⟩
    clear hb2 ho2 hwt hq hpa HDW HB1
    have HCU : Hid (∀ (W : World) (xs : List Pr) (a' : Option Addr) (c' : Nat), Below w.heap.size w W → SrcP W a' xs → wtP xs ≤ 1048576 → Calls Tryd.prog 7 #[.slice a' xs.length c', .string q] W fun e w' => e = .returned (.string (curP xs q.data.toList)) ∧ Below W.heap.size W w') := fun W xs a' c' h1 h2 h3 => icur_any xs a' c' q W h2 h3 (HT.out W h1)
    go_wp2_with (go_at_call 7; refine (HCU.out _ _ _ _ HB2.out HO2.out.src HWT.out).mono ?_; rintro e w3 ⟨rfl, hb3⟩; refine Hid.out ?_)
    refine Lib.hid ?_
    have HB3 : Hid (Below w.heap.size w w3) := HB2.out.trans (hb3.mono HB2.out.size)
    have HO3 : Hid (OwP w1.heap.size w2.heap.size w3 b gs ps) := HO2.out.below hb3
    obtain ⟨cu, hcu⟩ : ∃ cu, curP ps q.data.toList = cu := ⟨_, rfl⟩
    have HC : Hid (curP ps q.data.toList = cu) := hcu
    rw [hcu]
    clear hb3 hcu HB2 HO2
    have HSW : Hid (Calls Tryd.prog 8 #[.slice (some ⟨b, 0, none⟩) ps.length cp, .string q, .string pa] w3 fun e w' => (∃ v, e = .returned (.tuple #[v, .bool (swP ps q pa).2]) ∧ ResP w3.heap.size w' v (swP ps q pa).1) ∧ Below w3.heap.size w3 w') := isw_any ps _ cp q pa w3 HO3.out.src HWT.out (HT.out _ HB3.out) HQ.out.1 HQ.out.2
    go_wp2_with (go_at_call 8; refine HSW.out.mono ?_; rintro e w4 ⟨⟨v4, rfl, hr4⟩, hb4⟩; refine Hid.out ?_)
    refine Lib.hid ?_
    have HB4 : Hid (Below w.heap.size w w4) := HB3.out.trans (hb4.mono HB3.out.size)
    have HO4 : Hid (OwP w1.heap.size w2.heap.size w4 b gs ps) := HO3.out.below hb4
    obtain ⟨xb, xc, xg, hv4, hx4⟩ := hr4
    have HX4 : Hid (OwP w3.heap.size w4.heap.size w4 xb xg (swP ps q pa).1) := hx4
    subst hv4
    clear hb4 hx4 HSW HB3 HO3
    have HSS : Hid (Calls Tryd.prog 9 #[.slice (some ⟨b, 0, none⟩) ps.length cp, .string q, .string pa] w4 fun e w' => (∃ v, e = .returned (.tuple #[v, .bool (swP ps q pa).2]) ∧ ResP w4.heap.size w' v (swP ps q pa).1) ∧ Below w4.heap.size w4 w') := ssw_any _ _ b cp gs ps q pa w4 HO4.out HWT.out HQ.out.1 HQ.out.2
    obtain ⟨X, hX⟩ : ∃ X, (swP ps q pa).1 = X := ⟨_, rfl⟩
    obtain ⟨r, hr⟩ : ∃ r, (swP ps q pa).2 = r := ⟨_, rfl⟩
    have HXE : Hid ((swP ps q pa).1 = X) := hX
    have HRE : Hid ((swP ps q pa).2 = r) := hr
    have HXW : Hid (wtP X ≤ 1048576) := by show wtP X ≤ _; rw [← hX]; exact swP_wt HWT.out
    rw [hX] at HX4 HSS ⊢
    rw [hr] at HSS ⊢
    clear hX hr
    go_wp2_with (go_at_call 9; refine HSS.out.mono ?_; rintro e w5 ⟨⟨v5, rfl, hr5⟩, hb5⟩; refine Hid.out ?_)
    refine Lib.hid ?_
    have HB5 : Hid (Below w.heap.size w w5) := HB4.out.trans (hb5.mono HB4.out.size)
    have HO5 : Hid (OwP w1.heap.size w2.heap.size w5 b gs ps) := HO4.out.below hb5
    have HX5 : Hid (OwP w3.heap.size w4.heap.size w5 xb xg X) := HX4.out.below hb5
    clear hb5 hr5 HSS HB4 HO4 HX4
    cases r
    · have HN : Hid (X = [] ∨ curP X q.data.toList = cu) := by have := sw_not HRE.out; rw [HXE.out, HC.out] at this; exact this
      by_cases h0 : X.length = 0
      · have h0' : (X.length : Int) = 0 := by omega
        go_wp2
        go_ret
        exact ⟨rfl, HB5.out⟩
      · have h0' : ¬ (X.length : Int) = 0 := by omega
        have HE : Hid (curP X q.data.toList = cu) := by rcases HN.out with h | h; · rw [h] at h0; simp at h0
                                                        · exact h
        go_wp2_with (go_at_call 7; refine (HCU.out _ _ _ _ HB5.out HX5.out.src HXW.out).mono ?_; rintro e w6 ⟨rfl, hb6⟩; rw [HE.out])
        go_ret
        exact ⟨by simp, HB5.out.trans (hb6.mono HB5.out.size)⟩
    · obtain ⟨h1, h2, hXL⟩ := sw_yes HRE.out
      rw [HXE.out] at hXL
      have HXO : Hid (psB X = true) := by show _ = _; rw [hXL]; exact h2
      have HXC : Hid (curP X q.data.toList = pa) := by show _ = _; rw [hXL]; exact sw_cur h2
      have HXR : Hid (decide (pa.data.toList ∈ rts X []) = true) := by show _ = _; rw [hXL]; exact decide_eq_true (sw_root h2)
      have HBK : Hid (cu ≠ ⟨#[]⟩ → cu ≠ pa → lastB ps q.data.toList = true → (chP sb X q.data.toList).2 = true ∧ curP (chP sb X q.data.toList).1 q.data.toList = cu) := fun k1 k2 k3 => by
        have := sw_back (pa := pa) h1 h2 (by rw [HC.out]; exact k1) (by rw [HC.out]; exact k2) k3
        rw [HC.out, ← hXL] at this
        exact this
      have HCT : Hid ((chP (ct 1) X q.data.toList).2 = true ∧ curP (chP (ct 1) X q.data.toList).1 q.data.toList = pa ∧ psB (chP (ct 1) X q.data.toList).1 = true) := by show _ ∧ _ ∧ _; rw [hXL]; exact sw_cut h2
      clear h1 h2 hXL HXE HRE
      have HPO : Hid (∀ (W : World) (xs : List Pr) (a' : Option Addr) (c' : Nat), SrcP W a' xs → wtP xs ≤ 1048576 → psB xs = true → Calls Tryd.prog 10 #[.slice a' xs.length c'] W fun e w' => e = .returned (.bool true) ∧ Below W.heap.size W w') := fun W xs a' c' k1 k2 k3 => (sps_any xs a' c' W k1 k2).mono fun e w' ⟨he, hb⟩ => ⟨by rw [he, k3], hb⟩
      go_wp2_with (go_at_call 10; refine (HPO.out _ _ _ _ HX5.out.src HXW.out HXO.out).mono ?_; rintro e w6 ⟨rfl, hb6⟩; refine Hid.out ?_)
      refine Lib.hid ?_
      have HB6 : Hid (Below w.heap.size w w6) := HB5.out.trans (hb6.mono HB5.out.size)
      have HO6 : Hid (OwP w1.heap.size w2.heap.size w6 b gs ps) := HO5.out.below hb6
      have HX6 : Hid (OwP w3.heap.size w4.heap.size w6 xb xg X) := HX5.out.below hb6
      clear hb6 HB5 HO5 HX5
      go_wp2_with (go_at_call 7; refine (HCU.out _ _ _ _ HB6.out HX6.out.src HXW.out).mono ?_; rintro e w7 ⟨rfl, hb7⟩; rw [HXC.out]; refine Hid.out ?_)
      refine Lib.hid ?_
      have HB7 : Hid (Below w.heap.size w w7) := HB6.out.trans (hb7.mono HB6.out.size)
      have HO7 : Hid (OwP w1.heap.size w2.heap.size w7 b gs ps) := HO6.out.below hb7
      have HX7 : Hid (OwP w3.heap.size w4.heap.size w7 xb xg X) := HX6.out.below hb7
      clear hb7 HB6 HO6 HX6
      have HRT : Hid (Calls Tryd.prog 12 #[.slice (some ⟨xb, 0, none⟩) X.length xc, .slice (some ⟨w7.heap.size, 0, none⟩) 0 0] (w7.alloc (.cells #[] 9)) fun e w' => (∃ g c, e = .returned (.slice (some ⟨g, 0, none⟩) (rts X []).length c) ∧ Hid (sr.Blk w' g c (rts X []))) ∧ Below w7.heap.size w7 w') := by
        have hba : Below w7.heap.size w7 (w7.alloc (.cells #[] 9)) := (Below.refl _ _).alloc (Nat.le_refl _) _
        refine (iroots_any X (some ⟨xb, 0, none⟩) xc [] (fun x hx => by simp at hx) (.slice (some ⟨w7.heap.size, 0, none⟩) 0 0) _ (HX7.out.below hba).src HXW.out ⟨w7.heap.size, 0, 0, rfl, Nat.le_refl _, Nat.zero_le _, fun i x hx => by simp at hx⟩ (by simp) (HT.out _ (HB7.out.trans (hba.mono HB7.out.size)))).mono ?_
        rintro e w' ⟨⟨g, c, he, _, hbk⟩, hb⟩
        exact ⟨⟨g, c, he, hbk⟩, hba.trans (hb.mono hba.size)⟩
      go_wp2_with (go_at_call 12; refine HRT.out.mono ?_; rintro e w8 ⟨⟨rg, rc, rfl, hbk⟩, hb8⟩; refine Hid.out ?_)
      refine Lib.hid ?_
      have HB8 : Hid (Below w.heap.size w w8) := HB7.out.trans (hb8.mono HB7.out.size)
      have HO8 : Hid (OwP w1.heap.size w2.heap.size w8 b gs ps) := HO7.out.below hb8
      have HX8 : Hid (OwP w3.heap.size w4.heap.size w8 xb xg X) := HX7.out.below hb8
      clear hb8 HB7 HO7 HX7 HRT
      have HHS : Hid (Calls Tryd.prog 11 #[.slice (some ⟨rg, 0, none⟩) (rts X []).length rc, .string pa] w8 fun e w' => e = .returned (.bool true) ∧ w' = w8) := (sr.lhas_any (rts X []) rg rc pa w8 (rts_len HXO.out) (blk_cells hbk.out)).mono fun e w' ⟨he, hw⟩ => ⟨by rw [he, HXR.out], hw⟩
      clear hbk
      go_wp2_with (go_at_call 11; refine HHS.out.mono ?_; rintro e w' ⟨rfl, hw⟩; subst hw; refine Hid.out ?_)
      refine Lib.hid ?_
      have HRB : Hid (Calls Tryd.prog 13 #[.slice (some ⟨xb, 0, none⟩) X.length xc, .string q] w' fun e w'' => (∃ v, e = .returned (.tuple #[v, .bool (chP sb X q.data.toList).2]) ∧ ResP w'.heap.size w'' v (chP sb X q.data.toList).1) ∧ Below w'.heap.size w' w'') := irb_any X _ xc q w' HX8.out.src HXW.out (HT.out _ HB8.out)
      clear HHS
      go_wp2_with (go_at_call 13; refine HRB.out.mono ?_; rintro e w9 ⟨⟨v9, rfl, hr9⟩, hb9⟩; refine Hid.out ?_)
      refine Lib.hid ?_
      have HB9 : Hid (Below w.heap.size w w9) := HB8.out.trans (hb9.mono HB8.out.size)
      have HO9 : Hid (OwP w1.heap.size w2.heap.size w9 b gs ps) := HO8.out.below hb9
      have HX9 : Hid (OwP w3.heap.size w4.heap.size w9 xb xg X) := HX8.out.below hb9
      obtain ⟨yb, yc, yg, hv9, hy9⟩ := hr9
      have HY9 : Hid (OwP w'.heap.size w9.heap.size w9 yb yg (chP sb X q.data.toList).1) := hy9
      have HYW : Hid (wtP (chP sb X q.data.toList).1 ≤ 1048576) := Nat.le_trans (chP_wt sb_wt _ _) HXW.out
      subst hv9
      obtain ⟨Y, hY⟩ : ∃ Y, (chP sb X q.data.toList).1 = Y := ⟨_, rfl⟩
      obtain ⟨k, hk⟩ : ∃ k, (chP sb X q.data.toList).2 = k := ⟨_, rfl⟩
      rw [hY] at HY9 HYW HBK ⊢
      rw [hk] at HBK ⊢
      clear hb9 hy9 hY hk HB8 HO8 HX8 HRB
      by_cases c1 : cu = ⟨#[]⟩
      · subst c1
        clear HBK HY9
        have HPR : Hid (Calls Tryd.prog 15 #[.slice (some ⟨xb, 0, none⟩) X.length xc, .string q, .int .i64 1] w9 fun e w'' => (∃ v, e = .returned (.tuple #[v, .bool true]) ∧ ResP w9.heap.size w'' v (chP (ct 1) X q.data.toList).1) ∧ Below w9.heap.size w9 w'') := by
          have := ipr_any X (some ⟨xb, 0, none⟩) xc q 1 w9 HX9.out.src HXW.out (HT.out _ HB9.out) (by omega)
          rw [HCT.out.1] at this
          exact this
        go_wp2_with (go_at_call 15; refine HPR.out.mono ?_; rintro e w20 ⟨⟨v20, rfl, hr20⟩, hb20⟩; refine Hid.out ?_)
        refine Lib.hid ?_
        have HB20 : Hid (Below w.heap.size w w20) := HB9.out.trans (hb20.mono HB9.out.size)
        obtain ⟨zb, zc, zg, hv20, hz20⟩ := hr20
        have HZ20 : Hid (OwP w9.heap.size w20.heap.size w20 zb zg (chP (ct 1) X q.data.toList).1) := hz20
        have HZW : Hid (wtP (chP (ct 1) X q.data.toList).1 ≤ 1048576) := Nat.le_trans (chP_wt (ct_wt _) _ _) HXW.out
        have HZC := Lib.hid HCT.out.2
        subst hv20
        obtain ⟨Z, hZ⟩ : ∃ Z, (chP (ct 1) X q.data.toList).1 = Z := ⟨_, rfl⟩
        rw [hZ] at HZ20 HZW HZC ⊢
        clear hb20 hz20 hZ HPR
        go_wp2_with (go_at_call 7; refine (HCU.out _ _ _ _ HB20.out HZ20.out.src HZW.out).mono ?_; rintro e w21 ⟨rfl, hb21⟩; rw [HZC.out.1]; refine Hid.out ?_)
        refine Lib.hid ?_
        have HB21 : Hid (Below w.heap.size w w21) := HB20.out.trans (hb21.mono HB20.out.size)
        have HZ21 : Hid (OwP w9.heap.size w20.heap.size w21 zb zg Z) := HZ20.out.below hb21
        clear hb21
        go_wp2_with (go_at_call 10; refine (HPO.out _ _ _ _ HZ21.out.src HZW.out HZC.out.2).mono ?_; rintro e w22 ⟨rfl, hb22⟩)
        go_ret
        exact ⟨rfl, HB21.out.trans (hb22.mono HB21.out.size)⟩
      · have he1 := nil_no c1
        by_cases c2 : cu = pa
        · subst c2
          clear HBK HY9
          have HPR : Hid (Calls Tryd.prog 15 #[.slice (some ⟨xb, 0, none⟩) X.length xc, .string q, .int .i64 1] w9 fun e w'' => (∃ v, e = .returned (.tuple #[v, .bool true]) ∧ ResP w9.heap.size w'' v (chP (ct 1) X q.data.toList).1) ∧ Below w9.heap.size w9 w'') := by
            have := ipr_any X (some ⟨xb, 0, none⟩) xc q 1 w9 HX9.out.src HXW.out (HT.out _ HB9.out) (by omega)
            rw [HCT.out.1] at this
            exact this
          go_wp2_with (go_at_call 15; refine HPR.out.mono ?_; rintro e w20 ⟨⟨v20, rfl, hr20⟩, hb20⟩; refine Hid.out ?_)
          refine Lib.hid ?_
          have HB20 : Hid (Below w.heap.size w w20) := HB9.out.trans (hb20.mono HB9.out.size)
          obtain ⟨zb, zc, zg, hv20, hz20⟩ := hr20
          have HZ20 : Hid (OwP w9.heap.size w20.heap.size w20 zb zg (chP (ct 1) X q.data.toList).1) := hz20
          have HZW : Hid (wtP (chP (ct 1) X q.data.toList).1 ≤ 1048576) := Nat.le_trans (chP_wt (ct_wt _) _ _) HXW.out
          have HZC := Lib.hid HCT.out.2
          subst hv20
          obtain ⟨Z, hZ⟩ : ∃ Z, (chP (ct 1) X q.data.toList).1 = Z := ⟨_, rfl⟩
          rw [hZ] at HZ20 HZW HZC ⊢
          clear hb20 hz20 hZ HPR
          go_wp2_with (go_at_call 7; refine (HCU.out _ _ _ _ HB20.out HZ20.out.src HZW.out).mono ?_; rintro e w21 ⟨rfl, hb21⟩; rw [HZC.out.1]; refine Hid.out ?_)
          refine Lib.hid ?_
          have HB21 : Hid (Below w.heap.size w w21) := HB20.out.trans (hb21.mono HB20.out.size)
          have HZ21 : Hid (OwP w9.heap.size w20.heap.size w21 zb zg Z) := HZ20.out.below hb21
          clear hb21
          go_wp2_with (go_at_call 10; refine (HPO.out _ _ _ _ HZ21.out.src HZW.out HZC.out.2).mono ?_; rintro e w22 ⟨rfl, hb22⟩)
          go_ret
          exact ⟨rfl, HB21.out.trans (hb22.mono HB21.out.size)⟩
        · have he2 := beq_no c2
          have HLA : Hid (Calls Tryd.prog 14 #[.slice (some ⟨b, 0, none⟩) ps.length cp, .string q] w9 fun e w'' => e = .returned (.bool (lastB ps q.data.toList)) ∧ Below w9.heap.size w9 w'') := last_any _ _ b cp gs ps q w9 HO9.out HWT.out
          obtain ⟨l, hl⟩ : ∃ l, lastB ps q.data.toList = l := ⟨_, rfl⟩
          rw [hl] at HLA HBK
          have HKK := Lib.hid (HBK.out c1 c2)
          clear hl HBK c1 c2
          go_wp2_with (go_at_call 14; refine HLA.out.mono ?_; rintro e w10 ⟨rfl, hb10⟩; refine Hid.out ?_)
          refine Lib.hid ?_
          have HB10 : Hid (Below w.heap.size w w10) := HB9.out.trans (hb10.mono HB9.out.size)
          have HX10 : Hid (OwP w3.heap.size w4.heap.size w10 xb xg X) := HX9.out.below hb10
          have HY10 : Hid (OwP w'.heap.size w9.heap.size w10 yb yg Y) := HY9.out.below hb10
          clear hb10 HLA
          cases l
          · clear HKK
            have HPR : Hid (Calls Tryd.prog 15 #[.slice (some ⟨xb, 0, none⟩) X.length xc, .string q, .int .i64 1] w10 fun e w'' => (∃ v, e = .returned (.tuple #[v, .bool true]) ∧ ResP w10.heap.size w'' v (chP (ct 1) X q.data.toList).1) ∧ Below w10.heap.size w10 w'') := by
              have := ipr_any X (some ⟨xb, 0, none⟩) xc q 1 w10 HX10.out.src HXW.out (HT.out _ HB10.out) (by omega)
              rw [HCT.out.1] at this
              exact this
            go_wp2_with (go_at_call 15; refine HPR.out.mono ?_; rintro e w20 ⟨⟨v20, rfl, hr20⟩, hb20⟩; refine Hid.out ?_)
            refine Lib.hid ?_
            have HB20 : Hid (Below w.heap.size w w20) := HB10.out.trans (hb20.mono HB10.out.size)
            obtain ⟨zb, zc, zg, hv20, hz20⟩ := hr20
            have HZ20 : Hid (OwP w10.heap.size w20.heap.size w20 zb zg (chP (ct 1) X q.data.toList).1) := hz20
            have HZW : Hid (wtP (chP (ct 1) X q.data.toList).1 ≤ 1048576) := Nat.le_trans (chP_wt (ct_wt _) _ _) HXW.out
            have HZC := Lib.hid HCT.out.2
            subst hv20
            obtain ⟨Z, hZ⟩ : ∃ Z, (chP (ct 1) X q.data.toList).1 = Z := ⟨_, rfl⟩
            rw [hZ] at HZ20 HZW HZC ⊢
            clear hb20 hz20 hZ HPR
            go_wp2_with (go_at_call 7; refine (HCU.out _ _ _ _ HB20.out HZ20.out.src HZW.out).mono ?_; rintro e w21 ⟨rfl, hb21⟩; rw [HZC.out.1]; refine Hid.out ?_)
            refine Lib.hid ?_
            have HB21 : Hid (Below w.heap.size w w21) := HB20.out.trans (hb21.mono HB20.out.size)
            have HZ21 : Hid (OwP w10.heap.size w20.heap.size w21 zb zg Z) := HZ20.out.below hb21
            clear hb21
            go_wp2_with (go_at_call 10; refine (HPO.out _ _ _ _ HZ21.out.src HZW.out HZC.out.2).mono ?_; rintro e w22 ⟨rfl, hb22⟩)
            go_ret
            exact ⟨rfl, HB21.out.trans (hb22.mono HB21.out.size)⟩
          · obtain ⟨hk1, hk2⟩ := HKK.out rfl
            subst hk1
            have HK2 := Lib.hid hk2
            clear hk2 HKK
            go_wp2_with (go_at_call 7; refine (HCU.out _ _ _ _ HB10.out HY10.out.src HYW.out).mono ?_; rintro e w11 ⟨rfl, hb11⟩; rw [HK2.out]; refine Hid.out ?_)
            refine Lib.hid ?_
            have HB11 : Hid (Below w.heap.size w w11) := HB10.out.trans (hb11.mono HB10.out.size)
            have HX11 : Hid (OwP w3.heap.size w4.heap.size w11 xb xg X) := HX10.out.below hb11
            clear hb11
            have HPR : Hid (Calls Tryd.prog 15 #[.slice (some ⟨xb, 0, none⟩) X.length xc, .string q, .int .i64 1] w11 fun e w'' => (∃ v, e = .returned (.tuple #[v, .bool true]) ∧ ResP w11.heap.size w'' v (chP (ct 1) X q.data.toList).1) ∧ Below w11.heap.size w11 w'') := by
              have := ipr_any X (some ⟨xb, 0, none⟩) xc q 1 w11 HX11.out.src HXW.out (HT.out _ HB11.out) (by omega)
              rw [HCT.out.1] at this
              exact this
            go_wp2_with (go_at_call 15; refine HPR.out.mono ?_; rintro e w20 ⟨⟨v20, rfl, hr20⟩, hb20⟩; refine Hid.out ?_)
            refine Lib.hid ?_
            have HB20 : Hid (Below w.heap.size w w20) := HB11.out.trans (hb20.mono HB11.out.size)
            obtain ⟨zb, zc, zg, hv20, hz20⟩ := hr20
            have HZ20 : Hid (OwP w11.heap.size w20.heap.size w20 zb zg (chP (ct 1) X q.data.toList).1) := hz20
            have HZW : Hid (wtP (chP (ct 1) X q.data.toList).1 ≤ 1048576) := Nat.le_trans (chP_wt (ct_wt _) _ _) HXW.out
            have HZC := Lib.hid HCT.out.2
            subst hv20
            obtain ⟨Z, hZ⟩ : ∃ Z, (chP (ct 1) X q.data.toList).1 = Z := ⟨_, rfl⟩
            rw [hZ] at HZ20 HZW HZC ⊢
            clear hb20 hz20 hZ HPR
            go_wp2_with (go_at_call 7; refine (HCU.out _ _ _ _ HB20.out HZ20.out.src HZW.out).mono ?_; rintro e w21 ⟨rfl, hb21⟩; rw [HZC.out.1]; refine Hid.out ?_)
            refine Lib.hid ?_
            have HB21 : Hid (Below w.heap.size w w21) := HB20.out.trans (hb21.mono HB20.out.size)
            have HZ21 : Hid (OwP w11.heap.size w20.heap.size w21 zb zg Z) := HZ20.out.below hb21
            clear hb21
            go_wp2_with (go_at_call 10; refine (HPO.out _ _ _ _ HZ21.out.src HZW.out HZC.out.2).mono ?_; rintro e w22 ⟨rfl, hb22⟩)
            go_ret
            exact ⟨rfl, HB21.out.trans (hb22.mono HB21.out.size)⟩
  · have hn' : (1048576 : Int) < (n : Int) := by omega
    have hd' : decide (1048576 < (n : Int)) = true := by simpa using hn'
    go_enter Tryd.func3, Tryd.ntmps3
    go_wp2_with (go_at_call 4; refine (big_any _ _ _ _).mono ?_; rintro e w' ⟨rfl, hw⟩; have hw2 := hw.symm; subst hw2; clear hw; rw [hd'])
    go_ret
    exact ⟨rfl, Below.refl _ _⟩

end Go.Proofs.YtihjdggmmmlpkaaDoor.pf

