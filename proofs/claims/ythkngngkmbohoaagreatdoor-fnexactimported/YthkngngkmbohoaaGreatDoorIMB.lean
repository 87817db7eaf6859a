import Derived.Test.YthkngngkmbohoaaGreatDoorIMA
import Derived.Test.YthkngngkmbohoaaGreatDoorLO
import Derived.Test.YthkngngkmbohoaaGreatDoorLH
import Derived.Test.YthkngngkmbohoaaGreatDoorLA
import Derived.Test.YthkngngkmbohoaaGreatDoorOR
import Derived.Maps.AppendAt
namespace Go.Proofs.YthkngngkmbohoaaGreatDoor.im
open Go.ChangeShapes Go.WideShapes Go.ChangeAt Go.RowKit Go.Deep Go.Maps
set_option linter.unusedVariables false
set_option linter.unusedSimpArgs false

/-! ### Imported: the specification's side -/

theorem nil_row (w : World) : sr.OwnS w.heap.size (w.alloc (.cells #[] 9)) (.slice (some ⟨w.heap.size, 0, none⟩) 0 0) [] := ⟨sr.own_zero w, sr.not_nil _ _ _⟩
theorem own_bel {B : Nat} {w w' : World} {v : Value} {xs : List (List UInt8)} (h : sr.OwnS B w v xs) (hb : Below w.heap.size w w') : sr.OwnS B w' v xs := ⟨own_below h.1 hb, h.2⟩

def slen : Value → Nat
  | .slice _ n _ => n
  | _ => 0

theorem own_len {B : Nat} {w : World} {v : Value} {xs : List (List UInt8)} (h : sr.OwnS B w v xs) : slen v = xs.length := by
  obtain ⟨g, c, rfl, _, _⟩ := lw.GB.own h
  rfl
/-- A row, and the same without its last. -/
theorem own_pop {B : Nat} {w : World} {v : Value} {s : List (List UInt8)} {p : List UInt8} (h : sr.OwnS B w v (s ++ [p])) : ∃ g c, v = .slice (some ⟨g, 0, none⟩) (s.length + 1) c ∧ s.length + 1 ≤ c ∧ c ≤ maxLen ∧ w.cell? ⟨g, s.length, none⟩ = some (sr.strL p) ∧ sr.OwnS B w (.slice (some ⟨g, 0, none⟩) s.length c) s := by
  obtain ⟨⟨hl, h'⟩, hv⟩ := h
  rcases h' with ⟨e, _⟩ | ⟨g, c, cur, e, hb, hg, hc, hm, hz, ht⟩
  · exact absurd e hv
  · rw [List.length_append, List.length_singleton] at e hc ht
    simp only [Nat.mul_one] at ht hz
    have hcell : ∀ i x, (s ++ [p])[i]? = some x → cur[i]? = some (sr.strL x) := fun i x hx => by
      have hi := (List.getElem?_eq_some_iff.1 hx).1
      rw [List.length_append, List.length_singleton] at hi
      have h1 : (cur.toList.take (s.length + 1))[i]? = ((s ++ [p]).map sr.strL)[i]? := by rw [ht]
      rw [List.getElem?_take_of_lt hi, List.getElem?_map, hx] at h1
      simpa using h1
    refine ⟨g, c, e, hc, hm, ?_, ⟨by simp, .inr ⟨g, c, cur, rfl, hb, hg, by omega, hm, by simpa using hz, ?_⟩⟩, by intro e; cases e⟩
    · have := hcell s.length p (by simp)
      simp only [World.cell?, hg]
      exact this
    · rw [Nat.mul_one]
      apply List.ext_getElem?
      intro i
      by_cases hi : i < s.length
      · rw [List.getElem?_take_of_lt hi]
        have h1 := hcell i s[i] (by rw [List.getElem?_append_left hi]; exact List.getElem?_eq_getElem hi)
        rw [List.getElem?_map, List.getElem?_eq_getElem hi]
        simpa using h1
      · rw [List.getElem?_eq_none (by rw [List.length_take]; omega), List.getElem?_eq_none (by simpa using hi)]

/-- An append of a row of texts to one that is not nil, and where it lies then. -/
theorem app_str_at (w : World) {ops : Array Oper} {rest : List Oper} {o : Oper} {a : Act} {Q : Exit → Act → World → Prop} (hgd : o.guard = none) (s x : Operand)
    (ho : o.op = .call { callee := .builtin .append, args := #[s, x], argTypes := #[23, 23] })
    (base : Nat) (v : Value) (xs : List (List UInt8)) (hs : a.eval s = v) (hown : w.ownsRow base 9 1 v xs.length (xs.map sr.strL)) (hv : v ≠ .slice none 0 0)
    (ad : Addr) (m c : Nat) (ys : List (List UInt8)) (hx : a.eval x = .slice (some ad) m c) (hm : ys.length = m) (hnews : ∀ j u, (ys.map sr.strL)[j]? = some u → w.cell? (ad.add j) = some u) (hlen : xs.length + m ≤ 1000000) (hbase : base ≤ w.heap.size)
    (h : ∀ v' w', w'.ownsRow base 9 1 v' (xs ++ ys).length ((xs ++ ys).map sr.strL) → v' ≠ .slice none 0 0 → w.grownBy w' v.ownBlock → (v'.ownBlock = v.ownBlock ∨ v'.ownBlock = some w.heap.size) → wpList Tryz.prog ops Q rest (a.put o.dst v') w') : wpList Tryz.prog ops Q (o :: rest) a w := by
  obtain ⟨i0, hi, hz0, hz1, hz2⟩ := sr.info_parts sr.info9
  refine wpList_append_own_at w hgd s x 23 ho base 9 i0 _ 1 16 Tryz.underlying23 hi hz0 hz1 hz2 rfl (by omega) v xs.length (xs.map sr.strL) hs hown ad m c (ys.map sr.strL) hx (by simpa using hm) hnews (sr.strL_one _) (by unfold maxLen; omega) (by omega) hbase ?_
  intro v' w' h1 h2 h3 h4
  exact h _ _ (by rw [List.length_append, List.map_append, hm]; exact h1) (fun e => hv (h3.1 e).1) h2 h4


theorem str_row {lo : Nat} {w : World} {a : Option Addr} {l : List ByteArray} (h : ty.SrcS (some lo) w a l) (hl : l.length ≤ 1048576) : sr.StrR w (.slice a (txL l).length l.length) (txL l) := by
  rcases h with h | ⟨b, o, e, _, hc⟩
  · cases h.1
  · refine ⟨b, o, l.length, by rw [e], by rw [txL_len]; exact Nat.le_refl _, by unfold maxLen; omega, fun i x hx => ?_⟩
    have hi := (List.getElem?_eq_some_iff.1 hx).1
    rw [txL_len] at hi
    obtain ⟨y, hy⟩ : ∃ y, l[i]? = some y := ⟨_, List.getElem?_eq_getElem hi⟩
    rw [txL_some hy] at hx
    cases hx
    rw [hc i y hy]
    simp [sr.strL]


set_option maxRecDepth 100000 in
set_option maxHeartbeats 4000000 in
theorem smod_any (a : Option Addr) (c : Nat) (us : List ty.Md) (t : ByteArray) (w : World) (hb : ty.SrcMd none w a us) (hn : us.length ≤ 1048576) :
    Calls Tryz.prog 33 #[.slice a us.length c, .string t] w fun e w' => (∃ r : Int, e = .returned (.int .i64 r) ∧ (r = -1 ∧ ¬ There us t.data.toList ∨ ∃ (i : Nat) (x : ty.Md), r = (i : Int) ∧ us[i]? = some x ∧ nmL x = t.data.toList)) ∧ w' = w := by
  have HB : Hid (ty.SrcMd none w a us) := hb
  have HNO : Hid ((∀ u ∈ us, nmL u ≠ t.data.toList) → ¬ There us t.data.toList) := fun h ⟨u, hu, e⟩ => h u hu e
  obtain ⟨n, hnn⟩ : ∃ n, us.length = n := ⟨_, rfl⟩
  have HN : Hid (us.length = n) := hnn
  rw [hnn] at hn ⊢
  clear hb hnn
  go_enter Tryz.func33, Tryz.ntmps33
  go_wp2
  go_loopw [5] (fun y wr => ∃ i : Nat, i ≤ n ∧ y = .int .i64 (i : Int) ∧ (∀ (j : Nat) (z : ty.Md), j < i → us[j]? = some z → nmL z ≠ t.data.toList) ∧ wr = w) (fun y _ => n - (intOf y).toNat)
  case atStart => exact ⟨0, Nat.zero_le _, rfl, fun j z h => by omega, rfl⟩
  case round =>
    obtain ⟨i, hi, rfl, hno, rfl⟩ := hrel
    have HA : Hid (∀ (j : Nat) (z : ty.Md), j < i → us[j]? = some z → nmL z ≠ t.data.toList) := hno
    clear hno
    by_cases hil : i < n
    · have hil' : (i : Int) < (n : Int) := by omega
      have hi0 : (0 : Int) ≤ (i : Int) := by omega
      obtain ⟨x, hx⟩ : ∃ x, us[i]? = some x := ⟨_, List.getElem?_eq_getElem (by rw [HN.out]; exact hil)⟩
      rcases HB.out with ⟨_, h⟩ | ⟨b, o, rfl, _, hc⟩
      · rw [h] at hx; simp at hx
      obtain ⟨a1, c1, a2, c2, a3, c3, g0, g1, g2, g3, _, _, _⟩ := hc i x hx
      have HX : Hid (us[i]? = some x) := hx
      obtain ⟨P, hP⟩ : ∃ P, x.fName = P := ⟨_, rfl⟩
      have HPP : Hid (x.fName = P) := hP
      rw [hP] at g0
      clear hc hx hP g1 g2 g3
      cases he : (P.toList == t.toList) with
      | true =>
        have HR : Hid (nmL x = t.data.toList) := by show _ = _; unfold nmL; rw [HPP.out, ← ByteArray.toList_eq, ← ByteArray.toList_eq]; simpa using he
        go_wp2
        go_ret
        exact ⟨⟨_, rfl, .inr ⟨i, x, rfl, HX.out, HR.out⟩⟩, rfl⟩
      | false =>
        have HN2 : Hid (∀ (j : Nat) (z : ty.Md), j < i + 1 → us[j]? = some z → nmL z ≠ t.data.toList) := fun j z hj hz => by
          rcases Nat.lt_or_ge j i with h | h
          · exact HA.out j z h hz
          · obtain rfl : j = i := by omega
            rw [HX.out] at hz
            cases hz
            intro e
            have : (P.toList == t.toList) = true := by
              unfold nmL at e
              rw [HPP.out] at e
              rw [ByteArray.toList_eq, ByteArray.toList_eq, e]
              simp
            rw [he] at this
            cases this
        go_wp2
        go_roundw
        case rel => exact ⟨i + 1, by omega, by go_num, HN2.out, by first | trivial | rfl⟩
        case measure => simp [intOf]; omega
    · have hil' : ¬ (i : Int) < (n : Int) := by omega
      have HR := Lib.hid (HNO.out fun u hu => by
        obtain ⟨j, hj⟩ := List.getElem?_of_mem hu
        exact HA.out j u (by have := (List.getElem?_eq_some_iff.1 hj).1; have := HN.out; omega) hj)
      go_wp2
      go_ret
      exact ⟨⟨_, rfl, .inl ⟨rfl, HR.out⟩⟩, rfl⟩

set_option maxRecDepth 100000 in
set_option maxHeartbeats 8000000 in
theorem l17i_any (lo lo1 : Nat) (a a1 : Option Addr) (us : List ty.Md) (br : List ByteArray) (w : World) (hb : ty.SrcMd (some lo) w a us) (hU : Us us) (h1 : ty.SrcS (some lo1) w a1 br) (hbl : br.length ≤ 2000) :
    Calls Tryz.prog 17 #[.slice a us.length us.length, .slice a1 br.length br.length] w fun e w' => (∃ v v2, e = .returned (.tuple #[v, v2]) ∧ sr.OwnS w.heap.size w' v (imA us (txL br))) ∧ Below w.heap.size w w' := by
  have HSR : Hid (ty.SrcMd (some lo) w a us) := hb
  have HFD : Hid (∀ W (t : ByteArray), Below w.heap.size w W → Calls Tryz.prog 33 #[.slice a us.length us.length, .string t] W fun e w' => (∃ r : Int, e = .returned (.int .i64 r) ∧ (r = -1 ∧ ¬ There us t.data.toList ∨ ∃ (i : Nat) (x : ty.Md), r = (i : Int) ∧ us[i]? = some x ∧ nmL x = t.data.toList)) ∧ w' = W) := fun W t h => smod_any a us.length us t W (hb.any.below h) (by have := hU.few; omega)
  have HRL : Hid (∀ x ∈ us, x.fImports.length ≤ 20) := hU.nds
  have HU : Hid (Us us) := hU
  have hn := hU.few
  obtain ⟨xb, xo, xc, hxv, hx1, hx2, hxc⟩ := str_row h1 (by omega)
  have HXL : Hid ((txL br).length = br.length) := txL_len br
  rw [HXL.out] at hxv
  have hxl : (txL br).length ≤ 2000 := by rw [HXL.out]; exact hbl
  rw [hxv]
  obtain ⟨xs, hxs⟩ : ∃ xs, txL br = xs := ⟨_, rfl⟩
  rw [hxs] at hxc hxl HXL ⊢
  obtain ⟨nx, hnx⟩ : ∃ n, br.length = n := ⟨_, rfl⟩
  rw [hnx] at HXL hbl ⊢
  have HNX : Hid (xs.length = nx) := HXL.out
  have HXC : Hid (∀ i x, xs[i]? = some x → w.cell? ⟨xb, xo + i, none⟩ = some (sr.strL x)) := hxc
  obtain ⟨n, hnn⟩ : ∃ n, us.length = n := ⟨_, rfl⟩
  have HN : Hid (us.length = n) := hnn
  rw [hnn] at hn HFD ⊢
  clear hb hxc hnn h1 hU hxv hx1 hx2 hxs hnx HXL
  have HO0 : Hid (∀ ob ob2, (((w.alloc ob).alloc ob2).alloc (.cells #[] 9)).ownsRow (w.heap.size + 2) 9 1 (.slice (some ⟨w.heap.size + 2, 0, none⟩) 0 0) ([] : List (List UInt8)).length (([] : List (List UInt8)).map sr.strL)) := fun ob ob2 => by
    have := sr.own_zero ((w.alloc ob).alloc ob2)
    rwa [World.size_alloc, World.size_alloc] at this
  have HNE : Hid (∀ ob ob' ob2, ∀ j u, (xs.map sr.strL)[j]? = some u → (((w.alloc ob).alloc ob').alloc ob2).cell? ((⟨xb, xo, none⟩ : Addr).add j) = some u) := fun ob ob' ob2 => sr.row_news (fun i x hi => ((((Below.refl w.heap.size w).alloc (Nat.le_refl _) ob).alloc (by simp) ob').alloc (by simp; omega) ob2).cell (p := ⟨xb, xo + i, none⟩) (World.block_lt_of_cell? _ _ (HXC.out i x hi)) |>.trans (HXC.out i x hi))
  go_enter Tryz.func17, Tryz.ntmps17
  go_wp2_with (first
    | (at_builtin; refine app_str_at _ rfl _ _ rfl (w.heap.size + 2) _ [] rfl (HO0.out _ _) (sr.not_nil _ _ _) ⟨xb, xo, none⟩ nx xc xs rfl HNX.out (HNE.out _ _ _) (by simp; omega) (by simp) ?_; intro v1 w1 hown1 hv1 hg1 hat1; refine Hid.out ?_)
    | go_in)
  refine Lib.hid ?_
  rw [List.nil_append] at hown1
  have HW1 : Hid (sr.OwnS (w.heap.size + 2) w1 v1 xs) := ⟨hown1, hv1⟩
  have hgr : ∀ k, (Value.slice (some ⟨w.heap.size + 2, 0, none⟩) 0 0).ownBlock = some k → w.heap.size + 2 = k := fun k hk => Option.some.inj hk
  have HB1 : Hid (Below w.heap.size w w1) := (((((Below.refl _ _).alloc (Nat.le_refl _) _).alloc (by simp) _).alloc (by simp; omega) _).grown hg1 (by simp; omega) (fun k hk => by have := hgr k hk; omega))
  have HF1 : Hid (sr.OwnS w.heap.size w1 (.slice (some ⟨w.heap.size, 0, none⟩) 0 0) []) := by
    have h0 : sr.OwnS w.heap.size (w.alloc (.cells #[] 9)) (.slice (some ⟨w.heap.size, 0, none⟩) 0 0) [] := nil_row w
    exact ⟨((h0.1.alloc _).alloc _).kept hg1 (.inr fun e => by have : w.heap.size = w.heap.size + 2 := Option.some.inj e; omega), h0.2⟩
  have HL1 : Hid (sr.OwnS w.heap.size w1 (.slice (some ⟨w.heap.size + 1, 0, none⟩) 0 0) []) := by
    have h0 : ∀ ob, sr.OwnS w.heap.size ((w.alloc ob).alloc (.cells #[] 9)) (.slice (some ⟨w.heap.size + 1, 0, none⟩) 0 0) [] := fun ob => by
      have := (nil_row (w.alloc ob)).mono (show w.heap.size ≤ _ by simp)
      rwa [World.size_alloc] at this
    exact ⟨((h0 _).1.alloc _).kept hg1 (.inr fun e => by have : w.heap.size + 1 = w.heap.size + 2 := Option.some.inj e; omega), (h0 (.cells #[] 9)).2⟩
  have HD1 : Hid (∀ k, v1.ownBlock = some k → (Value.slice (some ⟨w.heap.size, 0, none⟩) 0 0).ownBlock ≠ some k ∧ (Value.slice (some ⟨w.heap.size + 1, 0, none⟩) 0 0).ownBlock ≠ some k) := fun k hk => by
    have h1 := (HW1.out.1.lt k hk).1
    exact ⟨fun e => by have : w.heap.size = k := Option.some.inj e; omega, fun e => by have : w.heap.size + 1 = k := Option.some.inj e; omega⟩
  have HZ0 : Hid (Bf us xs (· ∈ ([] : List (List UInt8))) xs) := Bf.zero us xs (fun q h => by simp at h)
  clear hown1 hv1 hg1 hat1 hgr HO0 HNE HXC
  go_wp2
  go_loopw [6, 7, 8, 9, 10] (fun v y z _ _ wr => ∃ F L s, Bf us xs (· ∈ F) s ∧ sr.asc F ∧ L.length + s.length + (100 - F.length) * 20 ≤ 4000 ∧ sr.OwnS w.heap.size wr v F ∧ sr.OwnS w.heap.size wr y L ∧ sr.OwnS w.heap.size wr z s ∧ (∀ k, z.ownBlock = some k → v.ownBlock ≠ some k ∧ y.ownBlock ≠ some k) ∧ Below w.heap.size w wr) (fun v _ z _ _ _ => (101 - slen v) * 21 + slen z)
  case atStart => exact ⟨[], [], xs, HZ0.out, List.Pairwise.nil, by simp; omega, HF1.out, HL1.out, HW1.out.mono (by omega), HD1.out, HB1.out⟩
  case round =>
    obtain ⟨F, L, s, hcl, has, hlk, hof, hol, hos, hdi, hbel⟩ := hrel
    have HCL : Hid (Bf us xs (· ∈ F) s) := hcl
    have HAS : Hid (sr.asc F) := has
    have HOF : Hid (sr.OwnS w.heap.size wr u6 F) := hof
    have HOL : Hid (sr.OwnS w.heap.size wr u7 L) := hol
    have HOS : Hid (sr.OwnS w.heap.size wr u8 s) := hos
    have HDI : Hid (∀ k, u8.ownBlock = some k → u6.ownBlock ≠ some k ∧ u7.ownBlock ≠ some k) := hdi
    have HBE : Hid (Below w.heap.size w wr) := hbel
    have hFl : F.length ≤ 100 := by have h1 := hcl.len (sr.asc_nodup has); have h2 := HN.out; omega
    have hsl5 : slen u6 = F.length := own_len hof
    have hsb : s.length ≤ 4000 := by omega
    have HLK : Hid (L.length + s.length + (100 - F.length) * 20 ≤ 4000) := hlk
    have HS5 : Hid (slen u6 = F.length ∧ F.length ≤ 100) := ⟨hsl5, hFl⟩
    clear hof hol hdi hsl5 hFl hlk has
    rcases List.eq_nil_or_concat s with rfl | ⟨s', p, rfl⟩
    · obtain ⟨g6, c6, hve6, _, _⟩ := lw.GB.own hos
      subst hve6
      have HE : Hid (F = imA us xs) := HCL.out.spec HU.out HAS.out
      clear hcl hos hbel
      go_wp2
      go_ret2
      exact ⟨⟨_, _, rfl, by rw [← HE.out]; exact HOF.out⟩, HBE.out⟩
    · rw [List.concat_eq_append] at *
      obtain ⟨g6, c6, hve6, hc1, hc2, hcp, hpop⟩ := own_pop hos
      subst hve6
      obtain ⟨N, hNN⟩ : ∃ N, s'.length = N := ⟨_, rfl⟩
      have HSN : Hid (s'.length = N) := hNN
      rw [hNN] at hc1 hcp hpop
      rw [hNN]
      have hNb : N ≤ 4000 := by rw [List.length_append] at hsb; simp at hsb; omega
      have HLN : Hid (L.length + (N + 1) + (100 - F.length) * 20 ≤ 4000) := by have h := HLK.out; rw [List.length_append, hNN] at h; exact h
      have HPO : Hid (sr.OwnS w.heap.size wr (.slice (some ⟨g6, 0, none⟩) N c6) s') := hpop
      have hst : sr.strL p = .string ⟨p.toArray⟩ := rfl
      rw [hst] at hcp
      obtain ⟨t, ht⟩ : ∃ t : ByteArray, (⟨p.toArray⟩ : ByteArray) = t := ⟨_, rfl⟩
      rw [ht] at hcp
      have HTP : Hid (t.data.toList = p) := by show _ = _; rw [← ht]
      have HMM : Hid (∀ x, x ∈ s' ++ [p] ↔ x = p ∨ x ∈ s') := fun x => by simp [or_comm]
      have hN1 : (0 : Int) < (N : Int) + 1 := by omega
      have hN2 : (N : Int) + 1 - 1 = (N : Int) := by omega
      have hN3 : IntKind.i64.wrap (N : Int) = (N : Int) := by rw [IntKind.wrap_i64]; omega
      have hN4 : (0 : Int) ≤ (N : Int) := by omega
      have hN5 : (N : Int) < (N : Int) + 1 := by omega
      have hN6 : (N : Int) ≤ (c6 : Int) := by omega
      have HDP : Hid (∀ k, (Value.slice (some ⟨g6, 0, none⟩) N c6).ownBlock = some k → u6.ownBlock ≠ some k ∧ u7.ownBlock ≠ some k) := fun k hk => HDI.out k hk
      have HMS : Hid (slen (Value.slice (some ⟨g6, 0, none⟩) (N + 1) c6) = N + 1) := rfl
      have hg6 : g6 < wr.heap.size := by obtain ⟨_, _, e, _, hgb⟩ := lw.GB.own hpop; cases e; exact hgb.lt
      clear hst ht hsb hos hpop hNN hcl hbel hc1 hc2 HLK
      go_wp2_with (go_at_call 33; refine (HFD.out _ t HBE.out).mono ?_; rintro e w2 ⟨⟨r, rfl, hr⟩, hw2⟩; obtain rfl := hw2.symm; clear hw2; refine Hid.out ?_)
      refine Lib.hid ?_
      rw [HTP.out] at hr
      rcases hr with ⟨rfl, hg⟩ | ⟨i, x, rfl, hxi, hg⟩
      · have HC2 : Hid (Bf us xs (· ∈ F) s') := HCL.out.skip HMM.out (fun h => absurd h hg)
        have HAD : Hid (Calls Tryz.prog 34 #[u7, .string t] wr fun e w' => ∃ v', e = .returned v' ∧ (v' = u7 ∧ sr.fadd L t.data.toList = L ∨ sr.OwnS wr.heap.size w' v' (sr.fadd L t.data.toList)) ∧ Below wr.heap.size wr w') := sr.sadd_own L u7 t wr HOL.out.row (by have := HLN.out; omega)
        have HFL : Hid ((sr.fadd L t.data.toList).length ≤ L.length + 1) := (sr.fadd_len _ _).2
        clear hg
        go_wp2_with (go_at_call 34; refine HAD.out.mono ?_; rintro e w4 ⟨v4, rfl, hv4, hl4⟩; refine Hid.out ?_)
        refine Lib.hid ?_
        have HB4 : Hid (Below w.heap.size w w4) := HBE.out.trans (hl4.mono HBE.out.size)
        have HF4 : Hid (sr.OwnS w.heap.size w4 u6 F) := own_bel HOF.out hl4
        have HP4 : Hid (sr.OwnS w.heap.size w4 (.slice (some ⟨g6, 0, none⟩) N c6) s') := own_bel HPO.out hl4
        have HL4 : Hid (∃ L', L'.length ≤ L.length + 1 ∧ sr.OwnS w.heap.size w4 v4 L' ∧ v4.ownBlock ≠ some g6) := by
          rcases hv4 with ⟨rfl, _⟩ | h
          · exact ⟨L, by omega, own_bel HOL.out hl4, (HDP.out g6 rfl).2⟩
          · exact ⟨_, HFL.out, h.mono HBE.out.size, fun e => by have := (h.1.lt g6 e).1; omega⟩
        obtain ⟨L', hL1, hL2, hL3⟩ := HL4.out
        have HD4 : Hid (∀ k, (Value.slice (some ⟨g6, 0, none⟩) N c6).ownBlock = some k → u6.ownBlock ≠ some k ∧ v4.ownBlock ≠ some k) := fun k hk => ⟨(HDP.out k hk).1, by have : g6 = k := Option.some.inj hk; subst this; exact hL3⟩
        have HL5 : Hid (sr.OwnS w.heap.size w4 v4 L') := hL2
        clear hv4 hl4 HL4 hL2 hL3 HAD
        go_wp2
        go_roundw
        case rel => exact ⟨F, L', s', HC2.out, HAS.out, by have := HLN.out; have := HSN.out; omega, HF4.out, HL5.out, HP4.out, HD4.out, HB4.out⟩
        case measure => simp [slen]
      · have hii : ¬ (i : Int) < 0 := by omega
        have hiN : (i : Int) < (n : Int) := by have h1 := (List.getElem?_eq_some_iff.1 hxi).1; have h2 := HN.out; omega
        have hi0 : (0 : Int) ≤ (i : Int) := by omega
        have HHS : Hid (Calls Tryz.prog 35 #[u6, .string t] wr fun e w' => e = .returned (.bool (decide (p ∈ F))) ∧ w' = wr) := by
          have := sr.l3has_any _ u6 t wr HOF.out.row
          rw [HTP.out] at this
          exact this
        by_cases hpF : p ∈ F
        · rw [decide_eq_true hpF] at HHS
          have HC2 : Hid (Bf us xs (· ∈ F) s') := HCL.out.skip HMM.out (fun _ => hpF)
          clear hg hpF
          go_wp2_with (go_at_call 35; refine HHS.out.mono ?_; rintro e w3 ⟨rfl, hw3⟩; obtain rfl := hw3.symm; clear hw3)
          go_roundw
          case rel => exact ⟨F, L, s', HC2.out, HAS.out, by have := HLN.out; have := HSN.out; omega, HOF.out, HOL.out, HPO.out, HDP.out, HBE.out⟩
          case measure => simp [slen]
        · rw [decide_eq_false hpF] at HHS
          have hrl : (imL x).length ≤ 20 := by unfold imL; rw [txL_len]; exact HRL.out x (List.mem_of_getElem? hxi)
          have HC2 : Hid (Bf us xs (· ∈ sr.fadd F p) (s' ++ imL x)) := HCL.out.take HU.out HMM.out (List.mem_of_getElem? hxi) hg (fun q => sr.fadd_mem p F q) (fun q => List.mem_append)
          have HA2 : Hid (sr.asc (sr.fadd F p)) := sr.fadd_asc p F HAS.out
          have HRM : Hid (F.length < 100) := by show _ < _; have h1 := HCL.out.room (sr.asc_nodup HAS.out) hpF ⟨x, List.mem_of_getElem? hxi, hg⟩; have := HN.out; omega
          have HFN : Hid ((sr.fadd F p).length = F.length + 1) := by
            show _ = _
            have h1 := (sr.fadd_len p F).2
            have h2 := nodup_len (F := p :: F) (L := sr.fadd F p) (List.nodup_cons.2 ⟨hpF, sr.asc_nodup HAS.out⟩) (fun y hy => (sr.fadd_mem p F y).2 (by rcases List.mem_cons.1 hy with h | h; exact .inr h; exact .inl h))
            rw [List.length_cons] at h2
            omega
          have HAD : Hid (Calls Tryz.prog 34 #[u6, .string t] wr fun e w' => ∃ v', e = .returned v' ∧ sr.OwnS wr.heap.size w' v' (sr.fadd F p) ∧ Below wr.heap.size wr w') := by
            refine (sr.sadd_own _ u6 t wr HOF.out.row (by have := HRM.out; omega)).mono ?_
            rintro e w' ⟨v', h1, h2, h3⟩
            rw [HTP.out] at h2
            refine ⟨v', h1, ?_, h3⟩
            rcases h2 with ⟨_, h2⟩ | h2
            · exfalso
              have hm : p ∈ sr.fadd F p := (sr.fadd_mem _ _ _).2 (.inr rfl)
              rw [h2] at hm
              exact hpF hm
            · exact h2
          obtain ⟨b, o, rfl, hc⟩ : ∃ b o, a = some ⟨b, o, none⟩ ∧ ∀ (j : Nat) (y : ty.Md), us[j]? = some y → ty.CMd (some lo) wr b (o + j * 4) y := by
            rcases (HSR.out.below HBE.out) with h | ⟨b, o, e, _, h⟩
            · cases h.1
            · exact ⟨b, o, e, h⟩
          obtain ⟨a2, c2, a3, c3, a4, c4, q0, q1, q2, q3, s2, s3, s4⟩ := hc i x hxi
          clear s3 s4
          obtain ⟨rb, ro, rfl, hrc⟩ : ∃ rb ro, a2 = some ⟨rb, ro, none⟩ ∧ ∀ (j : Nat) (y : ByteArray), x.fImports[j]? = some y → wr.cell? ⟨rb, ro + j, none⟩ = some (.string y) := by
            rcases s2 with h | ⟨b, o, e, _, h⟩
            · cases h.1
            · exact ⟨b, o, e, h⟩
          have HRC : Hid (∀ W, Below wr.heap.size wr W → ∀ (j : Nat) (y : List UInt8), (imL x)[j]? = some y → W.cell? ⟨rb, ro + j, none⟩ = some (sr.strL y)) := fun W h j y hy => by
            unfold imL txL at hy
            rw [List.getElem?_map] at hy
            obtain ⟨z, hz, rfl⟩ := Option.map_eq_some_iff.1 hy
            have k := hrc j z hz
            rw [sr.strL_of]
            exact (h.cell (p := ⟨rb, ro + j, none⟩) (World.block_lt_of_cell? _ _ k)).trans k
          have HQ2 : Hid (∀ W, Below wr.heap.size wr W → W.cell? ⟨b, o + i * 4 + 1, none⟩ = some (.slice (some ⟨rb, ro, none⟩) x.fImports.length c2)) := fun W h => (h.cell (p := ⟨b, _, none⟩) (World.block_lt_of_cell? _ _ q1)).trans q1
          have HRN : Hid ((imL x).length = x.fImports.length) := by show _ = _; unfold imL; rw [txL_len]
          obtain ⟨m2, hm2⟩ : ∃ m, x.fImports.length = m := ⟨_, rfl⟩
          rw [hm2] at HQ2 HRN
          obtain ⟨rl, hrlx⟩ : ∃ rl, imL x = rl := ⟨_, rfl⟩
          rw [hrlx] at HRC HC2 HRN hrl
          have hm3 : m2 ≤ 20 := by rw [← HRN.out]; exact hrl
          obtain ⟨fs, hfs⟩ : ∃ fs, sr.fadd F p = fs := ⟨_, rfl⟩
          rw [hfs] at HAD HFN HC2 HA2
          clear hg hc q0 q1 q2 q3 s2 hrc hm2 hrlx hrl hxi hfs
          go_wp2_with (first
            | (go_at_call 35; refine HHS.out.mono ?_; rintro e w3 ⟨rfl, hw3⟩; obtain rfl := hw3.symm; clear hw3)
            | (go_at_call 34; refine HAD.out.mono ?_; rintro e w4 ⟨v4, rfl, hv4, hl4⟩; refine Hid.out ?_))
          refine Lib.hid ?_
          have q2 := HQ2.out _ hl4
          have HB4 : Hid (Below w.heap.size w w4) := HBE.out.trans (hl4.mono HBE.out.size)
          have HO4 : Hid (sr.OwnS wr.heap.size w4 v4 fs) := hv4
          have HL4 : Hid (sr.OwnS w.heap.size w4 u7 L) := own_bel HOL.out hl4
          have HP4 : Hid (w4.ownsRow w.heap.size 9 1 (.slice (some ⟨g6, 0, none⟩) N c6) s'.length (s'.map sr.strL)) := (own_bel HPO.out hl4).1
          have HNE : Hid (∀ j u, (rl.map sr.strL)[j]? = some u → w4.cell? ((⟨rb, ro, none⟩ : Addr).add j) = some u) := sr.row_news (HRC.out _ hl4)
          have hs4 := hl4.size
          clear hv4 hl4 HHS HAD HQ2 HRC
          go_wp2_with (first
            | (at_builtin; refine app_str_at _ rfl _ _ rfl w.heap.size _ s' rfl HP4.out (sr.not_nil _ _ _) ⟨rb, ro, none⟩ m2 c2 rl rfl HRN.out HNE.out (by have := HSN.out; omega) HB4.out.size ?_; intro v5 w5 hown5 hv5 hg5 hat5; refine Hid.out ?_)
            | go_in)
          refine Lib.hid ?_
          have HN5 : Hid (sr.OwnS w.heap.size w5 v5 (s' ++ rl)) := ⟨hown5, hv5⟩
          have HF5 : Hid (sr.OwnS w.heap.size w5 v4 fs) := by
            refine ⟨(HO4.out.mono HBE.out.size).1.kept hg5 (.inr fun e => ?_), HO4.out.2⟩
            have h1 := (HO4.out.1.lt g6 e).1
            omega
          have HL5 : Hid (sr.OwnS w.heap.size w5 u7 L) := ⟨HL4.out.1.kept hg5 (.inr fun e => (HDP.out g6 rfl).2 e), HL4.out.2⟩
          have HB5 : Hid (Below w.heap.size w w5) := HB4.out.grown hg5 HB4.out.size (fun k hk => (HP4.out.lt k hk).1)
          have HD5 : Hid (∀ k, v5.ownBlock = some k → v4.ownBlock ≠ some k ∧ u7.ownBlock ≠ some k) := fun k hk => by
            have h7 := HL4.out.1.lt k
            rcases hat5 with h | h
            · rw [h] at hk
              have e : g6 = k := Option.some.inj hk
              subst e
              exact ⟨fun e => by have h1 := (HO4.out.1.lt g6 e); omega, (HDP.out g6 rfl).2⟩
            · rw [h] at hk
              have : w4.heap.size = k := Option.some.inj hk
              exact ⟨fun e => by have h1 := (HO4.out.1.lt k e); omega, fun e => by have := (h7 e).2; omega⟩
          have HM5 : Hid (slen v4 = F.length + 1 ∧ slen v5 = N + m2) := by
            refine ⟨?_, ?_⟩
            · rw [own_len HF5.out, HFN.out]
            · rw [own_len HN5.out, List.length_append, HSN.out, HRN.out]
          clear hown5 hv5 hg5 hat5 HP4 HO4
          go_wp2
          go_roundw
          case rel => exact ⟨fs, L, s' ++ rl, HC2.out, HA2.out, by rw [List.length_append, HSN.out, HRN.out, HFN.out]; have := HLN.out; have := HRM.out; omega, HF5.out, HL5.out, HN5.out, HD5.out, HB5.out⟩
          case measure =>
            have h1 := HS5.out
            have h2 := HM5.out
            have h3 := HMS.out
            rw [h1.1, h2.1, h2.2]
            simp only [slen]
            omega

set_option maxRecDepth 100000 in
set_option maxHeartbeats 4000000 in
theorem simp_any (lo lo1 : Nat) (a a1 : Option Addr) (us : List ty.Md) (br : List ByteArray) (w : World) (hb : ty.SrcMd (some lo) w a us) (hw : ty.wtMd us ≤ 1048576) (h1 : ty.SrcS (some lo1) w a1 br) (hw1 : ty.wtS br ≤ 1048576) :
    Calls Tryz.prog 6 #[.slice a us.length us.length, .slice a1 br.length br.length] w fun e w' => (∃ v, e = .returned v ∧ sr.StrR w' v (impA us br)) ∧ Below w.heap.size w w' := by
  have hbl : br.length ≤ 1048576 := by have := ty.wtS_len br; omega
  have HUO : Hid (∀ W, W = w → Calls Tryz.prog 16 #[.slice a us.length us.length] W fun e w' => e = .returned (.bool (op.msB us)) ∧ Below W.heap.size W w') := fun W h => by subst h; exact op.smods_any a _ us W hb.any hw
  have HR0 : Hid (∀ W : World, sr.StrR (W.alloc (.cells #[] 9)) (.slice (some ⟨W.heap.size, 0, none⟩) 0 0) []) := fun W => (nil_row W).row
  by_cases hok : op.msB us = true ∧ br.length ≤ 2000
  rotate_left
  · have HA : Hid (impA us br = []) := by show _ = _; unfold impA; rw [if_neg hok]
    rw [HA.out]
    clear HA
    cases hu : op.msB us with
    | false =>
      rw [hu] at HUO
      go_enter Tryz.func6, Tryz.ntmps6
      go_wp2_with (go_at_call 16; refine (HUO.out _ rfl).mono ?_; rintro e w1 ⟨rfl, hl1⟩)
      go_ret
      exact ⟨⟨_, rfl, HR0.out w1⟩, hl1.alloc hl1.size _⟩
    | true =>
      rw [hu] at HUO
      have g1 : (2000 : Int) < (br.length : Int) := by
        have : ¬ br.length ≤ 2000 := fun h => hok ⟨hu, h⟩
        omega
      go_enter Tryz.func6, Tryz.ntmps6
      go_wp2_with (go_at_call 16; refine (HUO.out _ rfl).mono ?_; rintro e w1 ⟨rfl, hl1⟩)
      go_ret
      exact ⟨⟨_, rfl, HR0.out w1⟩, hl1.alloc hl1.size _⟩
  obtain ⟨hu, hb2⟩ := hok
  have HA : Hid (impA us br = imA us (txL br)) := by show _ = _; unfold impA; rw [if_pos ⟨hu, hb2⟩]
  rw [HA.out]
  rw [hu] at HUO
  have g1 : ¬ (2000 : Int) < (br.length : Int) := by omega
  have HIM : Hid (∀ W, Below w.heap.size w W → Calls Tryz.prog 17 #[.slice a us.length us.length, .slice a1 br.length br.length] W fun e w' => (∃ v v2, e = .returned (.tuple #[v, v2]) ∧ sr.OwnS W.heap.size w' v (imA us (txL br))) ∧ Below W.heap.size W w') := fun W h => l17i_any lo lo1 a a1 us br W (hb.below h) (us_of hu) (h1.below h) hb2
  clear hb hw h1 hw1 hbl hu HA HR0
  generalize imA us (txL br) = R at *
  generalize us.length = n at *
  generalize br.length = m at *
  go_enter Tryz.func6, Tryz.ntmps6
  go_wp2_with (first
    | (go_at_call 16; refine (HUO.out _ rfl).mono ?_; rintro e w1 ⟨rfl, hl1⟩)
    | (go_at_call 17; refine (HIM.out _ hl1).mono ?_; rintro e w2 ⟨⟨v, v2, rfl, hv⟩, hl2⟩))
  go_ret
  exact ⟨⟨_, rfl, hv.row⟩, hl1.trans (hl2.mono hl1.size)⟩

end Go.Proofs.YthkngngkmbohoaaGreatDoor.im
