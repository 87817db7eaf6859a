import Derived.Test.YtccnepenfglfoaaGreatFD
import Derived.Test.YtccnepenfglfoaaGreatRA
import Derived.Test.YtccnepenfglfoaaGreatKC
import Derived.Lib.Hide
namespace Go.Proofs.YtccnepenfglfoaaGreat.fa
open Go.ChangeShapes Go.WideShapes Go.ChangeAt Go.RowKit Go.Deep Go.Maps
set_option linter.unusedVariables false
set_option linter.unusedSimpArgs false

/-! ### Rows of numbers as they can be read; unitNames -/

/-- A row of numbers as it can be read, perhaps nil. -/
def RdN (w : World) (v : Value) (L : List Nat) : Prop := ∃ a c, v = .slice a L.length c ∧ ∀ (i x : Nat), L[i]? = some x → ∃ bb off, a = some ⟨bb, off, none⟩ ∧ w.cell? ⟨bb, off + i, none⟩ = some (.int .i64 (x : Int))
theorem rdn_own {w : World} {base : Nat} {v : Value} {L : List Nat} (h : w.ownsRow base 3 1 v L.length (fi.nV L)) : RdN w v L := by
  rcases h.2 with ⟨e, h0⟩ | ⟨g, cap, cur, e, hb, hg, hnc, hcm, hcs, htk⟩
  · have hl : L.length = 0 := by first | exact h0 | exact h0.1 | (simpa [fi.nV] using h0) | omega
    obtain rfl := List.eq_nil_of_length_eq_zero hl
    exact ⟨none, 0, e, fun i x hx => by simp at hx⟩
  · refine ⟨some ⟨g, 0, none⟩, cap, e, fun i x hx => ⟨g, 0, rfl, ?_⟩⟩
    have hi := (List.getElem?_eq_some_iff.1 hx).1
    have h1 : (cur.toList.take (L.length * 1))[i]? = (fi.nV L)[i]? := by rw [htk]
    rw [Nat.mul_one, List.getElem?_take_of_lt hi, fi.nV_at hi, (List.getElem?_eq_some_iff.1 hx).2] at h1
    rw [Nat.zero_add]
    simp only [World.cell?, hg]
    simpa using h1

theorem str_nm (P : ByteArray) : sr.strL P.data.toList = .string P := by simp [sr.strL]

set_option maxRecDepth 100000 in
set_option maxHeartbeats 4000000 in
theorem names_any (md : Option Nat) (a : Option Addr) (c : Nat) (us : List ty.Un) (L : List Nat) (v : Value) (w : World) (hb : ty.SrcUn md w a us) (hw : ty.wtUn us ≤ 1048576) (hn : us.length ≤ 100) (hR : RdN w v L) (hL : ∀ x ∈ L, x < us.length) (hl : L.length ≤ 1000) :
    Calls Tryz.prog 19 #[.slice a us.length c, v] w fun e w' => (∃ v', e = .returned v' ∧ sr.OwnS w.heap.size w' v' (L.map (nAt us))) ∧ Below w.heap.size w w' := by
  obtain ⟨ad, cap, rfl, hc⟩ := hR
  have HC := Lib.hid hc
  have HLT := Lib.hid hL
  have HNM : Hid (∀ (x : Nat) (u : ty.Un), us[x]? = some u → ∃ b o, a = some ⟨b, o, none⟩ ∧ u.fName.size ≤ 1048576 ∧ ∀ W, Below w.heap.size w W → W.cell? ⟨b, o + x * 5, none⟩ = some (.string u.fName)) := fun x u hu => by
    rcases hb with h | ⟨b, o, e, _, hc⟩
    · rw [h.2] at hu; simp at hu
    obtain ⟨d1, e1, d2, e2, q0, q1, q2, q3, q4, s1, s2, _⟩ := hc x u hu
    have hwx := ty.wtUn_mem (List.mem_of_getElem? hu)
    unfold ty.wt1Un at hwx
    exact ⟨b, o, e, by omega, fun W h => (h.cell (p := ⟨b, _, none⟩) (World.block_lt_of_cell? _ _ q0)).trans q0⟩
  obtain ⟨m, hmm⟩ : ∃ m, L.length = m := ⟨_, rfl⟩
  have HM : Hid (L.length = m) := hmm
  rw [hmm] at hl ⊢
  obtain ⟨n, hnn⟩ : ∃ n, us.length = n := ⟨_, rfl⟩
  have HN : Hid (us.length = n) := hnn
  rw [hnn] at hn ⊢
  have HZ : Hid ((w.alloc (.cells #[] 9)).ownsRow w.heap.size 9 1 (.slice (some ⟨w.heap.size, 0, none⟩) 0 0) (((L.take 0).map (nAt us))).length (((L.take 0).map (nAt us)).map sr.strL)) := sr.own_zero w
  clear hb hw hc hL hmm hnn
  go_enter Tryz.func19, Tryz.ntmps19
  go_wp2
  go_loopw [5, 7, 11] (fun v _ y wr => ∃ k : Nat, k ≤ m ∧ y = .int .i64 (k : Int) ∧ sr.OwnS w.heap.size wr v ((L.take k).map (nAt us)) ∧ Below w.heap.size w wr) (fun _ _ y _ => m - (intOf y).toNat)
  case atStart => exact ⟨0, Nat.zero_le _, rfl, ⟨HZ.out, sr.not_nil _ _ _⟩, (Below.refl _ _).alloc (Nat.le_refl _) _⟩
  case round =>
    obtain ⟨k, hk, rfl, hown, hbel⟩ := hrel
    have HOW := Lib.hid hown
    have HBE := Lib.hid hbel
    clear hown
    by_cases hkl : k < m
    · have hkl' : (k : Int) < (m : Int) := by omega
      have hk0 : (0 : Int) ≤ (k : Int) := by omega
      obtain ⟨x, hx⟩ : ∃ x, L[k]? = some x := ⟨_, List.getElem?_eq_getElem (by rw [HM.out]; exact hkl)⟩
      obtain ⟨bb, off, rfl, hcc⟩ := HC.out k x hx
      have c0 := (hbel.cell (p := ⟨bb, _, none⟩) (World.block_lt_of_cell? _ _ hcc)).trans hcc
      have hxn : x < n := by have := HLT.out x (List.mem_of_getElem? hx); have := HN.out; omega
      have hxi : (x : Int) < (n : Int) := by omega
      have hx0 : (0 : Int) ≤ (x : Int) := by omega
      obtain ⟨u, hu⟩ : ∃ u, us[x]? = some u := ⟨_, List.getElem?_eq_getElem (by rw [HN.out]; exact hxn)⟩
      obtain ⟨b, o, rfl, hsz, hcn⟩ := HNM.out x u hu
      have c1 := hcn wr hbel
      have HTK : Hid ((L.take (k + 1)).map (nAt us) = (L.take k).map (nAt us) ++ [u.fName.data.toList]) := by
        show _ = _
        rw [List.take_add_one, hx, Option.toList_some, List.map_append, List.map_singleton, nAt_some hu]
        rfl
      have HLK : Hid (((L.take k).map (nAt us)).length ≤ 1000) := by show _ ≤ _; rw [List.length_map, List.length_take]; omega
      have HCL := Lib.hid (fun W : World => cl.clone_any u.fName W (by omega))
      generalize u.fName = P at *
      clear hcc hcn hx hu hsz hbel
      go_wp2_with (go_at_call 24; refine (HCL.out _).mono ?_; rintro e w1 ⟨rfl, hl1⟩; refine Hid.out ?_)
      refine Lib.hid ?_
      have HO1 := Lib.hid (own_below HOW.out.1 (hl1.alloc hl1.size (.cells #[.string P] 9)))
      have HB1 := Lib.hid ((HBE.out.trans (hl1.mono HBE.out.size)).alloc (HBE.out.trans (hl1.mono HBE.out.size)).size (.cells #[.string P] 9))
      have HN1 : Hid (∀ j u, ([P.data.toList].map sr.strL)[j]? = some u → (w1.alloc (.cells #[.string P] 9)).cell? ((⟨w1.heap.size, 0, none⟩ : Addr).add j) = some u) := by
        have h := sr.one_at w1 P.data.toList
        rw [str_nm] at h
        exact h
      clear hl1
      go_wp2_with (at_builtin; refine sr.app_str _ rfl _ _ rfl w.heap.size _ _ rfl HO1.out HOW.out.2 ⟨w1.heap.size, 0, none⟩ 1 _ [P.data.toList] rfl rfl HN1.out (by have := HLK.out; omega) (by have := HB1.out.size; omega) ?_; intro v3 w3 ho3 hv3 hg3; refine Hid.out ?_)
      refine Lib.hid ?_
      have HO3 : Hid (sr.OwnS w.heap.size w3 v3 ((L.take (k + 1)).map (nAt us))) := by show sr.OwnS _ _ _ _; rw [HTK.out]; exact ⟨ho3, hv3⟩
      have HB3 := Lib.hid (below_grownS HB1.out HO1.out hg3 HB1.out.size)
      clear ho3 hv3 hg3
      go_wp2
      go_roundw
      case rel => exact ⟨k + 1, by omega, by go_num, HO3.out, HB3.out⟩
      case measure => simp [intOf]; omega
    · have hkl' : ¬ (k : Int) < (m : Int) := by omega
      obtain rfl : k = m := by omega
      have HE : Hid (sr.OwnS w.heap.size wr u5 (L.map (nAt us))) := by
        have h := HOW.out
        rw [List.take_of_length_le (by rw [HM.out]; exact Nat.le_refl _)] at h
        exact h
      clear hbel
      go_wp2
      go_ret
      exact ⟨⟨_, rfl, HE.out⟩, HBE.out⟩

end Go.Proofs.YtccnepenfglfoaaGreat.fa
