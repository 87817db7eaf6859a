import Derived.Test.YthkngngkmbohoaaGreatDoorOV
import Derived.Test.YthkngngkmbohoaaGreatDoorYA
namespace Go.Proofs.YthkngngkmbohoaaGreatDoor.op
open Go.ChangeShapes Go.WideShapes Go.ChangeAt Go.RowKit Go.Deep
set_option linter.unusedVariables false
set_option linter.unusedSimpArgs false

/-! ### Modules: the plain model; the specification's lists and names -/

def atB (l : List ByteArray) (i : Nat) : ByteArray := l[i]?.getD ByteArray.empty
theorem atB_some {l : List ByteArray} {i : Nat} {x : ByteArray} (h : l[i]? = some x) : atB l i = x := by unfold atB; rw [h]; rfl
def ltB (l : List ByteArray) (i : Nat) : Bool := decide (i = 0) || Op.bytesLess (atB l (i - 1)).toList (atB l i).toList
def ascN (l : List ByteArray) (n : Nat) : Bool := (List.range n).all fun i => ltB l i
/-- Ascending texts. -/
def asB (l : List ByteArray) : Bool := ascN l l.length
theorem ascN_succ {l : List ByteArray} {k : Nat} (h : ascN l k = true) (hk : ltB l k = true) : ascN l (k + 1) = true := by
  unfold ascN at h ⊢
  rw [List.range_succ, List.all_append, h]
  simpa using hk
theorem ascN_no {l : List ByteArray} {k n : Nat} (hn : k < n) (hk : ltB l k = false) : ascN l n = false := by
  unfold ascN
  rw [List.all_eq_false]
  exact ⟨k, List.mem_range.2 hn, by rw [hk]; decide⟩
theorem ltB_succ {l : List ByteArray} {K : Nat} {x y : ByteArray} (hx : l[K + 1]? = some x) (hy : l[K]? = some y) : ltB l (K + 1) = Op.bytesLess y.toList x.toList := by
  unfold ltB
  rw [Nat.add_sub_cancel, atB_some hx, atB_some hy]
  simp

/-- An option's name. -/
def onB (s : ByteArray) : Bool := (spl 46 [] s.data.toList).all nL && decide ((spl 46 [] s.data.toList).length ≤ 8)
def isW (s : ByteArray) (t : List UInt8) : Bool := decide (s.toList = t)
def tyB (k : ByteArray) : Bool := isW k tBool || (isW k tInt || (isW k tText || (isW k tList || chB k.data.toList)))
def nB (l : List ByteArray) : Bool := l.all nm.nameB
def onA (l : List ByteArray) : Bool := l.all onB
def opB (o : ty.Op) : Bool := onB o.fName && (tyB o.fType && ((if o.fGiven = true then valB o.fType.data.toList o.fDefault.data.toList else isW o.fDefault []) && (onA o.fNeeds && (asB o.fNeeds && (decide (o.fNeeds.length ≤ 20) && (isW o.fType tBool || decide (o.fNeeds.length = 0)))))))
def dfB (d : ty.Df) : Bool := onB d.fOption && (decide (1 ≤ d.fRank) && (decide (d.fRank ≤ 1000) && (isW d.fWhen [] || onB d.fWhen)))
def mdB (m : ty.Md) : Bool := nm.nameB m.fName && (asB m.fImports && (decide (m.fImports.length ≤ 20) && (nB m.fImports && (decide (m.fOptions.length ≤ 20) && (decide (m.fDefs.length ≤ 20) && (m.fOptions.all opB && m.fDefs.all dfB))))))
def msB (ms : List ty.Md) : Bool := decide (ms.length ≤ 100) && (asB (ms.map fun m => m.fName) && ms.all mdB)

theorem all_bad {α : Type} {f : α → Bool} {l : List α} {i : Nat} {x : α} (hx : l[i]? = some x) (h : f x = false) : l.all f = false := by
  cases e : l.all f with
  | false => rfl
  | true => rw [List.all_eq_true.1 e x (List.mem_of_getElem? hx)] at h; cases h
theorem all_step {α : Type} {f : α → Bool} {l : List α} {i : Nat} {x : α} (hx : l[i]? = some x) (h : ∀ y ∈ l.take i, f y = true) (hn : f x = true) : ∀ y ∈ l.take (i + 1), f y = true := by
  intro y hy
  rw [List.take_add_one, hx] at hy
  rcases List.mem_append.1 hy with hy | hy
  · exact h y hy
  · have : y = x := by simpa using hy
    rw [this]; exact hn
theorem all_end {α : Type} {f : α → Bool} {l : List α} (h : ∀ y ∈ l.take l.length, f y = true) : l.all f = true := by
  rw [List.take_length] at h
  exact List.all_eq_true.2 h

set_option maxRecDepth 100000 in
set_option maxHeartbeats 1000000 in
theorem sasc_any (a : Option Addr) (c : Nat) (l : List ByteArray) (w : World) (hb : ty.SrcS none w a l) (hn : l.length ≤ 1048576) :
    Calls Tryz.prog 29 #[.slice a l.length c] w fun e w' => e = .returned (.bool (asB l && decide (l.length ≤ 20))) ∧ ∃ q, w' = w.drewN q := by
  have HB : Hid (ty.SrcS none w a l) := hb
  clear hb
  go_enter Tryz.func29, Tryz.ntmps29
  go_wp2
  go_loopw [3] (fun v wr => ∃ i : Nat, v = .int .i64 ((i + 1 : Nat) : Int) ∧ (i < l.length ∨ i = 0) ∧ ascN l (i + 1) = true ∧ ∃ q, wr = w.drewN q) (fun v _ => l.length + 1 - (intOf v).toNat)
  case atStart => exact ⟨0, rfl, .inr rfl, by simp [ascN, ltB], 0, rfl⟩
  case round =>
    obtain ⟨K, rfl, hK, hA, q, rfl⟩ := hrel
    have HAS : Hid (ascN l (K + 1) = true) := hA
    clear hA
    by_cases hil : K + 1 < l.length
    · have hil' : (K : Int) + 1 < (l.length : Int) := by omega
      obtain ⟨x, hx⟩ : ∃ x, l[K + 1]? = some x := ⟨_, List.getElem?_eq_getElem hil⟩
      obtain ⟨y, hy⟩ : ∃ y, l[K]? = some y := ⟨_, List.getElem?_eq_getElem (by omega)⟩
      rcases HB.out with ⟨_, h⟩ | ⟨b, o, rfl, _, hc⟩
      · rw [h] at hil; simp at hil
      have k0 := hc (K + 1) x hx
      have k1 := hc K y hy
      have g1 : (0 : Int) ≤ (K : Int) + 1 := by omega
      have g3 : (0 : Int) ≤ (K : Int) := by omega
      have g4 : (K : Int) < (l.length : Int) := by omega
      have g6 : IntKind.i64.wrap (K : Int) = (K : Int) := by rw [IntKind.wrap_i64]; omega
      have hlt := ltB_succ hx hy
      clear hc HB
      cases hl : Op.bytesLess y.toList x.toList with
      | true =>
        have HX2 : Hid (ascN l (K + 1 + 1) = true) := ascN_succ HAS.out (hlt.trans hl)
        clear hlt hx hy
        go_wp2
        go_quiet (fail)
        go_wp2
        go_roundw
        case rel => exact ⟨K + 1, by go_num, .inl hil, HX2.out, _, rfl⟩
        case measure => simp [intOf]; omega
      | false =>
        have HR : Hid (asB l = false) := ascN_no hil (hlt.trans hl)
        clear hlt hx hy
        go_wp2
        go_quiet (fail)
        go_wp2
        go_ret
        exact ⟨ret_bool (by rw [HR.out]; rfl), q + nq, by first | rfl | exact World.drewN_drewN _ _ _ | simp [World.drewN_drewN]⟩
    · have hil' : ¬ (K : Int) + 1 < (l.length : Int) := by omega
      have HR : Hid (asB l = true) := by
        show _ = _
        unfold asB
        rcases Nat.eq_zero_or_pos l.length with h | h
        · rw [h]; rfl
        · rw [show l.length = K + 1 by omega]; exact HAS.out
      go_wp2
      go_ret
      exact ⟨ret_bool (by rw [HR.out, Bool.true_and]; first | rfl | (rw [Bool.eq_iff_iff]; simp; omega)), q, rfl⟩

set_option maxRecDepth 100000 in
set_option maxHeartbeats 1000000 in
theorem snames_any (a : Option Addr) (c : Nat) (l : List ByteArray) (w : World) (hb : ty.SrcS none w a l) (hn : ty.wtS l ≤ 1048576) :
    Calls Tryz.prog 30 #[.slice a l.length c] w fun e w' => e = .returned (.bool (nB l && decide (l.length ≤ 2000))) ∧ w' = w := by
  have hl := ty.wtS_len l
  have HW : Hid (∀ x ∈ l, x.size ≤ 1048576) := fun x hx => by have := ty.wtS_mem hx; omega
  have HB : Hid (ty.SrcS none w a l) := hb
  clear hb
  go_enter Tryz.func30, Tryz.ntmps30
  go_wp2
  go_loop [3] (fun v => ∃ i : Nat, i ≤ l.length ∧ v = .int .i64 (i : Int) ∧ ∀ y ∈ l.take i, nm.nameB y = true) (fun v => l.length - (intOf v).toNat)
  case atStart => exact ⟨0, Nat.zero_le _, rfl, by simp⟩
  case round =>
    obtain ⟨i, hi, rfl, hA⟩ := hrel
    have HAL : Hid (∀ y ∈ l.take i, nm.nameB y = true) := hA
    clear hA
    by_cases hil : i < l.length
    · have hil' : (i : Int) < (l.length : Int) := by omega
      obtain ⟨x, hx⟩ : ∃ x, l[i]? = some x := ⟨_, List.getElem?_eq_getElem hil⟩
      rcases HB.out with ⟨_, h⟩ | ⟨b, o, rfl, _, hc⟩
      · rw [h] at hil; simp at hil
      have k0 := hc i x hx
      have HX : Hid (l[i]? = some x) := hx
      have HNM : Hid (∀ W, Calls Tryz.prog 28 #[.string x] W fun e w' => e = .returned (.bool (nm.nameB x)) ∧ w' = W) := fun W => nm.spec_any x (HW.out x (List.mem_of_getElem? hx)) W
      clear hc hx HB
      cases hnb : nm.nameB x with
      | false =>
        rw [hnb] at HNM
        have HR : Hid (nB l = false) := all_bad HX.out hnb
        clear hnb
        go_wp2_with (go_at_call 28; refine (HNM.out _).mono ?_; rintro e w2 ⟨rfl, hw2⟩; obtain rfl := hw2.symm; clear hw2)
        go_ret
        exact ⟨ret_bool (by rw [HR.out]; rfl), rfl⟩
      | true =>
        rw [hnb] at HNM
        have HT : Hid (nm.nameB x = true) := hnb
        clear hnb
        go_wp2_with (go_at_call 28; refine (HNM.out _).mono ?_; rintro e w2 ⟨rfl, hw2⟩; obtain rfl := hw2.symm; clear hw2)
        go_round
        case rel => exact ⟨i + 1, by omega, by go_num, all_step HX.out HAL.out HT.out⟩
        case measure => simp [intOf]; omega
    · have hil' : ¬ (i : Int) < (l.length : Int) := by omega
      obtain rfl : i = l.length := by omega
      have HR : Hid (nB l = true) := all_end HAL.out
      go_wp2
      go_ret
      exact ⟨ret_bool (by rw [HR.out, Bool.true_and]; first | rfl | (rw [Bool.eq_iff_iff]; simp; omega)), rfl⟩

set_option maxRecDepth 100000 in
set_option maxHeartbeats 1000000 in
theorem sonm_any (s : ByteArray) (hs : s.size ≤ 1048576) (w : World) :
    Calls Tryz.prog 32 #[.string s] w fun e w' => e = .returned (.bool (onB s)) ∧ Below w.heap.size w w' := by
  have HSP : Hid (Calls Tryz.prog 54 #[.string s, .int .u8 46] w fun e w' => Rtn (spl 46 [] s.data.toList) e w' ∧ Below w.heap.size w w') := ssplit_any 46 s hs w
  have hlen : (spl 46 [] s.data.toList).length ≤ 1048577 := by have := spl_long 46 s.data.toList; simp at this; omega
  have HSM : Hid (∀ x ∈ spl 46 [] s.data.toList, x.length ≤ 1048576) := fun x hx => by have := spl_small 46 s.data.toList [] x hx; simp at this; omega
  obtain ⟨R, hR⟩ : ∃ R, onB s = R := ⟨_, rfl⟩
  have HR : Hid (R = ((spl 46 [] s.data.toList).all nL && decide ((spl 46 [] s.data.toList).length ≤ 8))) := by show _ = _; rw [← hR]; rfl
  rw [hR]
  obtain ⟨ps, hps⟩ : ∃ ws, spl 46 [] s.data.toList = ws := ⟨_, rfl⟩
  rw [hps] at HSP hlen HSM HR
  clear hps hR
  go_enter Tryz.func32, Tryz.ntmps32
  go_wp2_with (go_at_call 54; refine HSP.out.mono ?_; rintro e w1 ⟨⟨g, off, cap, rfl, hcap, hrow⟩, hl1⟩; refine Hid.out ?_)
  refine Lib.hid ?_
  have HRW : Hid (RowL w1 g off ps) := hrow
  have HB1 : Hid (Below w.heap.size w w1) := hl1
  clear hrow hl1 HSP
  go_wp2
  go_loopw [4] (fun x wr => ∃ j : Nat, j ≤ ps.length ∧ x = .int .i64 (j : Int) ∧ (∀ y ∈ ps.take j, nL y = true) ∧ wr = w1) (fun x _ => ps.length - (intOf x).toNat)
  case atStart => exact ⟨0, Nat.zero_le _, rfl, by simp, rfl⟩
  case round =>
    obtain ⟨j, hj, rfl, hal, rfl⟩ := hrel
    have HAL : Hid (∀ y ∈ ps.take j, nL y = true) := hal
    clear hal
    by_cases hlt : j < ps.length
    · have hlt' : (j : Int) < (ps.length : Int) := by omega
      have hj0 : (0 : Int) ≤ (j : Int) := by omega
      obtain ⟨x, hx⟩ : ∃ x, ps[j]? = some x := ⟨_, List.getElem?_eq_getElem hlt⟩
      have c0 := HRW.out j x hx
      have HX : Hid (ps[j]? = some x) := hx
      have HNM : Hid (∀ W, Calls Tryz.prog 28 #[.string ⟨x.toArray⟩] W fun e w' => e = .returned (.bool (nL x)) ∧ w' = W) := fun W => nm.spec_any ⟨x.toArray⟩ (by show x.toArray.size ≤ _; have := HSM.out x (List.mem_of_getElem? hx); simpa using this) W
      obtain ⟨X, hX⟩ : ∃ X : ByteArray, (⟨x.toArray⟩ : ByteArray) = X := ⟨_, rfl⟩
      rw [hX] at c0 HNM
      clear hx hX
      cases hnb : nL x with
      | false =>
        rw [hnb] at HNM
        have HF : Hid (R = false) := by show _ = _; rw [HR.out, all_bad HX.out hnb]; rfl
        clear hnb
        go_wp2_with (go_at_call 28; refine (HNM.out _).mono ?_; rintro e w2 ⟨rfl, hw2⟩; obtain rfl := hw2.symm; clear hw2)
        go_ret
        exact ⟨ret_bool (by rw [HF.out]), HB1.out⟩
      | true =>
        rw [hnb] at HNM
        have HT : Hid (nL x = true) := hnb
        clear hnb
        go_wp2_with (go_at_call 28; refine (HNM.out _).mono ?_; rintro e w2 ⟨rfl, hw2⟩; obtain rfl := hw2.symm; clear hw2)
        go_roundw
        case rel => exact ⟨j + 1, by omega, by go_num, all_step HX.out HAL.out HT.out, by first | rfl | trivial⟩
        case measure => simp [intOf]; omega
    · have hlt' : ¬ (j : Int) < (ps.length : Int) := by omega
      obtain rfl : j = ps.length := by omega
      have HT : Hid (R = decide (ps.length ≤ 8)) := by
        show _ = _
        rw [HR.out, all_end HAL.out]
        rfl
      go_wp2
      go_ret
      exact ⟨ret_bool (by (rw [HT.out]) <;> first | rfl | (rw [Bool.eq_iff_iff]; simp; omega)), HB1.out⟩

theorem tyB_word {k : ByteArray} (h : k.toList = tBool ∨ k.toList = tInt ∨ k.toList = tText ∨ k.toList = tList) : tyB k = true := by
  unfold tyB isW
  rcases h with h | h | h | h <;> simp [h]
theorem tyB_choice {k : ByteArray} (h1 : ¬ k.toList = tBool) (h2 : ¬ k.toList = tInt) (h3 : ¬ k.toList = tText) (h4 : ¬ k.toList = tList) : tyB k = chW (spl 124 [] k.data.toList) := by
  unfold tyB isW
  rw [decide_eq_false h1, decide_eq_false h2, decide_eq_false h3, decide_eq_false h4]
  rfl

theorem cws_len {ws : List (List UInt8)} : (0 < (cws ws).length) ↔ chW ws = true := by
  unfold cws
  constructor
  · intro h
    split at h
    · next e => exact e
    · simp at h
  · intro h
    rw [if_pos h]
    unfold chW at h
    simp at h
    omega

set_option maxRecDepth 100000 in
set_option maxHeartbeats 1000000 in
theorem stype_any (k : ByteArray) (hk : k.size ≤ 1048576) (w : World) :
    Calls Tryz.prog 52 #[.string k] w fun e w' => e = .returned (.bool (tyB k)) ∧ Below w.heap.size w w' := by
  have HCH : Hid (∀ W : World, Calls Tryz.prog 70 #[.string k] W fun e w' => Rtn (cws (spl 124 [] k.data.toList)) e w' ∧ Below W.heap.size W w') := fun W => schoice_any k hk W
  obtain ⟨R, hR⟩ : ∃ R, tyB k = R := ⟨_, rfl⟩
  have HR : Hid (tyB k = R) := hR
  rw [hR]
  clear hR
  by_cases k1 : k.toList = [98, 111, 111, 108]
  · have HT : Hid (R = true) := by show _ = _; rw [← HR.out, tyB_word (.inl k1)]
    go_enter Tryz.func52, Tryz.ntmps52
    go_wp2
    go_ret
    exact ⟨ret_bool (by rw [HT.out]), Below.refl _ _⟩
  have k1' : (k.toList == [98, 111, 111, 108]) = false := by simpa using k1
  by_cases k2 : k.toList = [105, 110, 116]
  · have HT : Hid (R = true) := by show _ = _; rw [← HR.out, tyB_word (.inr (.inl k2))]
    go_enter Tryz.func52, Tryz.ntmps52
    go_wp2
    go_ret
    exact ⟨ret_bool (by rw [HT.out]), Below.refl _ _⟩
  have k2' : (k.toList == [105, 110, 116]) = false := by simpa using k2
  by_cases k3 : k.toList = [116, 101, 120, 116]
  · have HT : Hid (R = true) := by show _ = _; rw [← HR.out, tyB_word (.inr (.inr (.inl k3)))]
    go_enter Tryz.func52, Tryz.ntmps52
    go_wp2
    go_ret
    exact ⟨ret_bool (by rw [HT.out]), Below.refl _ _⟩
  have k3' : (k.toList == [116, 101, 120, 116]) = false := by simpa using k3
  by_cases k4 : k.toList = [108, 105, 115, 116]
  · have HT : Hid (R = true) := by show _ = _; rw [← HR.out, tyB_word (.inr (.inr (.inr k4)))]
    go_enter Tryz.func52, Tryz.ntmps52
    go_wp2
    go_ret
    exact ⟨ret_bool (by rw [HT.out]), Below.refl _ _⟩
  have k4' : (k.toList == [108, 105, 115, 116]) = false := by simpa using k4
  have HT : Hid (R = decide (0 < (cws (spl 124 [] k.data.toList)).length)) := by
    show _ = _
    rw [← HR.out, tyB_choice k1 k2 k3 k4, Bool.eq_iff_iff, decide_eq_true_iff, cws_len]
  obtain ⟨ps, hps⟩ : ∃ ps, cws (spl 124 [] k.data.toList) = ps := ⟨_, rfl⟩
  rw [hps] at HCH HT
  clear hps HR
  go_enter Tryz.func52, Tryz.ntmps52
  go_wp2_with (go_at_call 70; refine (HCH.out _).mono ?_; rintro e w1 ⟨⟨g, off, cap, rfl, hcap, hrow⟩, hl1⟩)
  go_ret
  exact ⟨ret_bool (by (rw [HT.out]) <;> first | rfl | (rw [Bool.eq_iff_iff]; simp; omega)), hl1⟩

end Go.Proofs.YthkngngkmbohoaaGreatDoor.op
