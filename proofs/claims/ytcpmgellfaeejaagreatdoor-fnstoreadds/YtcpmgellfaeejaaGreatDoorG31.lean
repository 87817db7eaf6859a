import Derived.Test.YtcpmgellfaeejaaGreatDoorG03
import Derived.Test.YtcpmgellfaeejaaGreatDoorG24
import Derived.Test.YtcpmgellfaeejaaGreatDoorG06
import Derived.Shelf.Strings.Search3
import Derived.Lib.IndexMore
import Derived.Lib.AppendZeros
namespace Go.Proofs.YtcpmgellfaeejaaGreatDoor.so
open Go.ChangeShapes Go.WideShapes Go.ChangeAt Go.RowKit Go.Deep Go.Shelf Go.Maps
set_option linter.unusedVariables false
set_option linter.unusedSimpArgs false
theorem cn_ren : laysCN_ren.f 144 = 143 := by kernel_rfl
theorem cn_glo : laysCN_ren.g 1 = tt.laysSP_ren.g 1 := by kernel_rfl
theorem cont_any (s sub : ByteArray) (hs : s.size ≤ 1048576) (w : World) (hm : tt.ML w) : Calls Tryz.prog 143 #[.string s, .string sub] w fun e w' => e = .returned (.bool (Lib.contains s.data.toList sub.data.toList)) ∧ w' = w := by
 obtain ⟨m, hm⟩ := hm
 have := Any.strings_Contains laysCN s sub m w (by omega) (by rw [cn_glo]; exact hm)
 rwa [cn_ren] at this
theorem cont_occ (d q : List UInt8) : Lib.contains d q = true ↔ rf.Occ d q := by
 unfold Lib.contains
 rw [decide_eq_true_eq]
 constructor
 ·intro h
  rcases Lib.index_spec d q with ⟨h1, _⟩ | ⟨i, h1, h2, h3, _⟩
  ·omega
  ·rcases Lib.occAt_room h3 with h4 | h4
   ·rw [Lib.occAt_iff_take d q i h4] at h3
    exact ⟨i, h4, by simpa using h3⟩
   ·subst h4
    exact ⟨0, by simp, by simp⟩
 ·rintro ⟨i, h1, h2⟩
  have h3 : Lib.occAt d q i = true := by rw [Lib.occAt_iff_take d q i h1]; simpa using h2
  rcases Lib.index_spec d q with ⟨_, h4⟩ | ⟨j, h4, _⟩
  ·rw [h4 i (by omega)] at h3
   cases h3
  ·omega
def ptB (t : List ty.Et) (q : List UInt8) : Bool := t.any fun e => Lib.contains e.fData.data.toList q
theorem pt_in (t : List ty.Et) (q : List UInt8) : ptB t q = rf.inB (enT t) t.length q := by
 rw [Bool.eq_iff_iff]
 unfold ptB
 rw [List.any_eq_true]
 constructor
 ·rintro ⟨e, he, hc⟩
  obtain ⟨k, hk⟩ := List.getElem?_of_mem he
  refine rf.inB_iff.2 ⟨k, (List.getElem?_eq_some_iff.1 hk).1, ?_⟩
  rw [enT_some hk]
  exact (cont_occ _ _).1 hc
 ·intro h
  obtain ⟨k, hk, ho⟩ := rf.inB_iff.1 h
  have hx : t[k]? = some t[k] := List.getElem?_eq_getElem hk
  rw [enT_some hx] at ho
  exact ⟨t[k], List.getElem_mem hk, (cont_occ _ _).2 ho⟩
set_option maxRecDepth 100000 in
theorem pt1_any (p0 : ByteArray) (k0 : Int) (d : ByteArray) (x0 : Bool) (cb : Nat) (q : ByteArray) (w : World) (hd : d.size ≤ 1048576) (hm : tt.ML w) (hc : w.cell? ⟨cb, 0, none⟩ = some (.string q)) :
  Calls Tryz.prog 142 #[.agg #[.string p0, .int .i64 k0, .string d, .bool x0], .pointer (some ⟨cb, 0, none⟩)] w fun e w' => e = .returned (.bool (Lib.contains d.data.toList q.data.toList)) ∧ Below w.heap.size w w' := by
 have hcl := World.block_lt_of_cell? _ _ hc
 have HB : Hid (∀ ob, Below w.heap.size w (w.alloc ob)) := fun ob => (Below.refl _ _).alloc (Nat.le_refl _) _
 have HCO : Hid (∀ W, Below w.heap.size w W → Calls Tryz.prog 143 #[.string d, .string q] W fun e w' => e = .returned (.bool (Lib.contains d.data.toList q.data.toList)) ∧ w' = W) := fun W h => cont_any d q hd W (hm.below h)
 obtain ⟨V, hV⟩ : ∃ V, Lib.contains d.data.toList q.data.toList = V := ⟨_, rfl⟩
 rw [hV] at HCO ⊢
 clear hV hm hd
 have hne : cb ≠ w.heap.size := by have : cb < w.heap.size := hcl; omega
 go_enter Tryz.func142, Tryz.ntmps142
 go_wp2_with (go_at_call 143; refine (HCO.out _ (HB.out _)).mono ?_; rintro e w1 ⟨rfl, rfl⟩)
 go_ret
 exact ⟨rfl, HB.out _⟩
set_option maxHeartbeats 2000000 in
set_option maxRecDepth 100000 in
theorem ixE_any (a : Option Addr) (c : Nat) (l : List ty.Et) (cb : Nat) (B : ty.Et → Bool) (w : World) (hb : ty.SrcEt none w a l) (hn : l.length ≤ 1048576)
  (HC : Hid (∀ (i : Nat) (x : ty.Et), l[i]? = some x → ∀ W, Below w.heap.size w W → Calls Tryz.prog 142 #[.agg #[.string x.fPath, .int .i64 x.fKind, .string x.fData, .bool x.fExec], .pointer (some ⟨cb, 0, none⟩)] W fun e w' => e = .returned (.bool (B x)) ∧ Below W.heap.size W w')) :
  Calls Tryz.prog 161 #[.slice a l.length c, .func (.func 142) #[] #[.pointer (some ⟨cb, 0, none⟩)]] w fun e w' => (∃ r : Int, e = .returned (.int .i64 r) ∧ (0 ≤ r ∧ l.any B = true ∨ r = -1 ∧ l.any B = false)) ∧ Below w.heap.size w w' := by
 have HR := Lib.hid hb
 have HYE : Hid (∀ (i : Nat) (x : ty.Et), l[i]? = some x → B x = true → l.any B = true) := fun i x hx h => List.any_eq_true.2 ⟨x, List.mem_of_getElem? hx, h⟩
 have HNO : Hid ((∀ (i : Nat) (x : ty.Et), i < l.length → l[i]? = some x → B x = false) → l.any B = false) := fun h => by
  rw [List.any_eq_false]
  intro x hx
  obtain ⟨i, hi⟩ := List.getElem?_of_mem hx
  rw [h i x (List.getElem?_eq_some_iff.1 hi).1 hi]
  decide
 obtain ⟨V, hV⟩ : ∃ V, l.any B = V := ⟨_, rfl⟩
 rw [hV] at HNO HYE ⊢
 obtain ⟨n, hnn⟩ : ∃ n, l.length = n := ⟨_, rfl⟩
 have HNN : Hid (l.length = n) := hnn
 rw [hnn] at hn HNO ⊢
 clear hb hnn hV
 go_enter Tryz.func161, Tryz.ntmps161
 go_wp2
 go_loopw [5, 8] (fun _ y wr => ∃ i : Nat, i ≤ n ∧ y = .int .i64 (i : Int) ∧ (∀ (j : Nat) (y : ty.Et), j < i → l[j]? = some y → B y = false) ∧ Below w.heap.size w wr) (fun _ y _ => n - (intOf y).toNat)
 case atStart => exact ⟨0, Nat.zero_le _, rfl, fun j y h => by omega, Below.refl _ _⟩
 case round =>
  obtain ⟨i, hi, rfl, h1, hbel⟩ := hrel
  have H1 : Hid (∀ (j : Nat) (y : ty.Et), j < i → l[j]? = some y → B y = false) := h1
  have HBE : Hid (Below w.heap.size w wr) := hbel
  clear h1
  by_cases hin : i < n
  ·have hin' : (i : Int) < (n : Int) := by omega
   have hi0 : (0 : Int) ≤ (i : Int) := by omega
   obtain ⟨x, hx⟩ : ∃ x, l[i]? = some x := ⟨_, List.getElem?_eq_getElem (by rw [HNN.out]; exact hin)⟩
   have HX : Hid (l[i]? = some x) := hx
   rcases HR.out with h | ⟨b, o, rfl, _, hc⟩
   ·rw [h.2] at hx; simp at hx
   obtain ⟨q0, q1, q2, q3⟩ := (hc i x hx).below hbel
   have HCM := Lib.hid (HC.out i x hx wr hbel)
   obtain ⟨BV, hB⟩ : ∃ V, B x = V := ⟨_, rfl⟩
   rw [hB] at HCM
   have HBB : Hid (B x = BV) := hB
   generalize x.fPath = g0 at *
   generalize x.fKind = g1 at *
   generalize x.fData = g2 at *
   generalize x.fExec = g3 at *
   clear hc
   clear hbel hx hB
   cases BV with
   | true =>
    have HF : Hid (V = true) := HYE.out i x HX.out HBB.out
    go_wp2_with (go_at_call 142; refine HCM.out.mono ?_; rintro e w1 ⟨rfl, hl1⟩)
    go_ret
    exact ⟨⟨_, rfl, .inl ⟨hi0, HF.out⟩⟩, HBE.out.trans (hl1.mono HBE.out.size)⟩
   | false =>
    have HN : Hid (∀ (j : Nat) (y : ty.Et), j < i + 1 → l[j]? = some y → B y = false) := fun j y hj hy => by
     rcases Nat.lt_or_ge j i with h | h
     ·exact H1.out j y h hy
     ·obtain rfl : j = i := by omega
      rw [HX.out] at hy
      cases hy
      exact HBB.out
    go_wp2_with (go_at_call 142; refine HCM.out.mono ?_; rintro e w1 ⟨rfl, hl1⟩)
    go_roundw
    case rel => exact ⟨i + 1, by omega, by go_num, HN.out, HBE.out.trans (hl1.mono HBE.out.size)⟩
    case measure => simp [intOf] <;> omega
  ·have hin' : ¬ (i : Int) < (n : Int) := by omega
   obtain rfl : i = n := by omega
   have HF : Hid (V = false) := HNO.out H1.out
   clear hbel
   go_wp2
   go_ret
   exact ⟨⟨_, rfl, .inr ⟨rfl, HF.out⟩⟩, HBE.out⟩
set_option maxRecDepth 100000 in
theorem cfE_any (a : Option Addr) (c : Nat) (l : List ty.Et) (cb : Nat) (B : ty.Et → Bool) (w : World) (hb : ty.SrcEt none w a l) (hn : l.length ≤ 1048576)
  (HC : Hid (∀ (i : Nat) (x : ty.Et), l[i]? = some x → ∀ W, Below w.heap.size w W → Calls Tryz.prog 142 #[.agg #[.string x.fPath, .int .i64 x.fKind, .string x.fData, .bool x.fExec], .pointer (some ⟨cb, 0, none⟩)] W fun e w' => e = .returned (.bool (B x)) ∧ Below W.heap.size W w')) :
  Calls Tryz.prog 141 #[.slice a l.length c, .func (.func 142) #[] #[.pointer (some ⟨cb, 0, none⟩)]] w fun e w' => e = .returned (.bool (l.any B)) ∧ Below w.heap.size w w' := by
 have HIX := Lib.hid (ixE_any a c l cb B w hb hn HC)
 obtain ⟨V, hV⟩ : ∃ V, l.any B = V := ⟨_, rfl⟩
 rw [hV] at HIX ⊢
 generalize l.length = n at *
 clear hV hb HC hn
 go_enter Tryz.func141, Tryz.ntmps141
 go_wp2_with (go_at_call 161; refine HIX.out.mono ?_; rintro e w1 ⟨⟨r, rfl, hr⟩, hl1⟩; refine Hid.out ?_)
 refine Lib.hid ?_
 rcases hr with ⟨h1, rfl⟩ | ⟨rfl, rfl⟩
 ·go_wp2
  go_ret
  exact ⟨by first | rfl | simp, hl1⟩
 ·go_wp2
  go_ret
  exact ⟨by first | rfl | simp, hl1⟩
set_option maxHeartbeats 2000000 in
set_option maxRecDepth 100000 in
theorem pts_any (a : Option Addr) (c : Nat) (t : List ty.Et) (p : ByteArray) (w : World) (hb : ty.SrcEt none w a t) (hw : ty.wtEt t ≤ 1048576) (hp : 13 ≤ p.size) (hpz : p.size ≤ 1048576) (hm : tt.ML w) :
  Calls Tryz.prog 112 #[.slice a t.length c, .string p] w fun e w' => e = .returned (.bool (rf.inB (enT t) t.length (p.data.toList.take 13))) ∧ Below w.heap.size w w' := by
 have htl : t.length ≤ 1048576 := by have := ty.wtEt_len t; omega
 have hq : (p.extract 0 13).data.toList = p.data.toList.take 13 := by rw [tt.bytes_ext]; simp
 have HCF : Hid (∀ W cb, Below w.heap.size w W → W.cell? ⟨cb, 0, none⟩ = some (.string (p.extract 0 13)) → Calls Tryz.prog 141 #[.slice a t.length c, .func (.func 142) #[] #[.pointer (some ⟨cb, 0, none⟩)]] W fun e w' => e = .returned (.bool (rf.inB (enT t) t.length (p.data.toList.take 13))) ∧ Below W.heap.size W w') := fun W cb h hc => by
  rw [← pt_in]
  refine cfE_any a c t cb (fun e => Lib.contains e.fData.data.toList (p.data.toList.take 13)) W (hb.below h) htl (fun i x hx W' h' => ?_)
  have hwx := ty.wtEt_mem (List.mem_of_getElem? hx)
  unfold ty.wt1Et at hwx
  have := pt1_any x.fPath x.fKind x.fData x.fExec cb (p.extract 0 13) W' (by omega) (hm.below (h.trans (h'.mono h.size))) ((h'.cell (p := ⟨cb, 0, none⟩) (World.block_lt_of_cell? _ _ hc)).trans hc)
  rwa [hq] at this
 obtain ⟨V, hV⟩ : ∃ V, rf.inB (enT t) t.length (p.data.toList.take 13) = V := ⟨_, rfl⟩
 rw [hV] at HCF ⊢
 have hp' : (13 : Int) ≤ (p.size : Int) := by omega
 generalize t.length = n at *
 clear hb hm hV hq hw
 have HA : Hid (Below w.heap.size w (w.alloc (.cells #[.string (p.extract 0 13)] 9))) := (Below.refl _ _).alloc (Nat.le_refl _) _
 have HCC : Hid ((w.alloc (.cells #[.string (p.extract 0 13)] 9)).cell? ⟨w.heap.size, 0, none⟩ = some (.string (p.extract 0 13))) := by show _ = _; simp [go_sem]
 go_enter Tryz.func112, Tryz.ntmps112
 go_wp2_with (go_at_call 141; refine (HCF.out _ _ HA.out HCC.out).mono ?_; rintro e w1 ⟨rfl, hl1⟩)
 go_ret
 exact ⟨rfl, HA.out.trans (hl1.mono HA.out.size)⟩
set_option maxHeartbeats 2000000 in
set_option maxRecDepth 100000 in
theorem aw1_any (p0 s0 f0 : ByteArray) (v2 : Value) (a : Option Addr) (c : Nat) (t : List ty.Et) (cb : Nat) (p : ByteArray) (w : World) (hb : ty.SrcEt none w a t) (hw : ty.wtEt t ≤ 1048576) (hp : 13 ≤ p.size) (hpz : p.size ≤ 1048576) (hm : tt.ML w) (hc : w.cell? ⟨cb, 0, none⟩ = some (.string p)) (a2 : Option Addr) (n2 c2 : Nat) (hv : v2 = .slice a2 n2 c2) :
  Calls Tryz.prog 111 #[.agg #[.string p0, .string s0, v2, .string f0, .slice a t.length c], .pointer (some ⟨cb, 0, none⟩)] w fun e w' => e = .returned (.bool (rf.inB (enT t) t.length (p.data.toList.take 13))) ∧ Below w.heap.size w w' := by
 subst hv
 have hcl : cb < w.heap.size := World.block_lt_of_cell? _ _ hc
 have HB : Hid (∀ ob, Below w.heap.size w (w.alloc ob)) := fun ob => (Below.refl _ _).alloc (Nat.le_refl _) _
 have HPT : Hid (∀ W, Below w.heap.size w W → Calls Tryz.prog 112 #[.slice a t.length c, .string p] W fun e w' => e = .returned (.bool (rf.inB (enT t) t.length (p.data.toList.take 13))) ∧ Below W.heap.size W w') := fun W h => pts_any a c t p W (hb.below h) hw hp hpz (hm.below h)
 obtain ⟨V, hV⟩ : ∃ V, rf.inB (enT t) t.length (p.data.toList.take 13) = V := ⟨_, rfl⟩
 rw [hV] at HPT ⊢
 generalize t.length = n at *
 clear hb hm hV hw
 have hne : cb ≠ w.heap.size := by omega
 go_enter Tryz.func111, Tryz.ntmps111
 go_wp2_with (go_at_call 112; refine (HPT.out _ (HB.out _)).mono ?_; rintro e w1 ⟨rfl, hl1⟩)
 go_ret
 exact ⟨rfl, (HB.out _).trans (hl1.mono (HB.out _).size)⟩
set_option maxHeartbeats 2000000 in
set_option maxRecDepth 100000 in
theorem ixI_any (a : Option Addr) (c : Nat) (l : List ty.It) (cb : Nat) (B : ty.It → Bool) (w : World) (hb : RdJ w a l) (hn : l.length ≤ 1048576)
  (HC : Hid (∀ (i : Nat) (x : ty.It), l[i]? = some x → ∀ W, Below w.heap.size w W → ∀ a2 c2 a4 c4, RdE w a4 x.fTree → Calls Tryz.prog 111 #[.agg #[.string x.fPath, .string x.fSum, .slice a2 x.fRefs.length c2, .string x.fFrom, .slice a4 x.fTree.length c4], .pointer (some ⟨cb, 0, none⟩)] W fun e w' => e = .returned (.bool (B x)) ∧ Below W.heap.size W w')) :
  Calls Tryz.prog 140 #[.slice a l.length c, .func (.func 111) #[] #[.pointer (some ⟨cb, 0, none⟩)]] w fun e w' => (∃ r : Int, e = .returned (.int .i64 r) ∧ (0 ≤ r ∧ l.any B = true ∨ r = -1 ∧ l.any B = false)) ∧ Below w.heap.size w w' := by
 have HR := Lib.hid hb
 have HYE : Hid (∀ (i : Nat) (x : ty.It), l[i]? = some x → B x = true → l.any B = true) := fun i x hx h => List.any_eq_true.2 ⟨x, List.mem_of_getElem? hx, h⟩
 have HNO : Hid ((∀ (i : Nat) (x : ty.It), i < l.length → l[i]? = some x → B x = false) → l.any B = false) := fun h => by
  rw [List.any_eq_false]
  intro x hx
  obtain ⟨i, hi⟩ := List.getElem?_of_mem hx
  rw [h i x (List.getElem?_eq_some_iff.1 hi).1 hi]
  decide
 obtain ⟨V, hV⟩ : ∃ V, l.any B = V := ⟨_, rfl⟩
 rw [hV] at HNO HYE ⊢
 obtain ⟨n, hnn⟩ : ∃ n, l.length = n := ⟨_, rfl⟩
 have HNN : Hid (l.length = n) := hnn
 rw [hnn] at hn HNO ⊢
 clear hb hnn hV
 go_enter Tryz.func140, Tryz.ntmps140
 go_wp2
 go_loopw [5, 8] (fun _ y wr => ∃ i : Nat, i ≤ n ∧ y = .int .i64 (i : Int) ∧ (∀ (j : Nat) (y : ty.It), j < i → l[j]? = some y → B y = false) ∧ Below w.heap.size w wr) (fun _ y _ => n - (intOf y).toNat)
 case atStart => exact ⟨0, Nat.zero_le _, rfl, fun j y h => by omega, Below.refl _ _⟩
 case round =>
  obtain ⟨i, hi, rfl, h1, hbel⟩ := hrel
  have H1 : Hid (∀ (j : Nat) (y : ty.It), j < i → l[j]? = some y → B y = false) := h1
  have HBE : Hid (Below w.heap.size w wr) := hbel
  clear h1
  by_cases hin : i < n
  ·have hin' : (i : Int) < (n : Int) := by omega
   have hi0 : (0 : Int) ≤ (i : Int) := by omega
   obtain ⟨x, hx⟩ : ∃ x, l[i]? = some x := ⟨_, List.getElem?_eq_getElem (by rw [HNN.out]; exact hin)⟩
   have HX : Hid (l[i]? = some x) := hx
   obtain ⟨b, o, a2, c2, a4, c4, rfl, ⟨q0, q1, q2, q3, q4⟩, s2, s4⟩ := HR.out i x hx
   have k : ∀ {r v}, w.cell? ⟨b, r, none⟩ = some v → wr.cell? ⟨b, r, none⟩ = some v := fun {r v} h' => (hbel.cell (p := ⟨b, r, none⟩) (World.block_lt_of_cell? _ _ h')).trans h'
   have q0 := k q0
   have q1 := k q1
   have q2 := k q2
   have q3 := k q3
   have q4 := k q4
   have HCM := Lib.hid (HC.out i x hx wr hbel a2 c2 a4 c4 s4)
   obtain ⟨BV, hB⟩ : ∃ V, B x = V := ⟨_, rfl⟩
   rw [hB] at HCM
   have HBB : Hid (B x = BV) := hB
   generalize x.fPath = g0 at *
   generalize x.fSum = g1 at *
   generalize x.fFrom = g3 at *
   generalize x.fRefs.length = g2 at *
   generalize x.fTree.length = g4 at *
   clear s2 s4 k
   clear hbel hx hB
   cases BV with
   | true =>
    have HF : Hid (V = true) := HYE.out i x HX.out HBB.out
    go_wp2_with (go_at_call 111; refine HCM.out.mono ?_; rintro e w1 ⟨rfl, hl1⟩)
    go_ret
    exact ⟨⟨_, rfl, .inl ⟨hi0, HF.out⟩⟩, HBE.out.trans (hl1.mono HBE.out.size)⟩
   | false =>
    have HN : Hid (∀ (j : Nat) (y : ty.It), j < i + 1 → l[j]? = some y → B y = false) := fun j y hj hy => by
     rcases Nat.lt_or_ge j i with h | h
     ·exact H1.out j y h hy
     ·obtain rfl : j = i := by omega
      rw [HX.out] at hy
      cases hy
      exact HBB.out
    go_wp2_with (go_at_call 111; refine HCM.out.mono ?_; rintro e w1 ⟨rfl, hl1⟩)
    go_roundw
    case rel => exact ⟨i + 1, by omega, by go_num, HN.out, HBE.out.trans (hl1.mono HBE.out.size)⟩
    case measure => simp [intOf] <;> omega
  ·have hin' : ¬ (i : Int) < (n : Int) := by omega
   obtain rfl : i = n := by omega
   have HF : Hid (V = false) := HNO.out H1.out
   clear hbel
   go_wp2
   go_ret
   exact ⟨⟨_, rfl, .inr ⟨rfl, HF.out⟩⟩, HBE.out⟩
set_option maxRecDepth 100000 in
theorem cfI_any (a : Option Addr) (c : Nat) (l : List ty.It) (cb : Nat) (B : ty.It → Bool) (w : World) (hb : RdJ w a l) (hn : l.length ≤ 1048576)
  (HC : Hid (∀ (i : Nat) (x : ty.It), l[i]? = some x → ∀ W, Below w.heap.size w W → ∀ a2 c2 a4 c4, RdE w a4 x.fTree → Calls Tryz.prog 111 #[.agg #[.string x.fPath, .string x.fSum, .slice a2 x.fRefs.length c2, .string x.fFrom, .slice a4 x.fTree.length c4], .pointer (some ⟨cb, 0, none⟩)] W fun e w' => e = .returned (.bool (B x)) ∧ Below W.heap.size W w')) :
  Calls Tryz.prog 110 #[.slice a l.length c, .func (.func 111) #[] #[.pointer (some ⟨cb, 0, none⟩)]] w fun e w' => e = .returned (.bool (l.any B)) ∧ Below w.heap.size w w' := by
 have HIX := Lib.hid (ixI_any a c l cb B w hb hn HC)
 obtain ⟨V, hV⟩ : ∃ V, l.any B = V := ⟨_, rfl⟩
 rw [hV] at HIX ⊢
 generalize l.length = n at *
 clear hV hb HC hn
 go_enter Tryz.func110, Tryz.ntmps110
 go_wp2_with (go_at_call 140; refine HIX.out.mono ?_; rintro e w1 ⟨⟨r, rfl, hr⟩, hl1⟩; refine Hid.out ?_)
 refine Lib.hid ?_
 rcases hr with ⟨h1, rfl⟩ | ⟨rfl, rfl⟩
 ·go_wp2
  go_ret
  exact ⟨by first | rfl | simp, hl1⟩
 ·go_wp2
  go_ret
  exact ⟨by first | rfl | simp, hl1⟩
set_option maxHeartbeats 2000000 in
set_option maxRecDepth 100000 in
theorem isaw_any (lo : Nat) (a : Option Addr) (c : Nat) (ps : List ty.It) (p : ByteArray) (w : World) (hb : ty.SrcIt (some lo) w a ps) (hw : ty.wtIt ps ≤ 1048576) (hp : 13 ≤ p.size) (hpz : p.size ≤ 1048576) (hm : tt.ML w) :
  Calls Tryz.prog 66 #[.slice a ps.length c, .string p] w fun e w' => e = .returned (.bool (awB ps p)) ∧ Below w.heap.size w w' := by
 have hpl : ps.length ≤ 1048576 := by have := ty.wtIt_len ps; omega
 have HCF : Hid (∀ W cb, Below w.heap.size w W → W.cell? ⟨cb, 0, none⟩ = some (.string p) → Calls Tryz.prog 110 #[.slice a ps.length c, .func (.func 111) #[] #[.pointer (some ⟨cb, 0, none⟩)]] W fun e w' => e = .returned (.bool (awB ps p)) ∧ Below W.heap.size W w') := fun W cb h hc => by
  refine cfI_any a c ps cb (fun y => rf.inB (enT y.fTree) y.fTree.length (p.data.toList.take 13)) W (RdJ.of (hb.below h)) hpl (fun i x hx W' h' a2 c2 a4 c4 s4 => ?_)
  have hwx := ty.wtIt_mem (List.mem_of_getElem? hx)
  unfold ty.wt1It at hwx
  obtain ⟨b4, o4, rfl, hc4⟩ := s4
  exact aw1_any x.fPath x.fSum x.fFrom _ (some ⟨b4, o4, none⟩) c4 x.fTree cb p W' (.inr ⟨b4, o4, rfl, ty.Okb.free _ _, fun j y hy => (hc4 j y hy).below h'⟩) (by omega) hp hpz (hm.below (h.trans (h'.mono h.size))) ((h'.cell (p := ⟨cb, 0, none⟩) (World.block_lt_of_cell? _ _ hc)).trans hc) _ _ _ rfl
 obtain ⟨V, hV⟩ : ∃ V, awB ps p = V := ⟨_, rfl⟩
 rw [hV] at HCF ⊢
 generalize ps.length = n at *
 clear hb hm hV hw
 have HA : Hid (Below w.heap.size w (w.alloc (.cells #[.string p] 9))) := (Below.refl _ _).alloc (Nat.le_refl _) _
 have HCC : Hid ((w.alloc (.cells #[.string p] 9)).cell? ⟨w.heap.size, 0, none⟩ = some (.string p)) := by show _ = _; simp [go_sem]
 go_enter Tryz.func66, Tryz.ntmps66
 go_wp2_with (go_at_call 110; refine (HCF.out _ _ HA.out HCC.out).mono ?_; rintro e w1 ⟨rfl, hl1⟩)
 go_ret
 exact ⟨rfl, HA.out.trans (hl1.mono HA.out.size)⟩
end Go.Proofs.YtcpmgellfaeejaaGreatDoor.so

namespace Go.Proofs.YtcpmgellfaeejaaGreatDoor.so
open Go.ChangeShapes Go.WideShapes Go.ChangeAt Go.RowKit Go.Deep Go.Shelf Go.Maps
set_option linter.unusedVariables false
set_option linter.unusedSimpArgs false
theorem app_its (w : World) {ops : Array Oper} {rest : List Oper} {o : Oper} {a : Act} {Q : Exit → Act → World → Prop} (hgd : o.guard = none) (s x : Operand)
  (ho : o.op = .call { callee := .builtin .append, args := #[s, x], argTypes := #[24, 24] })
  (base : Nat) (v : Value) (zs : List Iz) (hs : a.eval s = v) (hown : RwI base w v zs)
  (ad : Addr) (c : Nat) (ys : List Iz) (m : Nat) (hm : ys.length = m) (hx : a.eval x = .slice (some ad) m c) (hnews : ∀ j u, (itC ys)[j]? = some u → w.cell? (ad.add j) = some u)
  (h63 : zs.length + m ≤ 400000000) (hbase : base ≤ w.heap.size)
  (h : ∀ v' w', RwI base w' v' (zs ++ ys) → w.grownBy w' v.ownBlock → wpList Tryz.prog ops Q rest (a.put o.dst v') w') : wpList Tryz.prog ops Q (o :: rest) a w := by
 obtain ⟨i, hi, hzz⟩ := Option.map_eq_some_iff.1 ty.infoIt
 simp only [Prod.mk.injEq] at hzz
 obtain ⟨hz, hsi, hb⟩ := hzz
 refine wpList_append_own w hgd s x 24 ho base 42 i _ 5 96 Tryz.underlying24 hi hz hsi hb rfl (by decide) v zs.length (itC zs) hs hown.own ad m c (itC ys) hx (by rw [itC_len, hm]) hnews (fun u hu => ?_) (by unfold maxLen; omega) (by omega) hbase (fun v' w' p q r => h v' w' ⟨?_, fun e => hown.nn (r.1 e).1⟩ q)
 ·have key : ∀ l : List Iz, ∀ u ∈ itC l, u.oneCell' = true := by
   intro l
   induction l with
   | nil => intro u hu; cases hu
   | cons z l ih =>
    intro u hu
    rw [itC, List.mem_append] at hu
    rcases hu with h | h
    ·exact izC_one z u h
    ·exact ih u h
  exact key ys u hu
 ·rw [itC_app, List.length_append, hm]
  exact p
set_option maxRecDepth 100000 in
theorem growI_any (n : Nat) (hn : 0 < n) (hn2 : n ≤ 100000) (w : World) :
  Calls Tryz.prog 115 #[.slice none 0 0, .int .i64 (n : Int)] w fun e w' => (∃ v, e = .returned v ∧ RwI w.heap.size w' v []) ∧ Below w.heap.size w w' := by
 obtain ⟨i0, hi, hzz⟩ := Option.map_eq_some_iff.1 ty.infoIt
 simp only [Prod.mk.injEq] at hzz
 obtain ⟨hz0, hz1, hz2⟩ := hzz
 have hr := fun ty => Lib.run_append_nil_zeros (P := Tryz.prog) w 24 3 ty 42 i0 _ .i64 .i64 Tryz.underlying24 Tryz.underlying3 hi hz0 n hn (by rw [hz1]; omega) (by omega) (by rw [hz2]; omega)
 have hge := grownCap_ge w n 0 42
 have hle := grownCap_le_maxLen w n 0 42 (by unfold maxLen; omega)
 obtain ⟨G, hG⟩ : ∃ G, grownCap w n 0 42 = G := ⟨_, rfl⟩
 rw [hG] at hge hle
 simp only [hG] at hr
 obtain ⟨cs, hcs⟩ : ∃ cs, Builtin.zeroCells (Value.agg #[.string ⟨#[]⟩, .string ⟨#[]⟩, .slice none 0 0, .string ⟨#[]⟩, .slice none 0 0]).cells n ++ Builtin.zeroCells (Value.agg #[.string ⟨#[]⟩, .string ⟨#[]⟩, .slice none 0 0, .string ⟨#[]⟩, .slice none 0 0]).cells (G - n) = cs := ⟨_, rfl⟩
 have hsz : cs.size = G * 5 := by
  rw [← hcs, Array.size_append]
  simp [Builtin.zeroCells, Value.cells]
  omega
 have hr' : ∀ ty, (Builtin.append_ #[24, 3] ty #[.slice none 0 0, .int .i64 (n : Int)]).run Tryz.prog w = .ok (.slice (some ⟨w.heap.size, 0, none⟩) n G) (w.drew.alloc (.cells cs 42)) := fun ty => by rw [← hcs]; exact hr ty
 have HR : Hid (∀ ty, (Builtin.append_ #[24, 3] ty #[.slice none 0 0, .int .i64 (n : Int)]).run Tryz.prog w = .ok (.slice (some ⟨w.heap.size, 0, none⟩) n G) (w.drew.alloc (.cells cs 42))) := hr'
 have HO : Hid (RwI w.heap.size (w.drew.alloc (.cells cs 42)) (.slice (some ⟨w.heap.size, 0, none⟩) 0 G) []) := ⟨⟨rfl, .inr ⟨w.heap.size, G, cs, rfl, Nat.le_refl _, heap_alloc_new w.drew _, Nat.zero_le _, hle, hsz, by simp [itC]⟩⟩, by intro e; cases e⟩
 have hn' : (0 : Int) < (n : Int) := by omega
 have hG' : (n : Int) ≤ (G : Int) := by omega
 clear hr hr' hcs hG hsz
 go_enter Tryz.func115, Tryz.ntmps115
 go_wp2_with (first
  | (at_builtin; refine Lib.wpList_append_run _ rfl _ _ 24 3 rfl _ _ rfl rfl _ _ (HR.out _) ?_)
  | go_in)
 go_ret
 exact ⟨⟨_, rfl, HO.out⟩, ((Below.refl _ w).drew).alloc (Nat.le_refl _) _⟩
def cc3 (A B C : List Iz) (i : Nat) : List Iz := if i = 0 then [] else if i = 1 then A else if i = 2 then A ++ B else A ++ B ++ C
set_option maxRecDepth 100000 in
set_option maxHeartbeats 2000000 in
theorem concatI_any (A B C : List Iz) (nA nC : Nat) (hA : A.length = nA) (hB : B.length = 1) (hC : C.length = nC) (aA aB aC : Addr) (cA cB cC Bk : Nat) (w : World) (k0 : w.cell? ⟨Bk, 0, none⟩ = some (.slice (some aA) nA cA)) (k1 : w.cell? ⟨Bk, 1, none⟩ = some (.slice (some aB) 1 cB)) (k2 : w.cell? ⟨Bk, 2, none⟩ = some (.slice (some aC) nC cC))
  (rA : ∀ W, Below w.heap.size w W → ∀ j u, (itC A)[j]? = some u → W.cell? (aA.add j) = some u) (rB : ∀ W, Below w.heap.size w W → ∀ j u, (itC B)[j]? = some u → W.cell? (aB.add j) = some u) (rC : ∀ W, Below w.heap.size w W → ∀ j u, (itC C)[j]? = some u → W.cell? (aC.add j) = some u) (hnA : nA ≤ 300) (hnC : nC ≤ 300) :
  Calls Tryz.prog 69 #[.slice (some ⟨Bk, 0, none⟩) 3 3] w fun e w' => (∃ v, e = .returned v ∧ RwI w.heap.size w' v (A ++ B ++ C)) ∧ Below w.heap.size w w' := by
 have HG : Hid (∀ W, Calls Tryz.prog 115 #[.slice none 0 0, .int .i64 ((nA : Int) + 1 + (nC : Int))] W fun e w' => (∃ v, e = .returned v ∧ RwI W.heap.size w' v []) ∧ Below W.heap.size W w') := fun W => by
  have := growI_any (nA + 1 + nC) (by omega) (by omega) W
  rwa [Int.natCast_add, Int.natCast_add] at this
 have HRA : Hid (∀ W, Below w.heap.size w W → ∀ j u, (itC A)[j]? = some u → W.cell? (aA.add j) = some u) := rA
 have HRB : Hid (∀ W, Below w.heap.size w W → ∀ j u, (itC B)[j]? = some u → W.cell? (aB.add j) = some u) := rB
 have HRC : Hid (∀ W, Below w.heap.size w W → ∀ j u, (itC C)[j]? = some u → W.cell? (aC.add j) = some u) := rC
 have HLA : Hid (A.length = nA) := hA
 have HLB : Hid (B.length = 1) := hB
 have HLC : Hid (C.length = nC) := hC
 have hBk : Bk < w.heap.size := World.block_lt_of_cell? _ _ k0
 have w1 : IntKind.i64.wrap ((nA : Int) + 1) = (nA : Int) + 1 := by rw [IntKind.wrap_i64]; omega
 have w2 : IntKind.i64.wrap ((nA : Int) + 1 + (nC : Int)) = (nA : Int) + 1 + (nC : Int) := by rw [IntKind.wrap_i64]; omega
 have g0 : ¬ (nA : Int) < 0 := by omega
 have g1 : ¬ (nA : Int) + 1 < 0 := by omega
 have g2 : ¬ (nA : Int) + 1 + (nC : Int) < 0 := by omega
 clear rA rB rC hA hB hC
 go_enter Tryz.func69, Tryz.ntmps69
 go_wp2
 go_loop [3, 5, 11] (fun z _ x => (x = .int .i64 0 ∧ z = .int .i64 0) ∨ (x = .int .i64 1 ∧ z = .int .i64 (nA : Int)) ∨ (x = .int .i64 2 ∧ z = .int .i64 ((nA : Int) + 1)) ∨ (x = .int .i64 3 ∧ z = .int .i64 ((nA : Int) + 1 + (nC : Int)))) (fun _ _ x => 3 - (intOf x).toNat)
 case atStart => exact .inl ⟨rfl, rfl⟩
 case round =>
  rcases hrel with ⟨rfl, rfl⟩ | ⟨rfl, rfl⟩ | ⟨rfl, rfl⟩ | ⟨rfl, rfl⟩
  ·go_wp2
   go_round
   case rel => exact .inr (.inl ⟨rfl, by first | rfl | simp⟩)
   case measure => simp [intOf]
  ·go_wp2
   go_round
   case rel => exact .inr (.inr (.inl ⟨rfl, by first | rfl | simp⟩))
   case measure => simp [intOf]
  ·go_wp2
   go_round
   case rel => exact .inr (.inr (.inr ⟨rfl, by first | rfl | simp⟩))
   case measure => simp [intOf]
  ·go_wp2_with (go_at_call 115; refine (HG.out _).mono ?_; rintro e w1' ⟨⟨v1, rfl, hown1⟩, hb1⟩)
   go_loopw [6, 8, 27] (fun v _ x wr => ∃ i : Nat, i ≤ 3 ∧ x = .int .i64 (i : Int) ∧ RwI w.heap.size wr v (cc3 A B C i) ∧ Below w.heap.size w wr) (fun _ _ x _ => 3 - (intOf x).toNat)
   case atStart => exact ⟨0, by omega, rfl, by simpa [cc3] using hown1, hb1⟩
   case round =>
    obtain ⟨i, hi, rfl, hown, hbel⟩ := hrel
    have HBE : Hid (Below w.heap.size w wr) := hbel
    have HOW : Hid (RwI w.heap.size wr u6 (cc3 A B C i)) := hown
    have HSZ : Hid (w.heap.size ≤ wr.heap.size) := hbel.size
    have d0 := (hbel.cell (p := ⟨Bk, 0, none⟩) hBk).trans k0
    have d1 := (hbel.cell (p := ⟨Bk, 1, none⟩) hBk).trans k1
    have d2 := (hbel.cell (p := ⟨Bk, 2, none⟩) hBk).trans k2
    clear hown1 hb1 hbel hown
    have hi' : i = 0 ∨ i = 1 ∨ i = 2 ∨ i = 3 := by omega
    rcases hi' with rfl | rfl | rfl | rfl
    ·go_wp2_with (first
      | (at_builtin; refine app_its _ rfl _ _ rfl w.heap.size u6 (cc3 A B C 0) rfl HOW.out aA cA A nA HLA.out rfl (HRA.out _ HBE.out) (by simp [cc3]; omega) HSZ.out ?_; intro v' w' hown' hg; have HO2 : Hid (RwI w.heap.size w' v' (cc3 A B C 1)) := (by show RwI _ _ _ _; simpa [cc3] using hown'); have hb' : Below w.heap.size w w' := below_grownS HBE.out HOW.out.own hg HSZ.out; clear hown' hg)
      | go_in)
     go_roundw
     case rel => exact ⟨1, by omega, rfl, HO2.out, hb'⟩
     case measure => simp [intOf]
    ·go_wp2_with (first
      | (at_builtin; refine app_its _ rfl _ _ rfl w.heap.size u6 (cc3 A B C 1) rfl HOW.out aB cB B 1 HLB.out rfl (HRB.out _ HBE.out) (by simp [cc3]; have := HLA.out; omega) HSZ.out ?_; intro v' w' hown' hg; have HO2 : Hid (RwI w.heap.size w' v' (cc3 A B C 2)) := (by show RwI _ _ _ _; simpa [cc3] using hown'); have hb' : Below w.heap.size w w' := below_grownS HBE.out HOW.out.own hg HSZ.out; clear hown' hg)
      | go_in)
     go_roundw
     case rel => exact ⟨2, by omega, rfl, HO2.out, hb'⟩
     case measure => simp [intOf]
    ·go_wp2_with (first
      | (at_builtin; refine app_its _ rfl _ _ rfl w.heap.size u6 (cc3 A B C 2) rfl HOW.out aC cC C nC HLC.out rfl (HRC.out _ HBE.out) (by simp [cc3]; have := HLA.out; have := HLB.out; omega) HSZ.out ?_; intro v' w' hown' hg; have HO2 : Hid (RwI w.heap.size w' v' (cc3 A B C 3)) := (by show RwI _ _ _ _; simpa [cc3] using hown'); have hb' : Below w.heap.size w w' := below_grownS HBE.out HOW.out.own hg HSZ.out; clear hown' hg)
      | go_in)
     go_roundw
     case rel => exact ⟨3, by omega, rfl, HO2.out, hb'⟩
     case measure => simp [intOf]
    ·have HV : Hid (RwI w.heap.size wr u6 (A ++ B ++ C)) := by show RwI _ _ _ _; have h := HOW.out; simpa [cc3] using h
     go_wp2
     go_ret
     exact ⟨⟨_, rfl, HV.out⟩, HBE.out⟩
end Go.Proofs.YtcpmgellfaeejaaGreatDoor.so
