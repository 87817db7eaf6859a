import Derived.Test.YtpfnnjfapcnbnaaGreatDoorAI1p
import Derived.Test.YtpfnnjfapcnbnaaGreatDoorTPp
import Derived.Shelf.Strings.Search3
import Derived.Lib.IndexMore
import Derived.Lib.AppendZeros
set_option linter.unusedVariables false
set_option linter.unusedSimpArgs false
set_option maxRecDepth 100000
set_option maxHeartbeats 16000000
namespace Go.Proofs.YtpfnnjfapcnbnaaGreatDoor.so
open Go.ChangeShapes Go.WideShapes Go.ChangeAt Go.RowKit Go.Deep Go.Shelf Go.Maps
shelf_lay Lays.n144 Nm 144 at Tryz as laysCN
theorem cn_ren : laysCN_ren.f 144 = 195 := by kernel_rfl
theorem cn_glo : laysCN_ren.g 1 = tt.laysSP_ren.g 1 := by kernel_rfl
theorem cont_any (s sub : ByteArray) (hs : s.size ≤ 1048576) (w : World) (hm : tt.ML w) : Calls Tryz.prog 195 #[.string s, .string sub] w fun e w' => e = .returned (.bool (Lib.contains s.data.toList sub.data.toList)) ∧ w' = w := by
 obtain ⟨m, hm⟩ := hm
 have := Any.strings_Contains laysCN s sub m w (by omega) (by rw [cn_glo]; exact hm)
 rwa [cn_ren] at this
theorem cont_occ (d q : List UInt8) : Lib.contains d q = true ↔ rf.Occ d q := by
 unfold Lib.contains
 rw [decide_eq_true_eq]
 constructor
 ·intro h
  rcases Lib.index_spec d q with ⟨h1, _⟩ | ⟨i, h1, h2, h3, _⟩
  ·omega
  ·rcases Lib.occAt_room h3 with h4 | h4
   ·rw [Lib.occAt_iff_take d q i h4] at h3
    exact ⟨i, h4, by simpa using h3⟩
   ·subst h4
    exact ⟨0, by simp, by simp⟩
 ·rintro ⟨i, h1, h2⟩
  have h3 : Lib.occAt d q i = true := by rw [Lib.occAt_iff_take d q i h1]; simpa using h2
  rcases Lib.index_spec d q with ⟨_, h4⟩ | ⟨j, h4, _⟩
  ·rw [h4 i (by omega)] at h3
   cases h3
  ·omega
def ptB (t : List ty.Et) (q : List UInt8) : Bool := t.any fun e => Lib.contains e.fData.data.toList q
theorem pt_in (t : List ty.Et) (q : List UInt8) : ptB t q = rf.inB (enT t) t.length q := by
 rw [Bool.eq_iff_iff]
 unfold ptB
 rw [List.any_eq_true]
 constructor
 ·rintro ⟨e, he, hc⟩
  obtain ⟨k, hk⟩ := List.getElem?_of_mem he
  refine rf.inB_iff.2 ⟨k, (List.getElem?_eq_some_iff.1 hk).1, ?_⟩
  rw [enT_some hk]
  exact (cont_occ _ _).1 hc
 ·intro h
  obtain ⟨k, hk, ho⟩ := rf.inB_iff.1 h
  have hx : t[k]? = some t[k] := List.getElem?_eq_getElem hk
  rw [enT_some hx] at ho
  exact ⟨t[k], List.getElem_mem hk, (cont_occ _ _).2 ho⟩
theorem pt1_any (p0 : ByteArray) (k0 : Int) (d : ByteArray) (x0 : Bool) (cb : Nat) (q : ByteArray) (w : World) (hd : d.size ≤ 1048576) (hm : tt.ML w) (hc : w.cell? ⟨cb, 0, none⟩ = some (.string q)) :
  Calls Tryz.prog 194 #[.agg #[.string p0, .int .i64 k0, .string d, .bool x0], .pointer (some ⟨cb, 0, none⟩)] w fun e w' => e = .returned (.bool (Lib.contains d.data.toList q.data.toList)) ∧ Below w.heap.size w w' := by
 have hcl := World.block_lt_of_cell? _ _ hc
 have HB : Hid (∀ ob, Below w.heap.size w (w.alloc ob)) := fun ob => (Below.refl _ _).alloc (Nat.le_refl _) _
 have HCO : Hid (∀ W, Below w.heap.size w W → Calls Tryz.prog 195 #[.string d, .string q] W fun e w' => e = .returned (.bool (Lib.contains d.data.toList q.data.toList)) ∧ w' = W) := fun W h => cont_any d q hd W (hm.below h)
 obtain ⟨V, hV⟩ : ∃ V, Lib.contains d.data.toList q.data.toList = V := ⟨_, rfl⟩
 rw [hV] at HCO ⊢
 clear hV hm hd
 have hne : cb ≠ w.heap.size := by have : cb < w.heap.size := hcl; omega
 go_enter Tryz.func194, Tryz.ntmps194
 go_wp2_with (go_at_call 195; refine (HCO.out _ (HB.out _)).mono ?_; rintro e w1 ⟨rfl, rfl⟩)
 go_ret
 exact ⟨rfl, HB.out _⟩
theorem ixE_any (a : Option Addr) (c : Nat) (l : List ty.Et) (cb : Nat) (B : ty.Et → Bool) (w : World) (hb : ty.SrcEt none w a l) (hn : l.length ≤ 1048576)
  (HC : Hid (∀ (i : Nat) (x : ty.Et), l[i]? = some x → ∀ W, Below w.heap.size w W → Calls Tryz.prog 194 #[.agg #[.string x.fPath, .int .i64 x.fKind, .string x.fData, .bool x.fExec], .pointer (some ⟨cb, 0, none⟩)] W fun e w' => e = .returned (.bool (B x)) ∧ Below W.heap.size W w')) :
  Calls Tryz.prog 212 #[.slice a l.length c, .func (.func 194) #[] #[.pointer (some ⟨cb, 0, none⟩)]] w fun e w' => (∃ r : Int, e = .returned (.int .i64 r) ∧ (0 ≤ r ∧ l.any B = true ∨ r = -1 ∧ l.any B = false)) ∧ Below w.heap.size w w' := by
 have HR := Lib.hid hb
 have HYE : Hid (∀ (i : Nat) (x : ty.Et), l[i]? = some x → B x = true → l.any B = true) := fun i x hx h => List.any_eq_true.2 ⟨x, List.mem_of_getElem? hx, h⟩
 have HNO : Hid ((∀ (i : Nat) (x : ty.Et), i < l.length → l[i]? = some x → B x = false) → l.any B = false) := fun h => by
  rw [List.any_eq_false]
  intro x hx
  obtain ⟨i, hi⟩ := List.getElem?_of_mem hx
  rw [h i x (List.getElem?_eq_some_iff.1 hi).1 hi]
  decide
 obtain ⟨V, hV⟩ : ∃ V, l.any B = V := ⟨_, rfl⟩
 rw [hV] at HNO HYE ⊢
 obtain ⟨n, hnn⟩ : ∃ n, l.length = n := ⟨_, rfl⟩
 have HNN : Hid (l.length = n) := hnn
 rw [hnn] at hn HNO ⊢
 clear hb hnn hV
 go_enter Tryz.func212, Tryz.ntmps212
 go_wp2
 go_loopw [5, 8] (fun _ y wr => ∃ i : Nat, i ≤ n ∧ y = .int .i64 (i : Int) ∧ (∀ (j : Nat) (y : ty.Et), j < i → l[j]? = some y → B y = false) ∧ Below w.heap.size w wr) (fun _ y _ => n - (intOf y).toNat)
 case atStart => exact ⟨0, Nat.zero_le _, rfl, fun j y h => by omega, Below.refl _ _⟩
 case round =>
  obtain ⟨i, hi, rfl, h1, hbel⟩ := hrel
  have H1 : Hid (∀ (j : Nat) (y : ty.Et), j < i → l[j]? = some y → B y = false) := h1
  have HBE : Hid (Below w.heap.size w wr) := hbel
  clear h1
  by_cases hin : i < n
  ·have hin' : (i : Int) < (n : Int) := by omega
   have hi0 : (0 : Int) ≤ (i : Int) := by omega
   obtain ⟨x, hx⟩ : ∃ x, l[i]? = some x := ⟨_, List.getElem?_eq_getElem (by rw [HNN.out]; exact hin)⟩
   have HX : Hid (l[i]? = some x) := hx
   rcases HR.out with h | ⟨b, o, rfl, _, hc⟩
   ·rw [h.2] at hx; simp at hx
   obtain ⟨q0, q1, q2, q3⟩ := (hc i x hx).below hbel
   have HCM := Lib.hid (HC.out i x hx wr hbel)
   obtain ⟨BV, hB⟩ : ∃ V, B x = V := ⟨_, rfl⟩
   rw [hB] at HCM
   have HBB : Hid (B x = BV) := hB
   generalize x.fPath = g0 at *
   generalize x.fKind = g1 at *
   generalize x.fData = g2 at *
   generalize x.fExec = g3 at *
   clear hc
   clear hbel hx hB
   cases BV with
   | true =>
    have HF : Hid (V = true) := HYE.out i x HX.out HBB.out
    go_wp2_with (go_at_call 194; refine HCM.out.mono ?_; rintro e w1 ⟨rfl, hl1⟩)
    go_ret
    exact ⟨⟨_, rfl, .inl ⟨hi0, HF.out⟩⟩, HBE.out.trans (hl1.mono HBE.out.size)⟩
   | false =>
    have HN : Hid (∀ (j : Nat) (y : ty.Et), j < i + 1 → l[j]? = some y → B y = false) := fun j y hj hy => by
     rcases Nat.lt_or_ge j i with h | h
     ·exact H1.out j y h hy
     ·obtain rfl : j = i := by omega
      rw [HX.out] at hy
      cases hy
      exact HBB.out
    go_wp2_with (go_at_call 194; refine HCM.out.mono ?_; rintro e w1 ⟨rfl, hl1⟩)
    go_roundw
    case rel => exact ⟨i + 1, by omega, by go_num, HN.out, HBE.out.trans (hl1.mono HBE.out.size)⟩
    case measure => simp [intOf] <;> omega
  ·have hin' : ¬ (i : Int) < (n : Int) := by omega
   obtain rfl : i = n := by omega
   have HF : Hid (V = false) := HNO.out H1.out
   clear hbel
   go_wp2
   go_ret
   exact ⟨⟨_, rfl, .inr ⟨rfl, HF.out⟩⟩, HBE.out⟩
theorem cfE_any (a : Option Addr) (c : Nat) (l : List ty.Et) (cb : Nat) (B : ty.Et → Bool) (w : World) (hb : ty.SrcEt none w a l) (hn : l.length ≤ 1048576)
  (HC : Hid (∀ (i : Nat) (x : ty.Et), l[i]? = some x → ∀ W, Below w.heap.size w W → Calls Tryz.prog 194 #[.agg #[.string x.fPath, .int .i64 x.fKind, .string x.fData, .bool x.fExec], .pointer (some ⟨cb, 0, none⟩)] W fun e w' => e = .returned (.bool (B x)) ∧ Below W.heap.size W w')) :
  Calls Tryz.prog 193 #[.slice a l.length c, .func (.func 194) #[] #[.pointer (some ⟨cb, 0, none⟩)]] w fun e w' => e = .returned (.bool (l.any B)) ∧ Below w.heap.size w w' := by
 have HIX := Lib.hid (ixE_any a c l cb B w hb hn HC)
 obtain ⟨V, hV⟩ : ∃ V, l.any B = V := ⟨_, rfl⟩
 rw [hV] at HIX ⊢
 generalize l.length = n at *
 clear hV hb HC hn
 go_enter Tryz.func193, Tryz.ntmps193
 go_wp2_with (go_at_call 212; refine HIX.out.mono ?_; rintro e w1 ⟨⟨r, rfl, hr⟩, hl1⟩; refine Hid.out ?_)
 refine Lib.hid ?_
 rcases hr with ⟨h1, rfl⟩ | ⟨rfl, rfl⟩
 ·go_wp2
  go_ret
  exact ⟨by first | rfl | simp, hl1⟩
 ·go_wp2
  go_ret
  exact ⟨by first | rfl | simp, hl1⟩
theorem pts_any (a : Option Addr) (c : Nat) (t : List ty.Et) (p : ByteArray) (w : World) (hb : ty.SrcEt none w a t) (hw : ty.wtEt t ≤ 1048576) (hp : 13 ≤ p.size) (hpz : p.size ≤ 1048576) (hm : tt.ML w) :
  Calls Tryz.prog 168 #[.slice a t.length c, .string p] w fun e w' => e = .returned (.bool (rf.inB (enT t) t.length (p.data.toList.take 13))) ∧ Below w.heap.size w w' := by
 have htl : t.length ≤ 1048576 := by have := ty.wtEt_len t; omega
 have hq : (p.extract 0 13).data.toList = p.data.toList.take 13 := by rw [tt.bytes_ext]; simp
 have HCF : Hid (∀ W cb, Below w.heap.size w W → W.cell? ⟨cb, 0, none⟩ = some (.string (p.extract 0 13)) → Calls Tryz.prog 193 #[.slice a t.length c, .func (.func 194) #[] #[.pointer (some ⟨cb, 0, none⟩)]] W fun e w' => e = .returned (.bool (rf.inB (enT t) t.length (p.data.toList.take 13))) ∧ Below W.heap.size W w') := fun W cb h hc => by
  rw [← pt_in]
  refine cfE_any a c t cb (fun e => Lib.contains e.fData.data.toList (p.data.toList.take 13)) W (hb.below h) htl (fun i x hx W' h' => ?_)
  have hwx := ty.wtEt_mem (List.mem_of_getElem? hx)
  unfold ty.wt1Et at hwx
  have := pt1_any x.fPath x.fKind x.fData x.fExec cb (p.extract 0 13) W' (by omega) (hm.below (h.trans (h'.mono h.size))) ((h'.cell (p := ⟨cb, 0, none⟩) (World.block_lt_of_cell? _ _ hc)).trans hc)
  rwa [hq] at this
 obtain ⟨V, hV⟩ : ∃ V, rf.inB (enT t) t.length (p.data.toList.take 13) = V := ⟨_, rfl⟩
 rw [hV] at HCF ⊢
 have hp' : (13 : Int) ≤ (p.size : Int) := by omega
 generalize t.length = n at *
 clear hb hm hV hq hw
 have HA : Hid (Below w.heap.size w (w.alloc (.cells #[.string (p.extract 0 13)] 9))) := (Below.refl _ _).alloc (Nat.le_refl _) _
 have HCC : Hid ((w.alloc (.cells #[.string (p.extract 0 13)] 9)).cell? ⟨w.heap.size, 0, none⟩ = some (.string (p.extract 0 13))) := by show _ = _; simp [go_sem]
 go_enter Tryz.func168, Tryz.ntmps168
 go_wp2_with (go_at_call 193; refine (HCF.out _ _ HA.out HCC.out).mono ?_; rintro e w1 ⟨rfl, hl1⟩)
 go_ret
 exact ⟨rfl, HA.out.trans (hl1.mono HA.out.size)⟩
theorem aw1_any (p0 s0 f0 : ByteArray) (v2 : Value) (a : Option Addr) (c : Nat) (t : List ty.Et) (cb : Nat) (p : ByteArray) (w : World) (hb : ty.SrcEt none w a t) (hw : ty.wtEt t ≤ 1048576) (hp : 13 ≤ p.size) (hpz : p.size ≤ 1048576) (hm : tt.ML w) (hc : w.cell? ⟨cb, 0, none⟩ = some (.string p)) (a2 : Option Addr) (n2 c2 : Nat) (hv : v2 = .slice a2 n2 c2) :
  Calls Tryz.prog 167 #[.agg #[.string p0, .string s0, v2, .string f0, .slice a t.length c], .pointer (some ⟨cb, 0, none⟩)] w fun e w' => e = .returned (.bool (rf.inB (enT t) t.length (p.data.toList.take 13))) ∧ Below w.heap.size w w' := by
 subst hv
 have hcl : cb < w.heap.size := World.block_lt_of_cell? _ _ hc
 have HB : Hid (∀ ob, Below w.heap.size w (w.alloc ob)) := fun ob => (Below.refl _ _).alloc (Nat.le_refl _) _
 have HPT : Hid (∀ W, Below w.heap.size w W → Calls Tryz.prog 168 #[.slice a t.length c, .string p] W fun e w' => e = .returned (.bool (rf.inB (enT t) t.length (p.data.toList.take 13))) ∧ Below W.heap.size W w') := fun W h => pts_any a c t p W (hb.below h) hw hp hpz (hm.below h)
 obtain ⟨V, hV⟩ : ∃ V, rf.inB (enT t) t.length (p.data.toList.take 13) = V := ⟨_, rfl⟩
 rw [hV] at HPT ⊢
 generalize t.length = n at *
 clear hb hm hV hw
 have hne : cb ≠ w.heap.size := by omega
 go_enter Tryz.func167, Tryz.ntmps167
 go_wp2_with (go_at_call 168; refine (HPT.out _ (HB.out _)).mono ?_; rintro e w1 ⟨rfl, hl1⟩)
 go_ret
 exact ⟨rfl, (HB.out _).trans (hl1.mono (HB.out _).size)⟩
theorem ixI_any (a : Option Addr) (c : Nat) (l : List ty.It) (cb : Nat) (B : ty.It → Bool) (w : World) (hb : RdJ w a l) (hn : l.length ≤ 1048576)
  (HC : Hid (∀ (i : Nat) (x : ty.It), l[i]? = some x → ∀ W, Below w.heap.size w W → ∀ a2 c2 a4 c4, RdE w a4 x.fTree → Calls Tryz.prog 167 #[.agg #[.string x.fPath, .string x.fSum, .slice a2 x.fRefs.length c2, .string x.fFrom, .slice a4 x.fTree.length c4], .pointer (some ⟨cb, 0, none⟩)] W fun e w' => e = .returned (.bool (B x)) ∧ Below W.heap.size W w')) :
  Calls Tryz.prog 192 #[.slice a l.length c, .func (.func 167) #[] #[.pointer (some ⟨cb, 0, none⟩)]] w fun e w' => (∃ r : Int, e = .returned (.int .i64 r) ∧ (0 ≤ r ∧ l.any B = true ∨ r = -1 ∧ l.any B = false)) ∧ Below w.heap.size w w' := by
 have HR := Lib.hid hb
 have HYE : Hid (∀ (i : Nat) (x : ty.It), l[i]? = some x → B x = true → l.any B = true) := fun i x hx h => List.any_eq_true.2 ⟨x, List.mem_of_getElem? hx, h⟩
 have HNO : Hid ((∀ (i : Nat) (x : ty.It), i < l.length → l[i]? = some x → B x = false) → l.any B = false) := fun h => by
  rw [List.any_eq_false]
  intro x hx
  obtain ⟨i, hi⟩ := List.getElem?_of_mem hx
  rw [h i x (List.getElem?_eq_some_iff.1 hi).1 hi]
  decide
 obtain ⟨V, hV⟩ : ∃ V, l.any B = V := ⟨_, rfl⟩
 rw [hV] at HNO HYE ⊢
 obtain ⟨n, hnn⟩ : ∃ n, l.length = n := ⟨_, rfl⟩
 have HNN : Hid (l.length = n) := hnn
 rw [hnn] at hn HNO ⊢
 clear hb hnn hV
 go_enter Tryz.func192, Tryz.ntmps192
 go_wp2
 go_loopw [5, 8] (fun _ y wr => ∃ i : Nat, i ≤ n ∧ y = .int .i64 (i : Int) ∧ (∀ (j : Nat) (y : ty.It), j < i → l[j]? = some y → B y = false) ∧ Below w.heap.size w wr) (fun _ y _ => n - (intOf y).toNat)
 case atStart => exact ⟨0, Nat.zero_le _, rfl, fun j y h => by omega, Below.refl _ _⟩
 case round =>
  obtain ⟨i, hi, rfl, h1, hbel⟩ := hrel
  have H1 : Hid (∀ (j : Nat) (y : ty.It), j < i → l[j]? = some y → B y = false) := h1
  have HBE : Hid (Below w.heap.size w wr) := hbel
  clear h1
  by_cases hin : i < n
  ·have hin' : (i : Int) < (n : Int) := by omega
   have hi0 : (0 : Int) ≤ (i : Int) := by omega
   obtain ⟨x, hx⟩ : ∃ x, l[i]? = some x := ⟨_, List.getElem?_eq_getElem (by rw [HNN.out]; exact hin)⟩
   have HX : Hid (l[i]? = some x) := hx
   obtain ⟨b, o, a2, c2, a4, c4, rfl, ⟨q0, q1, q2, q3, q4⟩, s2, s4⟩ := HR.out i x hx
   have k : ∀ {r v}, w.cell? ⟨b, r, none⟩ = some v → wr.cell? ⟨b, r, none⟩ = some v := fun {r v} h' => (hbel.cell (p := ⟨b, r, none⟩) (World.block_lt_of_cell? _ _ h')).trans h'
   have q0 := k q0
   have q1 := k q1
   have q2 := k q2
   have q3 := k q3
   have q4 := k q4
   have HCM := Lib.hid (HC.out i x hx wr hbel a2 c2 a4 c4 s4)
   obtain ⟨BV, hB⟩ : ∃ V, B x = V := ⟨_, rfl⟩
   rw [hB] at HCM
   have HBB : Hid (B x = BV) := hB
   generalize x.fPath = g0 at *
   generalize x.fSum = g1 at *
   generalize x.fFrom = g3 at *
   generalize x.fRefs.length = g2 at *
   generalize x.fTree.length = g4 at *
   clear s2 s4 k
   clear hbel hx hB
   cases BV with
   | true =>
    have HF : Hid (V = true) := HYE.out i x HX.out HBB.out
    go_wp2_with (go_at_call 167; refine HCM.out.mono ?_; rintro e w1 ⟨rfl, hl1⟩)
    go_ret
    exact ⟨⟨_, rfl, .inl ⟨hi0, HF.out⟩⟩, HBE.out.trans (hl1.mono HBE.out.size)⟩
   | false =>
    have HN : Hid (∀ (j : Nat) (y : ty.It), j < i + 1 → l[j]? = some y → B y = false) := fun j y hj hy => by
     rcases Nat.lt_or_ge j i with h | h
     ·exact H1.out j y h hy
     ·obtain rfl : j = i := by omega
      rw [HX.out] at hy
      cases hy
      exact HBB.out
    go_wp2_with (go_at_call 167; refine HCM.out.mono ?_; rintro e w1 ⟨rfl, hl1⟩)
    go_roundw
    case rel => exact ⟨i + 1, by omega, by go_num, HN.out, HBE.out.trans (hl1.mono HBE.out.size)⟩
    case measure => simp [intOf] <;> omega
  ·have hin' : ¬ (i : Int) < (n : Int) := by omega
   obtain rfl : i = n := by omega
   have HF : Hid (V = false) := HNO.out H1.out
   clear hbel
   go_wp2
   go_ret
   exact ⟨⟨_, rfl, .inr ⟨rfl, HF.out⟩⟩, HBE.out⟩
theorem cfI_any (a : Option Addr) (c : Nat) (l : List ty.It) (cb : Nat) (B : ty.It → Bool) (w : World) (hb : RdJ w a l) (hn : l.length ≤ 1048576)
  (HC : Hid (∀ (i : Nat) (x : ty.It), l[i]? = some x → ∀ W, Below w.heap.size w W → ∀ a2 c2 a4 c4, RdE w a4 x.fTree → Calls Tryz.prog 167 #[.agg #[.string x.fPath, .string x.fSum, .slice a2 x.fRefs.length c2, .string x.fFrom, .slice a4 x.fTree.length c4], .pointer (some ⟨cb, 0, none⟩)] W fun e w' => e = .returned (.bool (B x)) ∧ Below W.heap.size W w')) :
  Calls Tryz.prog 166 #[.slice a l.length c, .func (.func 167) #[] #[.pointer (some ⟨cb, 0, none⟩)]] w fun e w' => e = .returned (.bool (l.any B)) ∧ Below w.heap.size w w' := by
 have HIX := Lib.hid (ixI_any a c l cb B w hb hn HC)
 obtain ⟨V, hV⟩ : ∃ V, l.any B = V := ⟨_, rfl⟩
 rw [hV] at HIX ⊢
 generalize l.length = n at *
 clear hV hb HC hn
 go_enter Tryz.func166, Tryz.ntmps166
 go_wp2_with (go_at_call 192; refine HIX.out.mono ?_; rintro e w1 ⟨⟨r, rfl, hr⟩, hl1⟩; refine Hid.out ?_)
 refine Lib.hid ?_
 rcases hr with ⟨h1, rfl⟩ | ⟨rfl, rfl⟩
 ·go_wp2
  go_ret
  exact ⟨by first | rfl | simp, hl1⟩
 ·go_wp2
  go_ret
  exact ⟨by first | rfl | simp, hl1⟩
theorem isaw_any (lo : Nat) (a : Option Addr) (c : Nat) (ps : List ty.It) (p : ByteArray) (w : World) (hb : ty.SrcIt (some lo) w a ps) (hw : ty.wtIt ps ≤ 1048576) (hp : 13 ≤ p.size) (hpz : p.size ≤ 1048576) (hm : tt.ML w) :
  Calls Tryz.prog 117 #[.slice a ps.length c, .string p] w fun e w' => e = .returned (.bool (awB ps p)) ∧ Below w.heap.size w w' := by
 have hpl : ps.length ≤ 1048576 := by have := ty.wtIt_len ps; omega
 have HCF : Hid (∀ W cb, Below w.heap.size w W → W.cell? ⟨cb, 0, none⟩ = some (.string p) → Calls Tryz.prog 166 #[.slice a ps.length c, .func (.func 167) #[] #[.pointer (some ⟨cb, 0, none⟩)]] W fun e w' => e = .returned (.bool (awB ps p)) ∧ Below W.heap.size W w') := fun W cb h hc => by
  refine cfI_any a c ps cb (fun y => rf.inB (enT y.fTree) y.fTree.length (p.data.toList.take 13)) W (RdJ.of (hb.below h)) hpl (fun i x hx W' h' a2 c2 a4 c4 s4 => ?_)
  have hwx := ty.wtIt_mem (List.mem_of_getElem? hx)
  unfold ty.wt1It at hwx
  obtain ⟨b4, o4, rfl, hc4⟩ := s4
  exact aw1_any x.fPath x.fSum x.fFrom _ (some ⟨b4, o4, none⟩) c4 x.fTree cb p W' (.inr ⟨b4, o4, rfl, ty.Okb.free _ _, fun j y hy => (hc4 j y hy).below h'⟩) (by omega) hp hpz (hm.below (h.trans (h'.mono h.size))) ((h'.cell (p := ⟨cb, 0, none⟩) (World.block_lt_of_cell? _ _ hc)).trans hc) _ _ _ rfl
 obtain ⟨V, hV⟩ : ∃ V, awB ps p = V := ⟨_, rfl⟩
 rw [hV] at HCF ⊢
 generalize ps.length = n at *
 clear hb hm hV hw
 have HA : Hid (Below w.heap.size w (w.alloc (.cells #[.string p] 9))) := (Below.refl _ _).alloc (Nat.le_refl _) _
 have HCC : Hid ((w.alloc (.cells #[.string p] 9)).cell? ⟨w.heap.size, 0, none⟩ = some (.string p)) := by show _ = _; simp [go_sem]
 go_enter Tryz.func117, Tryz.ntmps117
 go_wp2_with (go_at_call 166; refine (HCF.out _ _ HA.out HCC.out).mono ?_; rintro e w1 ⟨rfl, hl1⟩)
 go_ret
 exact ⟨rfl, HA.out.trans (hl1.mono HA.out.size)⟩
theorem app_its (w : World) {ops : Array Oper} {rest : List Oper} {o : Oper} {a : Act} {Q : Exit → Act → World → Prop} (hgd : o.guard = none) (s x : Operand)
  (ho : o.op = .call { callee := .builtin .append, args := #[s, x], argTypes := #[30, 30] })
  (base : Nat) (v : Value) (zs : List Iz) (hs : a.eval s = v) (hown : RwI base w v zs)
  (ad : Addr) (c : Nat) (ys : List Iz) (m : Nat) (hm : ys.length = m) (hx : a.eval x = .slice (some ad) m c) (hnews : ∀ j u, (itC ys)[j]? = some u → w.cell? (ad.add j) = some u)
  (h63 : zs.length + m ≤ 400000000) (hbase : base ≤ w.heap.size)
  (h : ∀ v' w', RwI base w' v' (zs ++ ys) → w.grownBy w' v.ownBlock → wpList Tryz.prog ops Q rest (a.put o.dst v') w') : wpList Tryz.prog ops Q (o :: rest) a w := by
 obtain ⟨i, hi, hzz⟩ := Option.map_eq_some_iff.1 ty.infoIt
 simp only [Prod.mk.injEq] at hzz
 obtain ⟨hz, hsi, hb⟩ := hzz
 refine wpList_append_own w hgd s x 30 ho base 94 i _ 5 96 Tryz.underlying30 hi hz hsi hb rfl (by decide) v zs.length (itC zs) hs hown.own ad m c (itC ys) hx (by rw [itC_len, hm]) hnews (fun u hu => ?_) (by unfold maxLen; omega) (by omega) hbase (fun v' w' p q r => h v' w' ⟨?_, fun e => hown.nn (r.1 e).1⟩ q)
 ·have key : ∀ l : List Iz, ∀ u ∈ itC l, u.oneCell' = true := by
   intro l
   induction l with
   | nil => intro u hu; cases hu
   | cons z l ih =>
    intro u hu
    rw [itC, List.mem_append] at hu
    rcases hu with h | h
    ·exact izC_one z u h
    ·exact ih u h
  exact key ys u hu
 ·rw [itC_app, List.length_append, hm]
  exact p
theorem growI_any (n : Nat) (hn : 0 < n) (hn2 : n ≤ 100000) (w : World) :
  Calls Tryz.prog 171 #[.slice none 0 0, .int .i64 (n : Int)] w fun e w' => (∃ v, e = .returned v ∧ RwI w.heap.size w' v []) ∧ Below w.heap.size w w' := by
 obtain ⟨i0, hi, hzz⟩ := Option.map_eq_some_iff.1 ty.infoIt
 simp only [Prod.mk.injEq] at hzz
 obtain ⟨hz0, hz1, hz2⟩ := hzz
 have hr := fun ty => Lib.run_append_nil_zeros (P := Tryz.prog) w 30 3 ty 94 i0 _ .i64 .i64 Tryz.underlying30 Tryz.underlying3 hi hz0 n hn (by rw [hz1]; omega) (by omega) (by rw [hz2]; omega)
 have hge := grownCap_ge w n 0 94
 have hle := grownCap_le_maxLen w n 0 94 (by unfold maxLen; omega)
 obtain ⟨G, hG⟩ : ∃ G, grownCap w n 0 94 = G := ⟨_, rfl⟩
 rw [hG] at hge hle
 simp only [hG] at hr
 obtain ⟨cs, hcs⟩ : ∃ cs, Builtin.zeroCells (Value.agg #[.string ⟨#[]⟩, .string ⟨#[]⟩, .slice none 0 0, .string ⟨#[]⟩, .slice none 0 0]).cells n ++ Builtin.zeroCells (Value.agg #[.string ⟨#[]⟩, .string ⟨#[]⟩, .slice none 0 0, .string ⟨#[]⟩, .slice none 0 0]).cells (G - n) = cs := ⟨_, rfl⟩
 have hsz : cs.size = G * 5 := by
  rw [← hcs, Array.size_append]
  simp [Builtin.zeroCells, Value.cells]
  omega
 have hr' : ∀ ty, (Builtin.append_ #[30, 3] ty #[.slice none 0 0, .int .i64 (n : Int)]).run Tryz.prog w = .ok (.slice (some ⟨w.heap.size, 0, none⟩) n G) (w.drew.alloc (.cells cs 94)) := fun ty => by rw [← hcs]; exact hr ty
 have HR : Hid (∀ ty, (Builtin.append_ #[30, 3] ty #[.slice none 0 0, .int .i64 (n : Int)]).run Tryz.prog w = .ok (.slice (some ⟨w.heap.size, 0, none⟩) n G) (w.drew.alloc (.cells cs 94))) := hr'
 have HO : Hid (RwI w.heap.size (w.drew.alloc (.cells cs 94)) (.slice (some ⟨w.heap.size, 0, none⟩) 0 G) []) := ⟨⟨rfl, .inr ⟨w.heap.size, G, cs, rfl, Nat.le_refl _, heap_alloc_new w.drew _, Nat.zero_le _, hle, hsz, by simp [itC]⟩⟩, by intro e; cases e⟩
 have hn' : (0 : Int) < (n : Int) := by omega
 have hG' : (n : Int) ≤ (G : Int) := by omega
 clear hr hr' hcs hG hsz
 go_enter Tryz.func171, Tryz.ntmps171
 go_wp2_with (first
  | (at_builtin; refine Lib.wpList_append_run _ rfl _ _ 30 3 rfl _ _ rfl rfl _ _ (HR.out _) ?_)
  | go_in)
 go_ret
 exact ⟨⟨_, rfl, HO.out⟩, ((Below.refl _ w).drew).alloc (Nat.le_refl _) _⟩
def cc3 (A B C : List Iz) (i : Nat) : List Iz := if i = 0 then [] else if i = 1 then A else if i = 2 then A ++ B else A ++ B ++ C
theorem concatI_any (A B C : List Iz) (nA nC : Nat) (hA : A.length = nA) (hB : B.length = 1) (hC : C.length = nC) (aA aB aC : Addr) (cA cB cC Bk : Nat) (w : World) (k0 : w.cell? ⟨Bk, 0, none⟩ = some (.slice (some aA) nA cA)) (k1 : w.cell? ⟨Bk, 1, none⟩ = some (.slice (some aB) 1 cB)) (k2 : w.cell? ⟨Bk, 2, none⟩ = some (.slice (some aC) nC cC))
  (rA : ∀ W, Below w.heap.size w W → ∀ j u, (itC A)[j]? = some u → W.cell? (aA.add j) = some u) (rB : ∀ W, Below w.heap.size w W → ∀ j u, (itC B)[j]? = some u → W.cell? (aB.add j) = some u) (rC : ∀ W, Below w.heap.size w W → ∀ j u, (itC C)[j]? = some u → W.cell? (aC.add j) = some u) (hnA : nA ≤ 300) (hnC : nC ≤ 300) :
  Calls Tryz.prog 121 #[.slice (some ⟨Bk, 0, none⟩) 3 3] w fun e w' => (∃ v, e = .returned v ∧ RwI w.heap.size w' v (A ++ B ++ C)) ∧ Below w.heap.size w w' := by
 have HG : Hid (∀ W, Calls Tryz.prog 171 #[.slice none 0 0, .int .i64 ((nA : Int) + 1 + (nC : Int))] W fun e w' => (∃ v, e = .returned v ∧ RwI W.heap.size w' v []) ∧ Below W.heap.size W w') := fun W => by
  have := growI_any (nA + 1 + nC) (by omega) (by omega) W
  rwa [Int.natCast_add, Int.natCast_add] at this
 have HRA : Hid (∀ W, Below w.heap.size w W → ∀ j u, (itC A)[j]? = some u → W.cell? (aA.add j) = some u) := rA
 have HRB : Hid (∀ W, Below w.heap.size w W → ∀ j u, (itC B)[j]? = some u → W.cell? (aB.add j) = some u) := rB
 have HRC : Hid (∀ W, Below w.heap.size w W → ∀ j u, (itC C)[j]? = some u → W.cell? (aC.add j) = some u) := rC
 have HLA : Hid (A.length = nA) := hA
 have HLB : Hid (B.length = 1) := hB
 have HLC : Hid (C.length = nC) := hC
 have hBk : Bk < w.heap.size := World.block_lt_of_cell? _ _ k0
 have w1 : IntKind.i64.wrap ((nA : Int) + 1) = (nA : Int) + 1 := by rw [IntKind.wrap_i64]; omega
 have w2 : IntKind.i64.wrap ((nA : Int) + 1 + (nC : Int)) = (nA : Int) + 1 + (nC : Int) := by rw [IntKind.wrap_i64]; omega
 have g0 : ¬ (nA : Int) < 0 := by omega
 have g1 : ¬ (nA : Int) + 1 < 0 := by omega
 have g2 : ¬ (nA : Int) + 1 + (nC : Int) < 0 := by omega
 clear rA rB rC hA hB hC
 go_enter Tryz.func121, Tryz.ntmps121
 go_wp2
 go_loop [3, 5, 11] (fun z _ x => (x = .int .i64 0 ∧ z = .int .i64 0) ∨ (x = .int .i64 1 ∧ z = .int .i64 (nA : Int)) ∨ (x = .int .i64 2 ∧ z = .int .i64 ((nA : Int) + 1)) ∨ (x = .int .i64 3 ∧ z = .int .i64 ((nA : Int) + 1 + (nC : Int)))) (fun _ _ x => 3 - (intOf x).toNat)
 case atStart => exact .inl ⟨rfl, rfl⟩
 case round =>
  rcases hrel with ⟨rfl, rfl⟩ | ⟨rfl, rfl⟩ | ⟨rfl, rfl⟩ | ⟨rfl, rfl⟩
  ·go_wp2
   go_round
   case rel => exact .inr (.inl ⟨rfl, by first | rfl | simp⟩)
   case measure => simp [intOf]
  ·go_wp2
   go_round
   case rel => exact .inr (.inr (.inl ⟨rfl, by first | rfl | simp⟩))
   case measure => simp [intOf]
  ·go_wp2
   go_round
   case rel => exact .inr (.inr (.inr ⟨rfl, by first | rfl | simp⟩))
   case measure => simp [intOf]
  ·go_wp2_with (go_at_call 171; refine (HG.out _).mono ?_; rintro e w1' ⟨⟨v1, rfl, hown1⟩, hb1⟩)
   go_loopw [6, 8, 27] (fun v _ x wr => ∃ i : Nat, i ≤ 3 ∧ x = .int .i64 (i : Int) ∧ RwI w.heap.size wr v (cc3 A B C i) ∧ Below w.heap.size w wr) (fun _ _ x _ => 3 - (intOf x).toNat)
   case atStart => exact ⟨0, by omega, rfl, by simpa [cc3] using hown1, hb1⟩
   case round =>
    obtain ⟨i, hi, rfl, hown, hbel⟩ := hrel
    have HBE : Hid (Below w.heap.size w wr) := hbel
    have HOW : Hid (RwI w.heap.size wr u6 (cc3 A B C i)) := hown
    have HSZ : Hid (w.heap.size ≤ wr.heap.size) := hbel.size
    have d0 := (hbel.cell (p := ⟨Bk, 0, none⟩) hBk).trans k0
    have d1 := (hbel.cell (p := ⟨Bk, 1, none⟩) hBk).trans k1
    have d2 := (hbel.cell (p := ⟨Bk, 2, none⟩) hBk).trans k2
    clear hown1 hb1 hbel hown
    have hi' : i = 0 ∨ i = 1 ∨ i = 2 ∨ i = 3 := by omega
    rcases hi' with rfl | rfl | rfl | rfl
    ·go_wp2_with (first
      | (at_builtin; refine app_its _ rfl _ _ rfl w.heap.size u6 (cc3 A B C 0) rfl HOW.out aA cA A nA HLA.out rfl (HRA.out _ HBE.out) (by simp [cc3]; omega) HSZ.out ?_; intro v' w' hown' hg; have HO2 : Hid (RwI w.heap.size w' v' (cc3 A B C 1)) := (by show RwI _ _ _ _; simpa [cc3] using hown'); have hb' : Below w.heap.size w w' := below_grownS HBE.out HOW.out.own hg HSZ.out; clear hown' hg)
      | go_in)
     go_roundw
     case rel => exact ⟨1, by omega, rfl, HO2.out, hb'⟩
     case measure => simp [intOf]
    ·go_wp2_with (first
      | (at_builtin; refine app_its _ rfl _ _ rfl w.heap.size u6 (cc3 A B C 1) rfl HOW.out aB cB B 1 HLB.out rfl (HRB.out _ HBE.out) (by simp [cc3]; have := HLA.out; omega) HSZ.out ?_; intro v' w' hown' hg; have HO2 : Hid (RwI w.heap.size w' v' (cc3 A B C 2)) := (by show RwI _ _ _ _; simpa [cc3] using hown'); have hb' : Below w.heap.size w w' := below_grownS HBE.out HOW.out.own hg HSZ.out; clear hown' hg)
      | go_in)
     go_roundw
     case rel => exact ⟨2, by omega, rfl, HO2.out, hb'⟩
     case measure => simp [intOf]
    ·go_wp2_with (first
      | (at_builtin; refine app_its _ rfl _ _ rfl w.heap.size u6 (cc3 A B C 2) rfl HOW.out aC cC C nC HLC.out rfl (HRC.out _ HBE.out) (by simp [cc3]; have := HLA.out; have := HLB.out; omega) HSZ.out ?_; intro v' w' hown' hg; have HO2 : Hid (RwI w.heap.size w' v' (cc3 A B C 3)) := (by show RwI _ _ _ _; simpa [cc3] using hown'); have hb' : Below w.heap.size w w' := below_grownS HBE.out HOW.out.own hg HSZ.out; clear hown' hg)
      | go_in)
     go_roundw
     case rel => exact ⟨3, by omega, rfl, HO2.out, hb'⟩
     case measure => simp [intOf]
    ·have HV : Hid (RwI w.heap.size wr u6 (A ++ B ++ C)) := by show RwI _ _ _ _; have h := HOW.out; simpa [cc3] using h
     go_wp2
     go_ret
     exact ⟨⟨_, rfl, HV.out⟩, HBE.out⟩
theorem rd_row {w : World} {b o : Nat} {l : List ty.It} (h : RdJ w (some ⟨b, o, none⟩) l) : ∃ zs : List Iz, zs.map Iz.x = l ∧ (∀ (j : Nat) (z : Iz), zs[j]? = some z → RdZa w z) ∧ ∀ W, Below w.heap.size w W → ∀ j u, (itC zs)[j]? = some u → W.cell? ((⟨b, o, none⟩ : Addr).add j) = some u := by
 have key : ∀ (l : List ty.It) (o : Nat), RdJ w (some ⟨b, o, none⟩) l → ∃ zs : List Iz, zs.map Iz.x = l ∧ (∀ (j : Nat) (z : Iz), zs[j]? = some z → RdZa w z) ∧ ∀ W, Below w.heap.size w W → ∀ j u, (itC zs)[j]? = some u → W.cell? ⟨b, o + j, none⟩ = some u := by
  intro l
  induction l with
  | nil => intro o _; exact ⟨[], rfl, fun j z h => by simp at h, fun W _ j u h => by simp [itC] at h⟩
  | cons x l ih =>
   intro o h
   obtain ⟨b', o', a2, c2, a4, c4, e, ⟨q0, q1, q2, q3, q4⟩, s2, s4⟩ := h 0 x rfl
   cases e
   obtain ⟨zs, h1, h2, h3⟩ := ih (o + 5) (fun i y hy => by
    obtain ⟨b', o', a2, c2, a4, c4, e, ⟨q0, q1, q2, q3, q4⟩, s2, s4⟩ := h (i + 1) y (by simpa using hy)
    cases e
    rw [show o + (i + 1) * 5 = o + 5 + i * 5 by omega] at q0 q1 q2 q3 q4
    exact ⟨b, o + 5, a2, c2, a4, c4, rfl, ⟨q0, q1, q2, q3, q4⟩, s2, s4⟩)
   refine ⟨⟨x, a2, c2, a4, c4, 0, 0, 0, 0⟩ :: zs, by rw [List.map_cons, h1], fun j z hz => ?_, fun W hW j u hu => ?_⟩
   ·rcases j with _ | j
    ·cases hz; exact ⟨s2, s4⟩
    ·exact h2 j z (by simpa using hz)
   ·have k : ∀ {r v}, w.cell? ⟨b, r, none⟩ = some v → W.cell? ⟨b, r, none⟩ = some v := fun {r v} h' => (hW.cell (p := ⟨b, r, none⟩) (World.block_lt_of_cell? _ _ h')).trans h'
    rw [itC] at hu
    rcases Nat.lt_or_ge j 5 with hj | hj
    ·rw [List.getElem?_append_left (by show j < 5; exact hj)] at hu
     rcases j with _ | _ | _ | _ | _ | j
     ·cases hu; exact k q0
     ·cases hu; exact k q1
     ·cases hu; exact k q2
     ·cases hu; exact k q3
     ·cases hu; exact k q4
     ·omega
    ·rw [List.getElem?_append_right (by show 5 ≤ j; exact hj)] at hu
     have h5 := h3 W hW (j - 5) u hu
     rwa [show o + 5 + (j - 5) = o + j by omega] at h5
 obtain ⟨zs, h1, h2, h3⟩ := key l o h
 exact ⟨zs, h1, h2, fun W hW j u hu => by rw [addr_add]; exact h3 W hW j u hu⟩
theorem iwith_any (lo lo2 : Nat) (a a2 : Option Addr) (ps : List ty.It) (p fr : ByteArray) (t : List ty.Et) (w : World) (hb : ty.SrcIt (some lo) w a ps) (hw : ty.wtIt ps ≤ 1048576) (ht : ty.SrcEt (some lo2) w a2 t) (hwt : ty.wtEt t ≤ 1048576) (hst : stB ps = true) (hp : wd.aokB p = true) (hpz : p.size ≤ 1048576) (htr : tt.treeB (enT t) t.length = true) (hm : tt.ML w) (hT : wd.TabB w) :
  Calls Tryz.prog 58 #[.slice a ps.length ps.length, .string p, .slice a2 t.length t.length, .string fr] w fun e w' => (∃ v, e = .returned (.tuple #[v, .int .i64 (addC ps p t)]) ∧ RdVa w' v (addL ps p fr t)) ∧ Below w.heap.size w w' := by
 have ha : AscI ps := fun i j x y hji hy hx => asc_lt (st_facts hst).2 i j x y hji hy hx
 have hn3 : ps.length ≤ 300 := (st_facts hst).1
 have htl : t.length ≤ 1048576 := by have := ty.wtEt_len t; omega
 have hp13 : 13 ≤ p.size := by
  have h := hp
  unfold wd.aokB at h
  simp only [Bool.and_eq_true, decide_eq_true_eq] at h
  have := h.1
  omega
 obtain ⟨tb, to_, rfl, htc⟩ : ∃ tb to_, a2 = some ⟨tb, to_, none⟩ ∧ ∀ (i : Nat) (x : ty.Et), t[i]? = some x → ty.CEt (some lo2) w tb (to_ + i * 4) x := by
  rcases ht with h | ⟨b, o, e, _, hc⟩
  ·cases h.1
  ·exact ⟨b, o, e, hc⟩
 obtain ⟨b, o, rfl, hic⟩ : ∃ b o, a = some ⟨b, o, none⟩ ∧ ∀ (i : Nat) (x : ty.It), ps[i]? = some x → ty.CIt (some lo) w b (o + i * 5) x := by
  rcases hb with h | ⟨b, o, e, _, hc⟩
  ·cases h.1
  ·exact ⟨b, o, e, hc⟩
 have hR : tt.EnR w tb to_ t.length (enT t) := src_enr htc
 have HRE : Hid (RdE w (some ⟨tb, to_, none⟩) t) := ⟨tb, to_, rfl, fun j y hy => (htc j y hy).any⟩
 have hsu13 : (tt.tsB (enT t) t.length).size = 13 := by rw [tt.tsB_yes htr, wd.wordA_size]
 have HSU : Hid (Calls Tryz.prog 114 #[.slice (some ⟨tb, to_, none⟩) t.length t.length] w fun e w' => e = .returned (.string (tt.tsB (enT t) t.length)) ∧ Below w.heap.size w w') := tt.itsum_any (enT t) tb to_ t.length t.length w hR (small_enr hwt) htl hm (tt.at_any _) (tab_of_B hT)
 have HIN : Hid (∀ W, Below w.heap.size w W → Calls Tryz.prog 115 #[.slice (some ⟨b, o, none⟩) ps.length ps.length, .string p] W fun e w' => (∃ J : Nat, RkI ps p.data.toList J ∧ e = .returned (.tuple #[.int .i64 (J : Int), .bool (hasB ps p)])) ∧ Below W.heap.size W w') := fun W h => inum_any _ _ ps p W (hb.any.below h) hn3 ha
 have HSM : Hid (∀ (i : Nat) (x : ty.It), ps[i]? = some x → ∀ W, Calls Tryz.prog 116 #[.string x.fSum, .string (tt.tsB (enT t) t.length)] W fun e w' => e = .returned (.bool (decide (x.fSum = tt.tsB (enT t) t.length))) ∧ Below W.heap.size W w') := fun i x hx W => by
  have hwx := ty.wtIt_mem (List.mem_of_getElem? hx)
  unfold ty.wt1It at hwx
  have h := same_any x.fSum (tt.tsB (enT t) t.length) (by omega) (by omega) W
  have e : ssB x.fSum (tt.tsB (enT t) t.length) = decide (x.fSum = tt.tsB (enT t) t.length) := by
   unfold ssB
   by_cases e : x.fSum = tt.tsB (enT t) t.length
   ·rw [decide_eq_true e, e, hsu13]; rfl
   ·rw [decide_eq_false e]; simp
  rwa [e] at h
 have HAW : Hid (∀ W, Below w.heap.size w W → Calls Tryz.prog 117 #[.slice (some ⟨b, o, none⟩) ps.length ps.length, .string p] W fun e w' => e = .returned (.bool (awB ps p)) ∧ Below W.heap.size W w') := fun W h => isaw_any lo _ _ ps p W (hb.below h) hw hp13 hpz (hm.below h)
 have HPT : Hid (∀ W, Below w.heap.size w W → Calls Tryz.prog 119 #[.slice (some ⟨b, o, none⟩) ps.length ps.length] W fun e w' => (∃ v, e = .returned v ∧ sr.OwnS W.heap.size w' v (pths ps)) ∧ Below W.heap.size W w') := fun W h => ipaths_any _ _ ps W (hb.any.below h) (by omega)
 have HPL : Hid ((pths ps).length = ps.length) := pths_len ps
 have HPS : ∀ y ∈ pths ps ++ [p.data.toList], y.length ≤ 1048576 := fun y hy => by
  rcases List.mem_append.1 hy with h | h
  ·obtain ⟨i, x, hx, e⟩ := mem_pths.1 h
   have h1 := ty.wtIt_mem (List.mem_of_getElem? hx)
   unfold ty.wt1It at h1
   have e2 : x.fPath.data.toList.length = x.fPath.size := Array.length_toList
   rw [← e]
   omega
  ·simp only [List.mem_singleton] at h
   subst h
   have e2 : p.data.toList.length = p.size := Array.length_toList
   omega
 have hxl : (pths ps ++ [p.data.toList]).length ≤ 301 := by rw [List.length_append, HPL.out]; simp; omega
 have HLK : Hid (∀ W v, Below w.heap.size w W → sr.StrR W v (pths ps ++ [p.data.toList]) → Calls Tryz.prog 118 #[v] W fun e w' => rf.LkR W w' e (sr.adr (pths ps ++ [p.data.toList])) ∧ Below W.heap.size W w') := fun W v h hv => rf.lookoutFor_any _ HPS v W hv (by omega) (hT.below h)
 obtain ⟨h500, htr2⟩ := rf.tree_is htr
 have hPW : (rf.PW (enT t) t.length).length ≤ 10000000 := by
  have h1 := rf.PW_len (E := enT t) (B := 20000) (N := t.length) (fun i hi => rf.eOk_data (htr2.1 i hi))
  have h2 : t.length * 20000 ≤ 500 * 20000 := Nat.mul_le_mul_right _ h500
  omega
 have hal := sr.adr_len (pths ps ++ [p.data.toList])
 have hla : ∀ a ∈ sr.adr (pths ps ++ [p.data.toList]), 15 ≤ a.length ∧ a.length ≤ 1048576 := fun a ha => by
  unfold sr.adr at ha
  rw [sr.fold_mem, List.mem_filter] at ha
  rcases ha with h | ⟨h1, h2⟩
  ·cases h
  ·exact ⟨rf.adr_long h2, HPS a h1⟩
 have HRF : Hid (∀ W g c b1 b2, Below w.heap.size w W → c ≤ maxLen → b1 ≠ b2 → sr.Blk W g c (sr.adr (pths ps ++ [p.data.toList])) → rf.WM W b1 (sr.adr (pths ps ++ [p.data.toList])) → rf.OwM W b2 0 (.map []) → Calls Tryz.prog 120 #[.agg #[.slice (some ⟨g, 0, none⟩) (sr.adr (pths ps ++ [p.data.toList])).length c, .map (some b1), .map (some b2)], .slice (some ⟨tb, to_, none⟩) t.length t.length] W fun e w' => (∃ v, e = .returned v ∧ sr.OwnS W.heap.size w' v (rf.rfs (enT t) t.length (pths ps ++ [p.data.toList]))) ∧ W.grownBy w' (some b2)) := fun W g c b1 b2 k h1 h2 h3 h4 h5 => (rf.refs_any _ g c b1 b2 0 (.map []) (enT t) tb to_ t.length t.length W h3 h1 (by omega) hla h4 h5 h2 (hR.below k) (small_enr hwt) htl hPW).mono fun e w' q => ⟨q.1, q.2.1⟩
 have HIC : Hid (∀ (i : Nat) (x : ty.It), ps[i]? = some x → ∀ W, Below w.heap.size w W → W.cell? ⟨b, o + i * 5 + 1, none⟩ = some (.string x.fSum)) := fun i x hx W h => by
  obtain ⟨_, _, _, _, _, q1, _⟩ := hic i x hx
  exact (h.cell (p := ⟨b, _, none⟩) (World.block_lt_of_cell? _ _ q1)).trans q1
 have HST : Hid (∀ W, Below w.heap.size w W → RdVa W (.slice (some ⟨b, o, none⟩) ps.length ps.length) ps) := fun W h => rdva_st hb h
 have HRJ : Hid (RdJ w (some ⟨b, o, none⟩) ps) := RdJ.of hb
 have HAS : Hid (AscI ps) := ha
 obtain ⟨n, hnn⟩ : ∃ n, ps.length = n := ⟨_, rfl⟩
 have HNN : Hid (ps.length = n) := hnn
 obtain ⟨su, hsu⟩ : ∃ s, tt.tsB (enT t) t.length = s := ⟨_, rfl⟩
 have HSS : Hid (tt.tsB (enT t) t.length = su) := hsu
 obtain ⟨nt, hnt⟩ : ∃ n, t.length = n := ⟨_, rfl⟩
 have HNT : Hid (t.length = nt) := hnt
 rw [hnn] at HIN HAW HPT HST hn3 ⊢
 rw [hsu] at HSU HSM
 rw [hnt] at HSU HRF ⊢
 clear hb hw ht hwt hst ha hR htc hic hnn hsu hnt htl hm hT htr htr2 h500 hPW hal hla hsu13 HPS hxl
 go_enter Tryz.func58, Tryz.ntmps58
 go_wp2_with (first
  | (go_at_call 114; refine HSU.out.mono ?_; rintro e w1 ⟨rfl, hl1⟩)
  | (go_at_call 115; refine (HIN.out _ hl1).mono ?_; rintro e w2 ⟨⟨J, hJ, rfl⟩, hl2⟩; refine Hid.out ?_))
 refine Lib.hid ?_
 have HB2 : Hid (Below w.heap.size w w2) := hl1.trans (hl2.mono hl1.size)
 have HJ : Hid (RkI ps p.data.toList J) := hJ
 clear hJ hl1 hl2 HSU HIN
 cases hh : hasB ps p with
 | true =>
  obtain ⟨i, x, hx, hxe⟩ := mem_pths.1 (of_decide_eq_true hh)
  have hiJ : i = J := by
   rcases Nat.lt_trichotomy i J with h | h | h
   ·have := HJ.out.lo i x h hx; rw [hxe] at this; exact absurd this (List.lt_irrefl _)
   ·exact h
   ·obtain ⟨y, hy⟩ : ∃ y, ps[J]? = some y := ⟨_, List.getElem?_eq_getElem (by have := (List.getElem?_eq_some_iff.1 hx).1; omega)⟩
    have h1 := HAS.out i J x y h hy hx
    rw [hxe] at h1
    exact absurd h1 (HJ.out.hi J y (Nat.le_refl _) hy)
  subst hiJ
  have q1 := HIC.out i x hx _ HB2.out
  have hin : i < n := by have := (List.getElem?_eq_some_iff.1 hx).1; have := HNN.out; omega
  have hin' : (i : Int) < (n : Int) := by omega
  have hi0 : (0 : Int) ≤ (i : Int) := by omega
  have HE : Hid ((addC ps p t = if x.fSum = tt.tsB (enT t) t.length then 1 else 2) ∧ addL ps p fr t = ps) := add_had HAS.out hx hxe
  rw [HSS.out] at HE
  have HS1 := Lib.hid (HSM.out i x hx)
  have HVV : Hid (∀ W, Below w.heap.size w W → RdVa W (.slice (some ⟨b, o, none⟩) n n) (addL ps p fr t)) := fun W h => by rw [HE.out.2]; exact HST.out _ h
  obtain ⟨B, hB⟩ : ∃ B, decide (x.fSum = su) = B := ⟨_, rfl⟩
  have HC : Hid (addC ps p t = if B = true then 1 else 2) := by show _ = _; rw [HE.out.1, ← hB]; simp
  rw [hB] at HS1
  obtain ⟨S1, hS1⟩ : ∃ S, x.fSum = S := ⟨_, rfl⟩
  rw [hS1] at q1 HS1
  clear hx hxe hB hS1 hh HE HSM HAW HPT HLK HRF HST HRJ HAS HIC HPL HRE HJ
  cases B with
  | true =>
   go_wp2_with (go_at_call 116; refine (HS1.out _).mono ?_; rintro e w3 ⟨rfl, hl3⟩; have hB3 : Below w.heap.size w w3 := HB2.out.trans (hl3.mono HB2.out.size))
   go_ret2
   exact ⟨⟨_, by rw [HC.out]; first | done | rfl, HVV.out _ hB3⟩, hB3⟩
  | false =>
   go_wp2_with (go_at_call 116; refine (HS1.out _).mono ?_; rintro e w3 ⟨rfl, hl3⟩; have hB3 : Below w.heap.size w w3 := HB2.out.trans (hl3.mono HB2.out.size))
   go_ret2
   exact ⟨⟨_, by rw [HC.out]; first | done | rfl, HVV.out _ hB3⟩, hB3⟩
 | false =>
  have HNO : Hid (∀ (j : Nat) (z : ty.It), ps[j]? = some z → z.fPath.data.toList ≠ p.data.toList) := fun j z hz e => by
   rw [has_fd hz e] at hh
   cases hh
  clear hh HSM HIC
  obtain ⟨AW, hAW⟩ : ∃ V, awB ps p = V := ⟨_, rfl⟩
  have HAV : Hid (awB ps p = AW) := hAW
  rw [hAW] at HAW
  clear hAW
  cases AW with
  | true =>
   have HE : Hid (addC ps p t = 3 ∧ addL ps p fr t = ps) := by
    obtain ⟨x, hx, h⟩ := List.any_eq_true.1 HAV.out
    obtain ⟨i, hi⟩ := List.getElem?_of_mem hx
    exact add_aw HNO.out hi h
   have HVV : Hid (∀ W, Below w.heap.size w W → RdVa W (.slice (some ⟨b, o, none⟩) n n) (addL ps p fr t)) := fun W h => by rw [HE.out.2]; exact HST.out _ h
   go_wp2_with (go_at_call 117; refine (HAW.out _ HB2.out).mono ?_; rintro e w3 ⟨rfl, hl3⟩; have hB3 : Below w.heap.size w w3 := HB2.out.trans (hl3.mono HB2.out.size))
   go_ret2
   exact ⟨⟨_, by rw [HE.out.1]; first | done | rfl, HVV.out _ hB3⟩, hB3⟩
  | false =>
   by_cases h300 : n = 300
   ·have HE : Hid (addC ps p t = 4 ∧ addL ps p fr t = ps) := add_full HNO.out HAV.out (HNN.out.trans h300)
    subst h300
    have HVV : Hid (∀ W, Below w.heap.size w W → RdVa W (.slice (some ⟨b, o, none⟩) 300 300) (addL ps p fr t)) := fun W h => by rw [HE.out.2]; exact HST.out _ h
    go_wp2_with (go_at_call 117; refine (HAW.out _ HB2.out).mono ?_; rintro e w3 ⟨rfl, hl3⟩; have hB3 : Below w.heap.size w w3 := HB2.out.trans (hl3.mono HB2.out.size))
    go_ret2
    exact ⟨⟨_, by rw [HE.out.1]; first | done | rfl, HVV.out _ hB3⟩, hB3⟩
   have h300' : ¬ (n : Int) = 300 := by omega
   have HE : Hid (addC ps p t = 0 ∧ addL ps p fr t = insL ps (newI ps p fr t)) := add_yes HNO.out HAV.out (by rw [HNN.out]; exact h300)
   go_wp2_with (first
    | (go_at_call 117; refine (HAW.out _ HB2.out).mono ?_; rintro e w3 ⟨rfl, hl3⟩; have hB3 : Below w.heap.size w w3 := HB2.out.trans (hl3.mono HB2.out.size))
    | (go_at_call 119; refine (HPT.out _ hB3).mono ?_; rintro e w4 ⟨⟨v4, rfl, hv4⟩, hl4⟩; refine Hid.out ?_))
   refine Lib.hid ?_
   have HB4 : Hid (Below w.heap.size w w4) := hB3.trans (hl4.mono hB3.size)
   have HV4 : Hid (sr.OwnS w3.heap.size w4 v4 (pths ps)) := hv4
   have HS34 : Hid (w3.heap.size ≤ w4.heap.size) := hl4.size
   have HS03 : Hid (w.heap.size ≤ w3.heap.size) := hB3.size
   obtain ⟨W5, hW5⟩ : ∃ X, X = w4.alloc (.cells #[.string p] 9) := ⟨_, rfl⟩
   have HW5 : Hid (W5 = w4.alloc (.cells #[.string p] 9)) := hW5
   have HL5 : Hid (Below w4.heap.size w4 W5) := by show Below _ _ _; rw [hW5]; exact (Below.refl _ _).alloc (Nat.le_refl _) _
   have HO5 : Hid (W5.ownsRow w3.heap.size 9 1 v4 (pths ps).length ((pths ps).map sr.strL)) := own_belowI HV4.out.1 HL5.out
   have HNW : Hid (∀ j u, ([p.data.toList].map sr.strL)[j]? = some u → W5.cell? ((⟨w4.heap.size, 0, none⟩ : Addr).add j) = some u) := by
    show ∀ j u, _ → _
    rw [hW5, List.map_cons, List.map_nil, strL_of]
    exact cells_newI w4 w4.heap.size rfl 9 [.string p]
   have HS5 : Hid (w3.heap.size ≤ W5.heap.size) := Nat.le_trans HS34.out HL5.out.size
   have HPN : Hid ((pths ps).length + 1 ≤ 1000000) := by show _ ≤ _; rw [HPL.out, HNN.out]; omega
   have HL35 : Hid (Below w3.heap.size w3 W5) := hl4.trans (HL5.out.mono hl4.size)
   clear hv4 hl4 hW5
   go_wp2_with (first
    | (at_builtin; refine app_str_at _ rfl _ _ rfl w3.heap.size v4 (pths ps) rfl (by rw [← HW5.out]; exact HO5.out) HV4.out.2 ⟨w4.heap.size, 0, none⟩ 1 1 [p.data.toList] rfl rfl (by rw [← HW5.out]; exact HNW.out) HPN.out (by rw [← HW5.out]; exact HS5.out) ?_; intro v6 w6 hown6 hnn6 hg6 hbk6; refine Hid.out ?_)
    | go_in)
   refine Lib.hid ?_
   rw [← HW5.out] at hg6
   have hB36 : Below w3.heap.size w3 w6 := below_grownS HL35.out HO5.out hg6 HS5.out
   have HB6 : Hid (Below w.heap.size w w6) := hB3.trans (hB36.mono hB3.size)
   have HL6 := Lib.hid (HLK.out w6 v6 HB6.out (sr.StrR.own' hown6 hnn6))
   clear hown6 hnn6 hg6 hbk6 hB36 HLK HPT HAW HO5 HNW HS5 HL35 HL5 HV4 HS34 HW5 HPN
   go_wp2_with (first
    | (go_at_call 118; refine HL6.out.mono ?_; rintro e w7 ⟨⟨g7, c7, b1, b2, rfl, hk0, hk1, hk2, hk3, hk4, hk5, hk6, hk7⟩, hl7⟩; have hB7 : Below w.heap.size w w7 := HB6.out.trans (hl7.mono HB6.out.size))
    | (go_at_call 120; refine (HRF.out _ _ _ _ _ hB7 hk4 hk3 hk5 hk6 hk7).mono ?_; rintro e w8 ⟨⟨v8, rfl, hv8⟩, hg8⟩; refine Hid.out ?_))
   refine Lib.hid ?_
   have HB8 : Hid (Below w.heap.size w w8) := ⟨hg8.os.trans hB7.os, hg8.tape.trans hB7.tape, hg8.output.trans hB7.output, Nat.le_trans hB7.size hg8.size, fun q hq => (hg8.block q (Nat.lt_of_lt_of_le hq hB7.size) (fun e => by have e := Option.some.inj e; have := HB6.out.size; omega)).trans (hB7.block q hq)⟩
   obtain ⟨rb, ro, rc, hve, _, _, hcr⟩ := hv8.row
   subst hve
   have HTX : Hid (RdT w8 (some ⟨rb, ro, none⟩) (newI ps p fr t).fRefs) := by
    refine ⟨rb, ro, rfl, fun j y hy => ?_⟩
    have hy' : ((rf.rfs (enT t) t.length (pths ps ++ [p.data.toList])).map (fun l => (⟨l.toArray⟩ : ByteArray)))[j]? = some y := hy
    rw [List.getElem?_map] at hy'
    obtain ⟨l, hl, rfl⟩ := Option.map_eq_some_iff.1 hy'
    exact hcr j l (by rw [← HNT.out]; exact hl)
   have HRL : Hid ((newI ps p fr t).fRefs.length = (rf.rfs (enT t) nt (pths ps ++ [p.data.toList])).length) := by show ((rf.rfs (enT t) t.length (pths ps ++ [p.data.toList])).map _).length = _; rw [List.length_map, HNT.out]
   obtain ⟨RL, hRL⟩ : ∃ R, (rf.rfs (enT t) nt (pths ps ++ [p.data.toList])).length = R := ⟨_, rfl⟩
   rw [hRL] at HRL ⊢
   have hrk := HJ.out.rk
   obtain ⟨xn, hxn⟩ : ∃ xn, newI ps p fr t = xn := ⟨_, rfl⟩
   have HXN : Hid (xn.fPath = p ∧ xn.fSum = su ∧ xn.fFrom = fr ∧ xn.fTree = t ∧ xn.fRefs.length = RL) := by
    rw [← hxn]
    exact ⟨rfl, HSS.out, rfl, rfl, HRL.out⟩
   have HIN : Hid (insL ps xn = ps.take J ++ xn :: ps.drop J) := by
    show insL ps xn = _
    unfold insL
    rw [HXN.out.1, hrk]
   rw [hxn] at HTX HE
   rw [HIN.out] at HE
   obtain ⟨zn, hzn⟩ : ∃ zn : Iz, zn = ⟨xn, some ⟨rb, ro, none⟩, rc, some ⟨tb, to_, none⟩, nt, 0, 0, 0, 0⟩ := ⟨_, rfl⟩
   have HZN : Hid (izC zn = [.string p, .string su, .slice (some ⟨rb, ro, none⟩) RL rc, .string fr, .slice (some ⟨tb, to_, none⟩) nt nt] ∧ zn.x = xn ∧ ∀ W, Below w8.heap.size w8 W → RdZa W zn) := by
    rw [hzn]
    refine ⟨?_, rfl, fun W h => ⟨HTX.out.below h, ?_⟩⟩
    ·obtain ⟨e1, e2, e3, e4, e5⟩ := HXN.out
     show [Value.string xn.fPath, .string xn.fSum, .slice _ xn.fRefs.length _, .string xn.fFrom, .slice _ xn.fTree.length _] = _
     rw [e1, e2, e3, e4, e5, HNT.out]
    ·show RdE W _ xn.fTree
     rw [HXN.out.2.2.2.1]
     exact HRE.out.below (HB8.out.trans (h.mono HB8.out.size))
   obtain ⟨zs, hz1, hz2, hz3⟩ := rd_row HRJ.out
   have HZ1 : Hid (zs.map Iz.x = ps) := hz1
   have HZ2 : Hid (∀ (j : Nat) (z : Iz), zs[j]? = some z → RdZa w z) := hz2
   have HZ3 : Hid (∀ W, Below w.heap.size w W → ∀ j u, (itC zs)[j]? = some u → W.cell? ((⟨b, o, none⟩ : Addr).add j) = some u) := hz3
   have HZL : Hid (zs.length = n) := by show _ = _; have := congrArg List.length hz1; rw [List.length_map, HNN.out] at this; exact this
   have hJn : J ≤ n := by have := HJ.out.le; rw [HNN.out] at this; exact this
   clear hRL hxn hzn hz1 hz2 hz3 hcr hv8 hg8 hl7 hk0 hk1 hk2 hk3 hk4 hk5 hk6 hk7 hB7 hl3 hB3 HTX HRL HXN HIN hrk HRF HL6 HST HRJ HAS HPL HRE HJ HNO HAV
   obtain ⟨W9, hW9⟩ : ∃ X, X = w8.alloc (.cells #[.string p, .string su, .slice (some ⟨rb, ro, none⟩) RL rc, .string fr, .slice (some ⟨tb, to_, none⟩) nt nt] 94) := ⟨_, rfl⟩
   have HW9 : Hid (W9 = w8.alloc (.cells #[.string p, .string su, .slice (some ⟨rb, ro, none⟩) RL rc, .string fr, .slice (some ⟨tb, to_, none⟩) nt nt] 94)) := hW9
   have HL9 : Hid (Below w8.heap.size w8 W9) := by show Below _ _ _; rw [hW9]; exact (Below.refl _ _).alloc (Nat.le_refl _) _
   have HB9 : Hid (Below w.heap.size w W9) := HB8.out.trans (HL9.out.mono HB8.out.size)
   have hlt9 : w8.heap.size < W9.heap.size := by rw [hW9]; simp
   have HXB : Hid (∀ W, Below W9.heap.size W9 W → W.cell? ⟨w8.heap.size, 0, none⟩ = some (.string p) ∧ W.cell? ⟨w8.heap.size, 1, none⟩ = some (.string su) ∧ W.cell? ⟨w8.heap.size, 2, none⟩ = some (.slice (some ⟨rb, ro, none⟩) RL rc) ∧ W.cell? ⟨w8.heap.size, 3, none⟩ = some (.string fr) ∧ W.cell? ⟨w8.heap.size, 4, none⟩ = some (.slice (some ⟨tb, to_, none⟩) nt nt)) := fun W h => by
    have k : ∀ j, W.cell? ⟨w8.heap.size, j, none⟩ = W9.cell? ⟨w8.heap.size, j, none⟩ := fun j => h.cell (p := ⟨w8.heap.size, j, none⟩) hlt9
    refine ⟨(k 0).trans ?_, (k 1).trans ?_, (k 2).trans ?_, (k 3).trans ?_, (k 4).trans ?_⟩ <;> (rw [hW9]; simp [go_sem])
   have hJ0 : (0 : Int) ≤ (J : Int) := by omega
   have hJn' : (J : Int) ≤ (n : Int) := by omega
   clear hW9 HB8
   by_cases hJc : J = n
   ·have hJc' := hJc.symm
    subst hJc'
    have HCC : Hid (∀ W, Below W9.heap.size W9 W → Calls Tryz.prog 121 #[.slice (some ⟨W.heap.size + 1, 0, none⟩) 3 3] ((W.alloc (.cells #[.string p, .string su, .slice (some ⟨rb, ro, none⟩) RL rc, .string fr, .slice (some ⟨tb, to_, none⟩) nt nt] 94)).alloc (.cells #[.slice (some ⟨b, o, none⟩) n n, .slice (some ⟨W.heap.size, 0, none⟩) 1 1, .slice (some ⟨b, o, none⟩) 0 0] 30)) fun e w' => (∃ v, e = .returned v ∧ RdVa w' v (addL ps p fr t)) ∧ Below w.heap.size w w' ∧ Below W.heap.size W w') := fun W hW => by
     have hWw : Below w.heap.size w W := HB9.out.trans (hW.mono HB9.out.size)
     obtain ⟨X, hX⟩ : ∃ X, X = (W.alloc (.cells #[.string p, .string su, .slice (some ⟨rb, ro, none⟩) RL rc, .string fr, .slice (some ⟨tb, to_, none⟩) nt nt] 94)).alloc (.cells #[.slice (some ⟨b, o, none⟩) n n, .slice (some ⟨W.heap.size, 0, none⟩) 1 1, .slice (some ⟨b, o, none⟩) 0 0] 30) := ⟨_, rfl⟩
     have hXb : Below W.heap.size W X := by rw [hX]; exact ((Below.refl _ _).alloc (Nat.le_refl _) _).alloc (by simp) _
     have hXw : Below w.heap.size w X := hWw.trans (hXb.mono hWw.size)
     have hX8 : Below w8.heap.size w8 X := by
      have h1 := HL9.out.trans (hW.mono HL9.out.size)
      exact h1.trans (hXb.mono h1.size)
     have hcB : ∀ j u, (itC [zn])[j]? = some u → X.cell? ((⟨W.heap.size, 0, none⟩ : Addr).add j) = some u := fun j u hu => by
      rw [show itC [zn] = izC zn by rw [itC, itC, List.append_nil], HZN.out.1] at hu
      have h1 := cells_newI W W.heap.size rfl 94 [.string p, .string su, .slice (some ⟨rb, ro, none⟩) RL rc, .string fr, .slice (some ⟨tb, to_, none⟩) nt nt] j u hu
      have h2 : (W.alloc (.cells #[.string p, .string su, .slice (some ⟨rb, ro, none⟩) RL rc, .string fr, .slice (some ⟨tb, to_, none⟩) nt nt] 94)).cell? ((⟨W.heap.size, 0, none⟩ : Addr).add j) = some u := h1
      rw [hX, addr_add]
      rw [addr_add] at h2
      exact ((Below.refl _ _).alloc (Nat.le_refl _) _).cell (p := ⟨W.heap.size, 0 + j, none⟩) (by simp) |>.trans h2
     rw [← hX]
     have hsplit : itC zs = itC (zs.take n) ++ itC (zs.drop n) := by rw [← itC_app, List.take_append_drop]
     have htk : (itC (zs.take n)).length = n * 5 := by rw [itC_len, List.length_take, HZL.out, Nat.min_eq_left hJn]
     refine (concatI_any (zs.take n) [zn] (zs.drop n) n 0 (by rw [List.length_take, HZL.out, Nat.min_eq_left hJn]) rfl (by rw [List.length_drop, HZL.out]; omega) ⟨b, o, none⟩ ⟨W.heap.size, 0, none⟩ ⟨b, o, none⟩ n 1 0 (W.heap.size + 1) X (by rw [hX]; simp [go_sem]) (by rw [hX]; simp [go_sem]) (by rw [hX]; simp [go_sem]) (fun W' h' j u hu => ?_) (fun W' h' j u hu => ?_) (fun W' h' j u hu => ?_) (by omega) (by omega)).mono ?_
     ·refine HZ3.out W' (hXw.trans (h'.mono hXw.size)) j u ?_
      rw [hsplit, List.getElem?_append_left (List.getElem?_eq_some_iff.1 hu).1]
      exact hu
     ·have h1 := hcB j u hu
      rw [addr_add] at h1 ⊢
      exact (h'.cell (p := ⟨W.heap.size, 0 + j, none⟩) (World.block_lt_of_cell? _ _ h1)).trans h1
     ·rw [List.drop_eq_nil_of_le (by rw [HZL.out]; omega)] at hu; simp [itC] at hu
     ·rintro e w' ⟨⟨v, rfl, hv⟩, hl⟩
      have hXw' : Below w.heap.size w w' := hXw.trans (hl.mono hXw.size)
      have h8' : Below w8.heap.size w8 w' := hX8.trans (hl.mono hX8.size)
      refine ⟨⟨v, rfl, ?_⟩, hXw', hXb.trans (hl.mono hXb.size)⟩
      have h1 := rdva_of hv fun j z hz => by
       rcases Nat.lt_or_ge j (zs.take n ++ [zn]).length with h | h
       ·rw [List.getElem?_append_left h] at hz
        rcases Nat.lt_or_ge j (zs.take n).length with h2 | h2
        ·rw [List.getElem?_append_left h2, List.getElem?_take] at hz
         split at hz
         ·exact (HZ2.out _ z hz).below hXw'
         ·cases hz
        ·rw [List.getElem?_append_right h2] at hz
         rcases hjz : j - (zs.take n).length with _ | k
         ·rw [hjz] at hz; simp at hz; subst hz; exact HZN.out.2.2 _ h8'
         ·rw [hjz] at hz; simp at hz
       ·rw [List.getElem?_append_right h, List.getElem?_drop] at hz
        exact (HZ2.out _ z hz).below hXw'
      have e1 : (zs.take n ++ [zn] ++ zs.drop n).map Iz.x = addL ps p fr t := by
       rw [List.map_append, List.map_append, List.map_take, List.map_drop, HZ1.out, HE.out.2, List.map_cons, HZN.out.2.1]
       simp
      rwa [e1] at h1
    go_upto_region 13 with fail
    rw [← HW9.out]
    clear HW9 HZN HZ1 HZ2 HZ3 HZL HL9
    go_region_held3 (fun W => W.cell? ⟨w8.heap.size, 0, none⟩ = some (.string p) ∧ W.cell? ⟨w8.heap.size, 1, none⟩ = some (.string su) ∧ W.cell? ⟨w8.heap.size, 2, none⟩ = some (.slice (some ⟨rb, ro, none⟩) RL rc) ∧ W.cell? ⟨w8.heap.size, 3, none⟩ = some (.string fr) ∧ W.cell? ⟨w8.heap.size, 4, none⟩ = some (.slice (some ⟨tb, to_, none⟩) nt nt))
     (first | exact HXB.out _ (Below.refl _ _).drew | exact HXB.out _ hbz | exact HXB.out _ ((Below.refl _ _).alloc (Nat.le_refl _) _).drew | exact HXB.out _ (((Below.refl _ _).alloc (Nat.le_refl _) _).alloc (by simp) _).drew | exact HXB.out _ (Below.refl _ _) | go_keep)
     (first
      | (go_at_call 121; refine (HCC.out W9.drew (Below.refl _ _).drew).mono ?_; rintro e wz ⟨⟨vz, rfl, hvz⟩, hlz, hlz2⟩; have hbz : Below W9.heap.size W9 wz := (Below.refl W9.heap.size W9).drew.trans hlz2))
    go_wp2_with fail
    go_ret2
    exact ⟨⟨_, by rw [HE.out.1]; first | done | rfl, hvz⟩, hlz⟩
   ·have hJl : (J : Int) < (n : Int) := by omega
    have hJc2 : ¬ n = J := fun e => hJc e.symm
    have HCC : Hid (∀ W, Below W9.heap.size W9 W → Calls Tryz.prog 121 #[.slice (some ⟨W.heap.size + 1, 0, none⟩) 3 3] ((W.alloc (.cells #[.string p, .string su, .slice (some ⟨rb, ro, none⟩) RL rc, .string fr, .slice (some ⟨tb, to_, none⟩) nt nt] 94)).alloc (.cells #[.slice (some ⟨b, o, none⟩) J n, .slice (some ⟨W.heap.size, 0, none⟩) 1 1, .slice (some ⟨b, o + J * 5, none⟩) (n - J) (n - J)] 30)) fun e w' => (∃ v, e = .returned v ∧ RdVa w' v (addL ps p fr t)) ∧ Below w.heap.size w w' ∧ Below W.heap.size W w') := fun W hW => by
     have hWw : Below w.heap.size w W := HB9.out.trans (hW.mono HB9.out.size)
     obtain ⟨X, hX⟩ : ∃ X, X = (W.alloc (.cells #[.string p, .string su, .slice (some ⟨rb, ro, none⟩) RL rc, .string fr, .slice (some ⟨tb, to_, none⟩) nt nt] 94)).alloc (.cells #[.slice (some ⟨b, o, none⟩) J n, .slice (some ⟨W.heap.size, 0, none⟩) 1 1, .slice (some ⟨b, o + J * 5, none⟩) (n - J) (n - J)] 30) := ⟨_, rfl⟩
     have hXb : Below W.heap.size W X := by rw [hX]; exact ((Below.refl _ _).alloc (Nat.le_refl _) _).alloc (by simp) _
     have hXw : Below w.heap.size w X := hWw.trans (hXb.mono hWw.size)
     have hX8 : Below w8.heap.size w8 X := by
      have h1 := HL9.out.trans (hW.mono HL9.out.size)
      exact h1.trans (hXb.mono h1.size)
     have hcB : ∀ j u, (itC [zn])[j]? = some u → X.cell? ((⟨W.heap.size, 0, none⟩ : Addr).add j) = some u := fun j u hu => by
      rw [show itC [zn] = izC zn by rw [itC, itC, List.append_nil], HZN.out.1] at hu
      have h1 := cells_newI W W.heap.size rfl 94 [.string p, .string su, .slice (some ⟨rb, ro, none⟩) RL rc, .string fr, .slice (some ⟨tb, to_, none⟩) nt nt] j u hu
      have h2 : (W.alloc (.cells #[.string p, .string su, .slice (some ⟨rb, ro, none⟩) RL rc, .string fr, .slice (some ⟨tb, to_, none⟩) nt nt] 94)).cell? ((⟨W.heap.size, 0, none⟩ : Addr).add j) = some u := h1
      rw [hX, addr_add]
      rw [addr_add] at h2
      exact ((Below.refl _ _).alloc (Nat.le_refl _) _).cell (p := ⟨W.heap.size, 0 + j, none⟩) (by simp) |>.trans h2
     rw [← hX]
     have hsplit : itC zs = itC (zs.take J) ++ itC (zs.drop J) := by rw [← itC_app, List.take_append_drop]
     have htk : (itC (zs.take J)).length = J * 5 := by rw [itC_len, List.length_take, HZL.out, Nat.min_eq_left hJn]
     refine (concatI_any (zs.take J) [zn] (zs.drop J) J (n - J) (by rw [List.length_take, HZL.out, Nat.min_eq_left hJn]) rfl (by rw [List.length_drop, HZL.out]) ⟨b, o, none⟩ ⟨W.heap.size, 0, none⟩ ⟨b, o + J * 5, none⟩ n 1 (n - J) (W.heap.size + 1) X (by rw [hX]; simp [go_sem]) (by rw [hX]; simp [go_sem]) (by rw [hX]; simp [go_sem]) (fun W' h' j u hu => ?_) (fun W' h' j u hu => ?_) (fun W' h' j u hu => ?_) (by omega) (by omega)).mono ?_
     ·refine HZ3.out W' (hXw.trans (h'.mono hXw.size)) j u ?_
      rw [hsplit, List.getElem?_append_left (List.getElem?_eq_some_iff.1 hu).1]
      exact hu
     ·have h1 := hcB j u hu
      rw [addr_add] at h1 ⊢
      exact (h'.cell (p := ⟨W.heap.size, 0 + j, none⟩) (World.block_lt_of_cell? _ _ h1)).trans h1
     ·have h1 := HZ3.out W' (hXw.trans (h'.mono hXw.size)) (J * 5 + j) u (by rw [hsplit, List.getElem?_append_right (by omega), htk, show J * 5 + j - J * 5 = j by omega]; exact hu)
      rw [addr_add] at h1 ⊢
      rwa [show o + J * 5 + j = o + (J * 5 + j) by omega]
     ·rintro e w' ⟨⟨v, rfl, hv⟩, hl⟩
      have hXw' : Below w.heap.size w w' := hXw.trans (hl.mono hXw.size)
      have h8' : Below w8.heap.size w8 w' := hX8.trans (hl.mono hX8.size)
      refine ⟨⟨v, rfl, ?_⟩, hXw', hXb.trans (hl.mono hXb.size)⟩
      have h1 := rdva_of hv fun j z hz => by
       rcases Nat.lt_or_ge j (zs.take J ++ [zn]).length with h | h
       ·rw [List.getElem?_append_left h] at hz
        rcases Nat.lt_or_ge j (zs.take J).length with h2 | h2
        ·rw [List.getElem?_append_left h2, List.getElem?_take] at hz
         split at hz
         ·exact (HZ2.out _ z hz).below hXw'
         ·cases hz
        ·rw [List.getElem?_append_right h2] at hz
         rcases hjz : j - (zs.take J).length with _ | k
         ·rw [hjz] at hz; simp at hz; subst hz; exact HZN.out.2.2 _ h8'
         ·rw [hjz] at hz; simp at hz
       ·rw [List.getElem?_append_right h, List.getElem?_drop] at hz
        exact (HZ2.out _ z hz).below hXw'
      have e1 : (zs.take J ++ [zn] ++ zs.drop J).map Iz.x = addL ps p fr t := by
       rw [List.map_append, List.map_append, List.map_take, List.map_drop, HZ1.out, HE.out.2, List.map_cons, HZN.out.2.1]
       simp
      rwa [e1] at h1
    have hsub : (n : Int) - (J : Int) = ((n - J : Nat) : Int) := by omega
    go_upto_region 13 with fail
    rw [← HW9.out]
    clear HW9 HZN HZ1 HZ2 HZ3 HZL HL9
    go_region_held3 (fun W => W.cell? ⟨w8.heap.size, 0, none⟩ = some (.string p) ∧ W.cell? ⟨w8.heap.size, 1, none⟩ = some (.string su) ∧ W.cell? ⟨w8.heap.size, 2, none⟩ = some (.slice (some ⟨rb, ro, none⟩) RL rc) ∧ W.cell? ⟨w8.heap.size, 3, none⟩ = some (.string fr) ∧ W.cell? ⟨w8.heap.size, 4, none⟩ = some (.slice (some ⟨tb, to_, none⟩) nt nt))
     (first | exact HXB.out _ (Below.refl _ _).drew | exact HXB.out _ hbz | exact HXB.out _ ((Below.refl _ _).alloc (Nat.le_refl _) _).drew | exact HXB.out _ (((Below.refl _ _).alloc (Nat.le_refl _) _).alloc (by simp) _).drew | exact HXB.out _ (Below.refl _ _) | go_keep)
     (first
      | (go_at_call 121; refine (HCC.out W9.drew (Below.refl _ _).drew).mono ?_; rintro e wz ⟨⟨vz, rfl, hvz⟩, hlz, hlz2⟩; have hbz : Below W9.heap.size W9 wz := (Below.refl W9.heap.size W9).drew.trans hlz2))
    go_wp2_with fail
    go_ret2
    exact ⟨⟨_, by rw [HE.out.1]; first | done | rfl, hvz⟩, hlz⟩
end Go.Proofs.YtpfnnjfapcnbnaaGreatDoor.so
