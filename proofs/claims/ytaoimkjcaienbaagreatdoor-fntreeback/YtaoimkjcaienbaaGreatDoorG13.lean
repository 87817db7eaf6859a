import Derived.Deep.Cut
import Derived.Test.YtaoimkjcaienbaaGreatDoorG12
import Derived.Test.YtaoimkjcaienbaaGreatDoorG04
import Derived.Test.YtaoimkjcaienbaaGreatDoorG05
namespace Go.Proofs.YtaoimkjcaienbaaGreatDoor.up
open Go.ChangeShapes Go.WideShapes Go.ChangeAt Go.RowKit Go.Deep
set_option linter.unusedVariables false
set_option linter.unusedSimpArgs false

/-! ### Bytes that are unpacked: the program's pieces and entries -/

/-- What a piece leaves. -/
def PieR (w w' : World) (p b : Nat) (l : List UInt8) (i : Nat) (e : Ending) : Prop := ∃ (S : ByteArray) (i' : Nat), e = .returned (.string S) ∧ S.size ≤ l.length ∧ i ≤ i' ∧ Rs w' p b l.length i' ∧ w.grownBy w' (some p) ∧ ∀ T tail, l.drop i = bf.num T.length ++ T ++ tail → T.length ≤ 1048576 → S.data.toList = T ∧ l.drop i' = tail

set_option maxRecDepth 100000 in
theorem piece_any (b p i : Nat) (l : List UInt8) (hbp : b ≠ p) (hN : l.length ≤ 1048576) (w : World) (h : Rs w p b l.length i) (hB : By w b l) :
    Calls Tryz.prog 70 #[.pointer (some ⟨p, 0, none⟩)] w fun e w' => PieR w w' p b l i e := by
  have HNU : Hid (Calls Tryz.prog 30 #[.pointer (some ⟨p, 0, none⟩)] w fun e w' => NumR w w' p b l i e) := number_any b p i l hbp hN w h hB
  have HBY : Hid (∀ W, w.grownBy W (some p) → By W b l) := fun W hW => hB.grown hW hbp
  have HCU : Hid (∀ W j s, s < 18446744073709551616 → Rs W p b l.length j → Calls Tryz.prog 29 #[.pointer (some ⟨p, 0, none⟩), .int .u64 ((s : Nat) : Int)] W fun e w' => CutR W w' p b l.length j s e) := fun W j s hs hW => cut_any b p l.length j s hs W hW hN
  clear h hB
  go_enter Tryz.func70, Tryz.ntmps70
  go_wp2_with (go_at_call 30; refine HNU.out.mono ?_; rintro e w1 ⟨m, i1, rfl, hm, hi1, hr1, hg1, hp1⟩; have HM : Hid (m < 18446744073709551616) := hm; clear hm; refine Hid.out ?_)
  refine Lib.hid ?_
  have HR1 : Hid (Rs w1 p b l.length i1) := hr1
  have HP1 : Hid (∀ x tail, l.drop i = bf.num x ++ tail → x ≤ 1048576 → m = x ∧ l.drop i1 = tail) := hp1
  clear hr1 hp1
  go_wp2_with (go_at_call 29; refine (HCU.out _ _ _ HM.out HR1.out).mono ?_; rintro e w2 ⟨o, k, hk, rfl, ho, hr2, hg2⟩; have HK : Hid (k = min m (l.length - i1)) := hk; clear hk; refine Hid.out ?_)
  refine Lib.hid ?_
  obtain ⟨S, hS⟩ : ∃ S : ByteArray, S = ⟨((l.drop i1).take k).toArray⟩ := ⟨_, rfl⟩
  have hSs : S.size = k := by
    have h1 := HK.out
    rw [hS]
    show (((l.drop i1).take k).toArray).size = k
    rw [List.size_toArray, List.length_take, List.length_drop]
    omega
  have hG : w.grownBy w2 (some p) := hg1.trans hg2
  have hby : Lib.Bytes w2 b o S := fun j hj => by
    have h1 := HK.out
    have hlt : i1 + j < l.length := by omega
    have hoi : o = i1 := ho (by omega)
    have e1 := HBY.out w2 hG (i1 + j) hlt
    rw [hoi, e1]
    congr 2
    have : S[j] = l[i1 + j] := by
      subst hS
      show (((l.drop i1).take k).toArray)[j] = _
      simp
    rw [this]
  have hcv := Lib.run_convert_whole (P := Tryz.prog) w2 22 5 9 Tryz.underlying22 Tryz.underlying5 Tryz.underlying9 b o S hby k
  rw [hSs] at hcv
  have HR : Hid (PieR w w2 p b l i (.returned (.string S))) := by
    refine ⟨S, i1 + k, rfl, by rw [hSs]; have := HK.out; omega, by omega, hr2, hG, fun T tail hx hT => ?_⟩
    rw [List.append_assoc] at hx
    obtain ⟨hm1, hd1⟩ := HP1.out T.length (T ++ tail) hx hT
    have hlen : l.length - i1 = T.length + tail.length := by
      have := congrArg List.length hd1
      rw [List.length_drop, List.length_append] at this
      exact this
    have hkT : k = T.length := by have := HK.out; omega
    constructor
    · rw [hS, hd1, hkT, List.take_left]
    · rw [← List.drop_drop, hd1, hkT, List.drop_left]
  clear hS hSs hG hby hr2 hg2
  go_wp2
  go_ret
  exact HR.out

theorem c4 {w : World} {k : Nat} {v0 v1 v2 v3 : Value} {T : TypeId} (h : w.heap[k]? = some (.cells #[v0, v1, v2, v3] T (0, 0))) : w.cell? ⟨k, 0, none⟩ = some v0 ∧ w.cell? ⟨k, 1, none⟩ = some v1 ∧ w.cell? ⟨k, 2, none⟩ = some v2 ∧ w.cell? ⟨k, 3, none⟩ = some v3 ∧ ∀ j, w.frozen? ⟨k, j, none⟩ = false := by
  refine ⟨by simp [World.cell?, h], by simp [World.cell?, h], by simp [World.cell?, h], by simp [World.cell?, h], fun j => by simp [World.frozen?, h]⟩
theorem set4 {w : World} {k : Nat} {v0 v1 v2 v3 : Value} {T : TypeId} (h : w.heap[k]? = some (.cells #[v0, v1, v2, v3] T (0, 0))) (j : Nat) (x : Value) : (w.setCell ⟨k, j, none⟩ x).heap[k]? = some (.cells (#[v0, v1, v2, v3].setIfInBounds j x) T (0, 0)) := by
  simp [World.setCell, Array.getElem?_modify, h]
theorem setO {w : World} {k k' : Nat} (hk : k ≠ k') (j : Nat) (x : Value) : (w.setCell ⟨k', j, none⟩ x).heap[k]? = w.heap[k]? := Below.heap_setCell _ _ _ _ hk
theorem grown_new {w w' : World} {p : Nat} (h : w.grownBy w' (some p)) {k : Nat} (hk : w.heap.size ≤ k) (j : Nat) (x : Value) : w.grownBy (w'.setCell ⟨k, j, none⟩ x) (some p) :=
  ⟨h.os, h.tape, h.output, by simpa using h.size, fun q hq hne => (Below.heap_setCell _ _ _ _ (by show q ≠ k; omega)).trans (h.block q hq hne)⟩
theorem grown_bel {w w1 w2 : World} {p : Nat} (h : w.grownBy w1 (some p)) (hb : Below w1.heap.size w1 w2) : w.grownBy w2 (some p) :=
  ⟨hb.os.trans h.os, hb.tape.trans h.tape, hb.output.trans h.output, Nat.le_trans h.size hb.size, fun k hk hne => (hb.block k (Nat.lt_of_lt_of_le hk h.size)).trans (h.block k hk hne)⟩

def kdV (y : UInt8) : Int := bits BinOp.andNot IntKind.u8 (y.toNat : Int) 16
def exV (y : UInt8) : Bool := decide (0 < bits BinOp.and IntKind.u8 (y.toNat : Int) 16)

theorem kx_of {z : tt.En} (h : 1 ≤ z.kind ∧ z.kind ≤ 3) : kdV (tt.kB z) = z.kind ∧ exV (tt.kB z) = z.exec := by
  obtain ⟨k, hk⟩ : ∃ k : Nat, z.kind = (k : Int) := ⟨z.kind.toNat, by omega⟩
  unfold tt.kB
  rw [hk, show (k : Int).toNat = k from rfl]
  have h3 : k = 1 ∨ k = 2 ∨ k = 3 := by omega
  cases z.exec <;> rcases h3 with rfl | rfl | rfl <;> exact ⟨by decide +kernel, by decide +kernel⟩

/-- What an entry leaves. -/
def EntR (w w' : World) (p b : Nat) (l : List UInt8) (i : Nat) (e : Ending) : Prop := ∃ (x : tt.En) (i' : Nat), e = .returned (.agg #[.string x.path, .int .i64 x.kind, .string x.data, .bool x.exec]) ∧ x.path.size ≤ l.length ∧ x.data.size ≤ l.length ∧ i < i' ∧ Rs w' p b l.length i' ∧ w.grownBy w' (some p) ∧ ∀ (y : tt.En) tail, l.drop i = tt.pkE y ++ tail → 1 ≤ y.kind ∧ y.kind ≤ 3 → y.path.size ≤ 1048576 → y.data.size ≤ 1048576 → x = y ∧ l.drop i' = tail

set_option maxRecDepth 100000 in
set_option maxHeartbeats 4000000 in
theorem entry_any (b p i : Nat) (l : List UInt8) (hbp : b ≠ p) (hN : l.length ≤ 1048576) (hil : i < l.length) (w : World) (h : Rs w p b l.length i) (hB : By w b l) :
    Calls Tryz.prog 31 #[.pointer (some ⟨p, 0, none⟩)] w fun e w' => EntR w w' p b l i e := by
  have hpl := h.lt
  have HBY : Hid (∀ W, w.grownBy W (some p) → By W b l) := fun W hW => hB.grown hW hbp
  have HCU : Hid (∀ W, Rs W p b l.length i → Calls Tryz.prog 29 #[.pointer (some ⟨p, 0, none⟩), .int .u64 1] W fun e w' => CutR W w' p b l.length i 1 e) := fun W hW => cut_any b p l.length i 1 (by omega) W hW hN
  have HPI : Hid (∀ W j, w.grownBy W (some p) → Rs W p b l.length j → Calls Tryz.prog 70 #[.pointer (some ⟨p, 0, none⟩)] W fun e w' => PieR W w' p b l j e) := fun W j hg hW => piece_any b p j l hbp hN W hW (HBY.out W hg)
  have HR0 : Hid (∀ ob, Rs (w.alloc ob) p b l.length i) := fun ob => h.below ((Below.refl _ _).alloc (Nat.le_refl _) _)
  have HG0 : Hid (∀ ob, w.grownBy (w.alloc ob) (some p)) := fun ob => grown_bel (grown_refl _ _) ((Below.refl _ _).alloc (Nat.le_refl _) _)
  obtain ⟨y, hy⟩ : ∃ y, y = l[i] := ⟨_, rfl⟩
  have HYC : Hid (∀ W, w.grownBy W (some p) → W.cell? ⟨b, i, none⟩ = some (.int .u8 (y.toNat : Int))) := fun W hW => by rw [hy]; exact HBY.out W hW i hil
  have HDR : Hid (l.drop i = y :: l.drop (i + 1)) := by show _ = _; rw [hy]; exact List.drop_eq_getElem_cons hil
  have hyb : (y.toNat : Int) < 256 := by have := y.toNat_lt; omega
  have HMN : Hid (min 1 (l.length - i) = 1) := by show _ = _; omega
  have hkw : 0 ≤ bits BinOp.andNot IntKind.u8 (y.toNat : Int) 16 ∧ bits BinOp.andNot IntKind.u8 (y.toNat : Int) 16 ≤ 255 := by
    have h := wf_bits BinOp.andNot .u8 (y.toNat : Int) 16
    simpa [Lit.wf, IntKind.min, IntKind.max, IntKind.signed, IntKind.bits] using h
  clear h hB hy
  go_enter Tryz.func31, Tryz.ntmps31
  go_wp2_with (go_at_call 29; refine (HCU.out _ (HR0.out _)).mono ?_; rintro e w1 ⟨o1, k1, hk1, rfl, ho1, hr1, hg1⟩; obtain rfl : k1 = 1 := hk1.trans HMN.out; obtain rfl := ho1 hil; clear hk1; have hcell := HYC.out w1 ((HG0.out _).trans hg1); refine Hid.out ?_)
  refine Lib.hid ?_
  have hw1 : w.heap.size < w1.heap.size := by have := hg1.size; simp only [World.size_alloc] at this; omega
  have HGW1 : Hid (w.grownBy w1 (some p)) := (HG0.out _).trans hg1
  have HH1 : Hid (w1.heap[w.heap.size]? = some (.cells #[.string ⟨#[]⟩, .int .i64 0, .string ⟨#[]⟩, .bool false] 29 (0, 0))) := (hg1.block w.heap.size (by simp) (fun e => by have := Option.some.inj e; omega)).trans (heap_alloc_new w _)
  have HGA : Hid (∀ ob, w.grownBy (w1.alloc ob) (some p)) := fun ob => grown_bel HGW1.out ((Below.refl _ _).alloc (Nat.le_refl _) _)
  have HRA : Hid (∀ ob, Rs (w1.alloc ob) p b l.length (o1 + 1)) := fun ob => hr1.below ((Below.refl _ _).alloc (Nat.le_refl _) _)
  obtain ⟨vk, hvk⟩ : ∃ v, bits BinOp.andNot IntKind.u8 (y.toNat : Int) 16 = v := ⟨_, rfl⟩
  obtain ⟨vx, hvx⟩ : ∃ v, decide (0 < bits BinOp.and IntKind.u8 (y.toNat : Int) 16) = v := ⟨_, rfl⟩
  have HVK : Hid (kdV y = vk) := hvk
  have HVX : Hid (exV y = vx) := hvx
  clear hg1 hr1
  go_wp2_with (go_at_call 70; refine (HPI.out _ _ (HGA.out _) (HRA.out _)).mono ?_; rintro e w2 ⟨S1, i2, rfl, hs1, hi2, hr2, hg2, hp2⟩; have HP2 : Hid (∀ T tail, l.drop (o1 + 1) = bf.num T.length ++ T ++ tail → T.length ≤ 1048576 → S1.data.toList = T ∧ l.drop i2 = tail) := hp2; clear hp2; refine Hid.out ?_)
  refine Lib.hid ?_
  have hw2 : w1.heap.size < w2.heap.size := by have := hg2.size; simp only [World.size_alloc] at this; omega
  have HB2 : Hid (w2.heap[w1.heap.size]? = some (.cells #[.string ⟨#[]⟩, .int .i64 vk, .string ⟨#[]⟩, .bool vx] 29 (0, 0))) := by
    have h1 := (hg2.block w1.heap.size (by simp) (fun e => by have := Option.some.inj e; omega)).trans (heap_alloc_new w1 _)
    first | exact h1 | (rw [hvk, hvx] at h1; exact h1)
  have HH2 : Hid (w2.heap[w.heap.size]? = some (.cells #[.string ⟨#[]⟩, .int .i64 0, .string ⟨#[]⟩, .bool false] 29 (0, 0))) := (hg2.block w.heap.size (by simp; omega) (fun e => by have := Option.some.inj e; omega)).trans ((Below.heap_alloc w1 _ _ hw1).trans HH1.out)
  have HGW2 : Hid (w.grownBy w2 (some p)) := (HGA.out _).trans hg2
  obtain ⟨q0, q1, q2, q3, qf⟩ := c4 HB2.out
  have qf0 := qf 0
  have HB3 : Hid ((w2.setCell ⟨w1.heap.size, 0, none⟩ (.string S1)).heap[w1.heap.size]? = some (.cells #[.string S1, .int .i64 vk, .string ⟨#[]⟩, .bool vx] 29 (0, 0))) := set4 HB2.out 0 _
  have HH3 : Hid ((w2.setCell ⟨w1.heap.size, 0, none⟩ (.string S1)).heap[w.heap.size]? = some (.cells #[.string ⟨#[]⟩, .int .i64 0, .string ⟨#[]⟩, .bool false] 29 (0, 0))) := (setO (by omega) _ _).trans HH2.out
  have HG3 : Hid (w.grownBy (w2.setCell ⟨w1.heap.size, 0, none⟩ (.string S1)) (some p)) := grown_new HGW2.out (by omega) _ _
  have HR3 : Hid (Rs (w2.setCell ⟨w1.heap.size, 0, none⟩ (.string S1)) p b l.length i2) := hr2.kept (setO (by omega) _ _)
  have HZ3 : Hid ((w2.setCell ⟨w1.heap.size, 0, none⟩ (.string S1)).heap.size = w2.heap.size) := by show _ = _; simp [World.setCell]
  clear hg2 hr2 qf
  go_wp2_with (go_at_call 70; refine (HPI.out _ _ HG3.out HR3.out).mono ?_; rintro e w3 ⟨S2, i3, rfl, hs2, hi3, hr3, hg3, hp3⟩; have HP3 : Hid (∀ T tail, l.drop i2 = bf.num T.length ++ T ++ tail → T.length ≤ 1048576 → S2.data.toList = T ∧ l.drop i3 = tail) := hp3; clear hp3; refine Hid.out ?_)
  refine Lib.hid ?_
  have hw3 : w2.heap.size ≤ w3.heap.size := by have := hg3.size; rw [HZ3.out] at this; exact this
  have HB4 : Hid (w3.heap[w1.heap.size]? = some (.cells #[.string S1, .int .i64 vk, .string ⟨#[]⟩, .bool vx] 29 (0, 0))) := (hg3.block w1.heap.size (by rw [HZ3.out]; exact hw2) (fun e => by have := Option.some.inj e; omega)).trans HB3.out
  have HH4 : Hid (w3.heap[w.heap.size]? = some (.cells #[.string ⟨#[]⟩, .int .i64 0, .string ⟨#[]⟩, .bool false] 29 (0, 0))) := (hg3.block w.heap.size (by rw [HZ3.out]; omega) (fun e => by have := Option.some.inj e; omega)).trans HH3.out
  have HG4 : Hid (w.grownBy w3 (some p)) := HG3.out.trans hg3
  obtain ⟨r0, r1, r2, r3, rf⟩ := c4 HB4.out
  have rf2 := rf 2
  have HB5 : Hid ((w3.setCell ⟨w1.heap.size, 2, none⟩ (.string S2)).heap[w1.heap.size]? = some (.cells #[.string S1, .int .i64 vk, .string S2, .bool vx] 29 (0, 0))) := set4 HB4.out 2 _
  have HH5 : Hid ((w3.setCell ⟨w1.heap.size, 2, none⟩ (.string S2)).heap[w.heap.size]? = some (.cells #[.string ⟨#[]⟩, .int .i64 0, .string ⟨#[]⟩, .bool false] 29 (0, 0))) := (setO (by omega) _ _).trans HH4.out
  have HG5 : Hid (w.grownBy (w3.setCell ⟨w1.heap.size, 2, none⟩ (.string S2)) (some p)) := grown_new HG4.out (by omega) _ _
  have HR5 : Hid (Rs (w3.setCell ⟨w1.heap.size, 2, none⟩ (.string S2)) p b l.length i3) := hr3.kept (setO (by omega) _ _)
  clear hg3 hr3 rf q0 q1 q2 q3 qf0
  go_upto_region 5 with fail
  obtain ⟨W5, hW5⟩ : ∃ W, W = w3.setCell ⟨w1.heap.size, 2, none⟩ (.string S2) := ⟨_, rfl⟩
  rw [← hW5] at HB5 HH5 HG5 HR5 ⊢
  clear hW5 r0 r1 r2 r3 rf2
  obtain ⟨t0, t1, t2, t3, tf⟩ := c4 HB5.out
  obtain ⟨z0, z1, z2, z3, zf⟩ := c4 HH5.out
  have zf0 := zf 0
  have zf1 := zf 1
  have zf2 := zf 2
  have zf3 := zf 3
  clear tf zf
  have HF : Hid (((((W5.setCell ⟨w.heap.size, 0, none⟩ (.string S1)).setCell ⟨w.heap.size, 1, none⟩ (.int .i64 vk)).setCell ⟨w.heap.size, 2, none⟩ (.string S2)).setCell ⟨w.heap.size, 3, none⟩ (.bool vx)).heap[w.heap.size]? = some (.cells #[.string S1, .int .i64 vk, .string S2, .bool vx] 29 (0, 0))) := set4 (set4 (set4 (set4 HH5.out 0 _) 1 _) 2 _) 3 _
  go_wp2
  refine tt.ret_cell4 Tryz.results31 rfl (v0 := .string S1) (v1 := .int .i64 vk) (v2 := .string S2) (v3 := .bool vx) ?_ ?_ ?_ ?_ ?_
  · exact (c4 HF.out).1
  · exact (c4 HF.out).2.1
  · exact (c4 HF.out).2.2.1
  · exact (c4 HF.out).2.2.2.1
  · refine ⟨⟨S1, vk, S2, vx⟩, i3, rfl, hs1, hs2, by omega, ?_, ?_, fun z tail hz hk hps hds => ?_⟩
    · exact (((HR5.out.kept (setO (by omega) _ _)).kept (setO (by omega) _ _)).kept (setO (by omega) _ _)).kept (setO (by omega) _ _)
    · exact grown_new (grown_new (grown_new (grown_new HG5.out (Nat.le_refl _) _ _) (Nat.le_refl _) _ _) (Nat.le_refl _) _ _) (Nat.le_refl _) _ _
    · rw [HDR.out] at hz
      have hz1 : y :: l.drop (o1 + 1) = tt.kB z :: (bf.num z.path.size ++ (z.path.data.toList ++ (bf.num z.data.size ++ (z.data.data.toList ++ tail)))) := by
        rw [hz]
        unfold tt.pkE
        simp only [List.append_assoc, List.cons_append, List.nil_append]
      have hyz : y = tt.kB z := (List.cons.inj hz1).1
      have hz := (List.cons.inj hz1).2
      have hpl' : z.path.data.toList.length = z.path.size := by simp
      have hdl' : z.data.data.toList.length = z.data.size := by simp
      obtain ⟨e1, hz2⟩ := HP2.out z.path.data.toList (bf.num z.data.size ++ (z.data.data.toList ++ tail)) (by rw [hz, hpl']; simp only [List.append_assoc]) (by omega)
      obtain ⟨e2, hz3⟩ := HP3.out z.data.data.toList tail (by rw [hz2, hdl']; simp only [List.append_assoc]) (by omega)
      refine ⟨?_, hz3⟩
      have hkx := kx_of hk
      rw [← hyz, HVK.out, HVX.out] at hkx
      have f1 : S1 = z.path := ByteArray.ext (Array.toList_inj.1 e1)
      have f2 : S2 = z.data := ByteArray.ext (Array.toList_inj.1 e2)
      rw [f1, f2, hkx.1, hkx.2]

end Go.Proofs.YtaoimkjcaienbaaGreatDoor.up

namespace Go.Proofs.YtaoimkjcaienbaaGreatDoor.up
open Go.ChangeShapes Go.WideShapes Go.ChangeAt Go.RowKit Go.Deep
set_option linter.unusedVariables false
set_option linter.unusedSimpArgs false

/-! ### UnpackTree: what it must answer; impl.UnpackTree -/

open tt in
theorem tr_congr {E X : Nat → En} {n : Nat} (h : ∀ i, i < n → E i = X i) (ht : Tr E n) : Tr X n := by
  have hp : ∀ i, i < n → pth E i = pth X i := fun i hi => by unfold pth; rw [h i hi]
  obtain ⟨h1, h2, h3⟩ := ht
  refine ⟨fun i hi => by rw [← h i hi]; exact h1 i hi, fun i hi => by rw [← hp i (by omega), ← hp (i + 1) hi]; exact h2 i hi, fun i hi hu => ?_⟩
  rw [← hp i hi] at hu ⊢
  obtain ⟨j, hj, hpj, hk⟩ := h3 i hi hu
  exact ⟨j, hj, by rw [← hp j (by omega)]; exact hpj, by rw [← h j (by omega)]; exact hk⟩
open tt in
theorem treeB_congr {E X : Nat → En} {n : Nat} (h : ∀ i, i < n → E i = X i) : treeB E n = treeB X n := by
  cases hb : treeB X n with
  | true =>
    obtain ⟨h5, ht⟩ := treeB_tr' hb
    exact treeB_yes h5 (tr_congr (fun i hi => (h i hi).symm) ht)
  | false =>
    refine treeB_no fun ⟨h5, ht⟩ => ?_
    rw [treeB_yes h5 (tr_congr h ht)] at hb
    cases hb
open tt in
theorem pkL_congr {E X : Nat → En} : ∀ {n : Nat}, (∀ i, i < n → E i = X i) → pkL E n = pkL X n
  | 0, _ => rfl
  | n + 1, h => by rw [pkL, pkL, pkL_congr (fun i hi => h i (by omega)), h n (by omega)]
open tt in
theorem pkB_congr {E X : Nat → En} {n : Nat} (h : ∀ i, i < n → E i = X i) : pkB E n = pkB X n := by unfold pkB; rw [treeB_congr h, pkL_congr h]
open tt in
theorem pkL_pre (E : Nat → En) (c : Nat) : ∀ n, c ≤ n → ∃ r, pkL E n = pkL E c ++ r
  | 0, h => by obtain rfl : c = 0 := by omega
               exact ⟨[], by simp⟩
  | n + 1, h => by
    by_cases hc : c = n + 1
    · subst hc; exact ⟨[], by simp⟩
    · obtain ⟨r, hr⟩ := pkL_pre E c n (by omega)
      exact ⟨r ++ pkE (E n), by rw [pkL, hr, List.append_assoc]⟩
open tt in
theorem pkE_ne (e : En) : pkE e ≠ [] := by unfold pkE; simp

/-- These bytes are this tree's. -/
def Good (l : List UInt8) (E : Nat → tt.En) (n : Nat) : Prop := tt.treeB E n = true ∧ tt.SmE n E ∧ l = tt.pkB E n

/-- What the reader has at its end. -/
structure Out (w' : World) (base : Nat) (l : List UInt8) (v : Value) (c : Nat) (X : Nat → tt.En) : Prop where
  own : w'.ownsRow base 29 4 v c (tt.enC X c)
  nn : v ≠ .slice none 0 0
  sm : tt.SmE c X
  c5 : c ≤ 500
  nil : l = [] → c = 0
  pr : ∀ E n, Good l E n → c = n ∧ ∀ k, k < n → X k = E k

theorem Out.good {w' : World} {base : Nat} {l : List UInt8} {v : Value} {c : Nat} {X : Nat → tt.En} (h : Out w' base l v c X) (he : tt.pkB X c = l) : Good l X c := by
  cases ht : tt.treeB X c with
  | true => exact ⟨ht, h.sm, he.symm⟩
  | false =>
    rw [tt.pkB_no ht] at he
    have h0 := h.nil he.symm
    subst h0
    rw [tt.treeB_yes (by omega) (tt.Tr.zero X)] at ht
    cases ht
theorem Out.bad {w' : World} {base : Nat} {l : List UInt8} {v : Value} {c : Nat} {X : Nat → tt.En} (h : Out w' base l v c X) (he : tt.pkB X c ≠ l) : ∀ E n, ¬ Good l E n := fun E n hg => by
  obtain ⟨rfl, hx⟩ := h.pr E n hg
  exact he ((pkB_congr hx).trans hg.2.2.symm)

theorem bytes_eq_any (g z c b N c' : Nat) (l1 l2 : List UInt8) (w : World) (h1 : By w g l1) (h2 : By w b l2) (hz : z = l1.length) (hN : N = l2.length) :
    Calls Tryz.prog 32 #[.slice (some ⟨g, 0, none⟩) z c, .slice (some ⟨b, 0, none⟩) N c'] w fun e w' => e = .returned (.bool (decide (l1 = l2))) ∧ w' = w := by
  have hc : ∀ (k cc : Nat) (m : List UInt8), By w k m → (convert 22 9 (.slice (some ⟨k, 0, none⟩) m.length cc)).run Tryz.prog w = .ok (.string ⟨m.toArray⟩) w := fun k cc m hk => by
    have hB : Lib.Bytes w k 0 ⟨m.toArray⟩ := fun i hi => by
      have hi' : i < m.length := by simpa [ByteArray.size] using hi
      rw [Nat.zero_add, hk i hi']
      rfl
    have := Lib.run_convert_whole (P := Tryz.prog) w 22 5 9 Tryz.underlying22 Tryz.underlying5 Tryz.underlying9 k 0 ⟨m.toArray⟩ hB cc
    simpa [ByteArray.size] using this
  subst hz hN
  have c1 := hc g c l1 h1
  have c2 := hc b c' l2 h2
  have he : ((⟨l1.toArray⟩ : ByteArray).toList == (⟨l2.toArray⟩ : ByteArray).toList) = decide (l1 = l2) := by
    rw [ByteArray.toList_eq, ByteArray.toList_eq, Bool.eq_iff_iff]
    simp
  clear hc
  obtain ⟨z1, hz1⟩ : ∃ z, l1.length = z := ⟨_, rfl⟩
  obtain ⟨z2, hz2⟩ : ∃ z, l2.length = z := ⟨_, rfl⟩
  obtain ⟨s1, hs1⟩ : ∃ s : ByteArray, ⟨l1.toArray⟩ = s := ⟨_, rfl⟩
  obtain ⟨s2, hs2⟩ : ∃ s : ByteArray, ⟨l2.toArray⟩ = s := ⟨_, rfl⟩
  rw [hs1] at c1 he
  rw [hs2] at c2 he
  rw [hz1] at c1 ⊢
  rw [hz2] at c2 ⊢
  obtain ⟨bb, hbb⟩ : ∃ bb, decide (l1 = l2) = bb := ⟨_, rfl⟩
  rw [hbb] at he ⊢
  clear hz1 hz2 hs1 hs2 hbb h1 h2
  go_enter Tryz.func32, Tryz.ntmps32
  go_wp2
  go_ret
  first | exact ⟨rfl, rfl⟩ | exact ⟨by rw [he], rfl⟩

theorem bf_by {base : Nat} {w : World} {g cap : Nat} {l : List UInt8} (h : bf.Bf base w g cap l) : By w g l := h.cells
theorem own_grown {w w' : World} {base e size p : Nat} {v : Value} {n : Nat} {xs : List Value} (h : w.ownsRow base e size v n xs) (hg : w.grownBy w' (some p)) (hp : p < base) : w'.ownsRow base e size v n xs :=
  h.kept hg (.inr fun e' => by have := (h.lt p e').1; omega)

/-- What UnpackTree must answer. -/
def UnR (w w' : World) (l : List UInt8) (e : Ending) : Prop := ∃ (v : Value) (ok : Bool) (n : Nat) (X : Nat → tt.En), e = .returned (.tuple #[v, .bool ok]) ∧ tt.RowE w.heap.size w' v n X ∧ n ≤ 500 ∧ ((ok = true ∧ Good l X n ∧ ∀ E m, Good l E m → n = m ∧ ∀ k, k < m → X k = E k) ∨ ok = false ∧ n = 0 ∧ ∀ E m, ¬ Good l E m)

theorem rowE_below {base : Nat} {w w' : World} {v : Value} {n : Nat} {E : Nat → tt.En} (h : tt.RowE base w v n E) (hb : Below w.heap.size w w') : tt.RowE base w' v n E := by
  obtain ⟨g, cap, f, rfl, h1, h2, h3, h4, h5⟩ := h
  exact ⟨g, cap, f, rfl, h1, h2, h3, h4.of_block (hb.block _ h4.lt), h5.below hb⟩
theorem unR_yes {w w5 wr : World} {bs c : Nat} {l : List UInt8} {v v' : Value} {X : Nat → tt.En} (hr : tt.RowE w.heap.size w5 v c X) (ho : Out wr bs l v' c X) (hp : tt.pkB X c = l) : UnR w w5 l (.returned (.tuple #[v, .bool true])) :=
  ⟨v, true, c, X, rfl, hr, ho.c5, .inl ⟨rfl, ho.good hp, ho.pr⟩⟩
theorem unR_no {w w5 wr : World} {bs c : Nat} {l : List UInt8} {v' : Value} {X : Nat → tt.En} (hb : Below w.heap.size w w5) (ho : Out wr bs l v' c X) (hp : ¬ tt.pkB X c = l) : UnR w (w5.alloc (.cells #[] 29)) l (.returned (.tuple #[.slice (some ⟨w5.heap.size, 0, none⟩) 0 0, .bool false])) :=
  ⟨_, false, 0, X, rfl, ⟨w5.heap.size, 0, fun _ => undef, rfl, hb.size, Nat.le_refl _, Nat.zero_le _, ⟨#[], heap_alloc_new w5 _, rfl, fun i hi => by omega⟩, fun i hi => by omega⟩, by omega, .inr ⟨rfl, rfl, ho.bad hp⟩⟩

def setX (X : Nat → tt.En) (c : Nat) (e : tt.En) : Nat → tt.En := fun k => if k = c then e else X k
theorem setX_lt {X : Nat → tt.En} {c k : Nat} {e : tt.En} (h : k < c) : setX X c e k = X k := by unfold setX; rw [if_neg (by omega)]
theorem setX_at (X : Nat → tt.En) (c : Nat) (e : tt.En) : setX X c e c = e := by unfold setX; rw [if_pos rfl]

end Go.Proofs.YtaoimkjcaienbaaGreatDoor.up
