import Derived.Test.YthbgpfjbfkiljaaGreatDoorG01
import Derived.Test.YthbgpfjbfkiljaaGreatDoorG04
import Derived.Test.YthbgpfjbfkiljaaGreatDoorG05
import Derived.Test.YthbgpfjbfkiljaaGreatDoorG10
import Derived.Test.YthbgpfjbfkiljaaGreatDoorG09
set_option linter.unusedVariables false
set_option linter.unusedSimpArgs false
set_option maxRecDepth 100000
set_option maxHeartbeats 16000000
namespace Go.Proofs.YthbgpfjbfkiljaaGreatDoor.tt
open Go.ChangeShapes Go.WideShapes Go.ChangeAt Go.RowKit Go.Deep Go.Maps
theorem tree_adj {E : Nat → En} {n : Nat} (h : Tr E n) : Adj E n := h.2.1
theorem grown_bel {B b : Nat} {w w1 w2 : World} (h : Below B w w1) (hg : w1.grownBy w2 (some b)) (hB : B ≤ w1.heap.size) (hb : B ≤ b) : Below B w w2 := h.grown hg hB (fun k hk => by cases hk; exact hb)
structure BrA (w wr : World) (E : Nat → En) (k rb rm : Nat) (B M : Nat → Nat) : Prop where
 br : Br wr E k rb rm k B M
 tr : Tr E k
 bel : Below w.heap.size w wr
 rm_new : w.heap.size ≤ rm
 m_new : ∀ j, j < k → (E j).kind = 1 → w.heap.size ≤ M j
def BrX (w w' : World) (E : Nat → En) (n : Nat) (a : Addr) : Prop := ∃ rb B M, a = ⟨rb, 0, none⟩ ∧ BrA w w' E n rb (rb + 1) B M
theorem Put.old {w w5 wr : World} {E : Nat → En} {k rb rm N N' : Nat} {B M : Nat → Nat} {p : List UInt8} {nb : Nat} (h : Put w w5 E k rm N B M p nb) (hb : Br wr E k rb rm N' B M) : ∃ w1 mb, Below w.heap.size w w1 ∧ w1.grownBy w5 (some mb) ∧ mb < wr.heap.size := by
 obtain ⟨w1, mb, pre, name, h1, h2, _, _, h5, _⟩ := h
 refine ⟨w1, mb, h1, h2, ?_⟩
 rcases h5 with ⟨_, rfl⟩ | ⟨j, hj, hk, rfl, _⟩
 ·exact hb.rootM.lt
 ·exact (hb.dir j hj hk).2.lt
theorem BrA.next {w wr w3 w4 w5 : World} {E : Nat → En} {i rb rm : Nat} {B M : Nat → Nat} (h : BrA w wr E i rb rm B M) (hT : Tr E (i + 1)) (h3 : Below wr.heap.size wr w3) (h4 : Below w3.heap.size w3 w4)
  (n0 : w4.cell? ⟨w3.heap.size, 0, none⟩ = some (.int .i64 (i : Int))) (n1 : (E i).kind = 1 → w4.cell? ⟨w3.heap.size, 1, none⟩ = some (.map (some (w3.heap.size + 1))) ∧ PM w4 (w3.heap.size + 1) 0 (fun _ => 0)) (n2 : ¬ (E i).kind = 1 → w4.cell? ⟨w3.heap.size, 1, none⟩ = some (.map none))
  (hput : Put w4 w5 E i rm i B M (pth E i) w3.heap.size) : BrA w w5 E (i + 1) rb rm (fun j => if j = i then w3.heap.size else B j) (fun j => if j = i then w3.heap.size + 1 else M j) := by
 obtain ⟨w1, mb, pre, name, h1, h2, hp, hn, hmb, hP⟩ := hput
 have b4 : Below wr.heap.size wr w4 := h3.trans (h4.mono h3.size)
 have b1 : Below wr.heap.size wr w1 := b4.trans (h1.mono b4.size)
 have c : ∀ {b o : Nat} {v : Value}, w4.cell? ⟨b, o, none⟩ = some v → w1.cell? ⟨b, o, none⟩ = some v := fun hc => (h1.cell (p := ⟨_, _, none⟩) (World.block_lt_of_cell? _ _ hc)).trans hc
 have s3 := h3.size
 have hrm := h.br.rootM.lt
 have hbr := (h.br.below b1).next hT w3.heap.size (w3.heap.size + 1) (c n0) (fun hk => ⟨c (n1 hk).1, (n1 hk).2.below h1, by omega, fun j hj hkj => by have := (h.br.dir j hj hkj).2.lt; omega⟩) (fun hk => c (n2 hk)) mb pre name hp hn hmb h2 hP
 have bw1 : Below w.heap.size w w1 := h.bel.trans (b1.mono h.bel.size)
 refine ⟨hbr, hT, grown_bel bw1 h2 bw1.size ?_, h.rm_new, fun j hj hk => ?_⟩
 ·rcases hmb with ⟨_, rfl⟩ | ⟨j, hj, hk, rfl, _⟩
  ·exact h.rm_new
  ·exact h.m_new j hj hk
 ·rcases Nat.lt_or_ge j i with h' | h'
  ·simp only [if_neg (show ¬ j = i by omega)]
   exact h.m_new j h' hk
  ·obtain rfl : j = i := by omega
   have h9 := h.bel.size
   show w.heap.size ≤ (if j = j then w3.heap.size + 1 else M j)
   rw [if_pos rfl]
   omega
theorem branchOf_full (E : Nat → En) (b o n cap : Nat) (w : World) (hR : EnR w b o n E) (hS : SmE n E) (hn : n ≤ 1048576) (hm : ML w) (hC : AtC E) :
  Calls Tryz.prog 107 #[.slice (some ⟨b, o, none⟩) n cap] w fun e w' => (∃ v, e = .returned (.pointer v) ∧ v.isSome = treeB E n ∧ ∀ a, v = some a → BrX w w' E n a) ∧ Below w.heap.size w w' := by
 have HER : Hid (EnR w b o n E) := hR
 have HSM : Hid (SmE n E) := hS
 have HML : Hid (ML w) := hm
 have HATC : Hid (AtC E) := hC
 have HAS := Lib.hid (asc_any E b o n cap w hR hn)
 clear hR hS hm hC
 by_cases h5 : 500 < n
 ·have h5' : (500 : Int) < (n : Int) := by omega
  have HF : Hid (treeB E n = false) := treeB_no (fun h => by omega)
  go_enter Tryz.func107, Tryz.ntmps107
  go_wp2
  go_ret
  exact ⟨⟨none, rfl, by rw [HF.out]; rfl, fun a h => by cases h⟩, Below.refl _ _⟩
 have h5' : ¬ (500 : Int) < (n : Int) := by omega
 cases had : adjB E n with
 | false =>
  rw [had] at HAS
  have HF : Hid (treeB E n = false) := treeB_no (fun h => by rw [adjB_yes (tree_adj h.2)] at had; cases had)
  clear had
  go_enter Tryz.func107, Tryz.ntmps107
  go_wp2_with (go_at_call 137; refine HAS.out.mono ?_; rintro e w1 ⟨rfl, hl1⟩)
  go_ret
  exact ⟨⟨none, rfl, by rw [HF.out]; rfl, fun a h => by cases h⟩, hl1⟩
 | true =>
  rw [had] at HAS
  have HADJ : Hid (Adj E n) := adjB_iff.1 had
  clear had
  go_enter Tryz.func107, Tryz.ntmps107
  go_wp2_with (first
   | (go_at_call 137; refine HAS.out.mono ?_; rintro e w1 ⟨rfl, hl1⟩)
   | (go_at_call 139; refine (new_dir (-1) _).mono ?_; rintro e w2 ⟨rfl, r0, r1, rp, rsz, hl2⟩))
  have HBR0 : Hid (BrA w w2 E 0 w1.heap.size (w1.heap.size + 1) (fun _ => 0) (fun _ => 0)) := ⟨⟨r0, r1, rp.congr (fun x => by unfold fM; split <;> rfl), fun j h => by omega, fun j h => by omega, fun j h => by omega, fun j h => by omega, fun i j h => by omega⟩, Tr.zero E, hl1.trans (hl2.mono hl1.size), by have := hl1.size; omega, fun j h => by omega⟩
  obtain ⟨rb, hrb⟩ : ∃ rb, w1.heap.size = rb := ⟨_, rfl⟩
  rw [hrb] at HBR0
  rw [hrb]
  clear r0 r1 rp rsz hl2 hl1 HAS hrb
  go_loopw [4, 5, 17] (fun _ _ x wr => ∃ (i : Nat) (B M : Nat → Nat), i ≤ n ∧ x = .int .i64 (i : Int) ∧ BrA w wr E i rb (rb + 1) B M) (fun _ _ x _ => n - (intOf x).toNat)
  case atStart => exact ⟨0, _, _, Nat.zero_le _, rfl, HBR0.out⟩
  case round =>
   obtain ⟨i, B, M, hi, rfl, hbr⟩ := hrel
   have HBR := Lib.hid hbr
   have HBE : Hid (Below w.heap.size w wr) := hbr.bel
   by_cases hil : i < n
   ·have hil' : (i : Int) < (n : Int) := by omega
    have hi0 : (0 : Int) ≤ (i : Int) := by omega
    have hsm := HSM.out i hil
    obtain ⟨c0, c1, c2, c3⟩ := (HER.out i hil).below hbr.bel
    obtain ⟨P, hP⟩ : ∃ P, (E i).path = P := ⟨_, rfl⟩
    obtain ⟨k, hk⟩ : ∃ k, (E i).kind = k := ⟨_, rfl⟩
    obtain ⟨d, hd⟩ : ∃ d, (E i).data = d := ⟨_, rfl⟩
    obtain ⟨x, hx⟩ : ∃ x, (E i).exec = x := ⟨_, rfl⟩
    have HPI : Hid (pth E i = P.data.toList) := by show _ = _; unfold pth; rw [hP]
    have HKI : Hid ((E i).kind = k) := hk
    have HEO : Hid (eOk (E i) = (pOk P && cOk (E i))) := by show _ = _; unfold eOk; rw [hP]
    have hPs : P.size ≤ 1048576 := by rw [← hP]; exact hsm.1
    have HPK : Hid (∀ W, ML W → Calls Tryz.prog 140 #[.string P] W fun e w' => e = .returned (.bool (pOk P)) ∧ Below W.heap.size W w') := fun W hW => pathOk_any P hPs W hW
    have HCK : Hid (∀ W, Calls Tryz.prog 141 #[.agg #[.string P, .int .i64 k, .string d, .bool x]] W fun r w' => r = .returned (.bool (cOk (E i))) ∧ Below W.heap.size W w') := fun W => by
     have := content_any (E i) hsm.2 W
     unfold eV at this
     rwa [hP, hk, hd, hx] at this
    rw [hP] at c0
    rw [hk] at c1
    rw [hd] at c2
    rw [hx] at c3
    have HE0 : Hid (Below wr.heap.size wr (wr.alloc (.cells #[.string P, .int .i64 k, .string d, .bool x] 62))) := (Below.refl _ _).alloc (Nat.le_refl _) _
    have HNW : Hid (∀ W : World, Calls Tryz.prog 139 #[.int .i64 (i : Int), .int .i64 k] W fun e w' => e = .returned (.pointer (some ⟨W.heap.size, 0, none⟩)) ∧ w'.cell? ⟨W.heap.size, 0, none⟩ = some (.int .i64 (i : Int)) ∧ (k = 1 → w'.cell? ⟨W.heap.size, 1, none⟩ = some (.map (some (W.heap.size + 1))) ∧ PM w' (W.heap.size + 1) 0 (fun _ => 0)) ∧ (¬ k = 1 → w'.cell? ⟨W.heap.size, 1, none⟩ = some (.map none)) ∧ Below W.heap.size W w') := fun W => new_any _ _ W
    obtain ⟨we, hwe⟩ : ∃ we, wr.alloc (.cells #[.string P, .int .i64 k, .string d, .bool x] 62) = we := ⟨_, rfl⟩
    obtain ⟨eb, heb⟩ : ∃ eb, wr.heap.size = eb := ⟨_, rfl⟩
    have HS : Hid (∀ w' : World, Below we.heap.size we w' → w'.cell? ⟨eb, 0, none⟩ = some (.string P) ∧ w'.cell? ⟨eb, 1, none⟩ = some (.int .i64 k) ∧ w'.cell? ⟨eb, 2, none⟩ = some (.string d) ∧ w'.cell? ⟨eb, 3, none⟩ = some (.bool x)) := fun w' hb => by
     rw [← hwe] at hb
     rw [← heb]
     refine ⟨(hb.cell (p := ⟨wr.heap.size, 0, none⟩) (by simp)).trans (by simp [go_sem]), (hb.cell (p := ⟨wr.heap.size, 1, none⟩) (by simp)).trans (by simp [go_sem]), (hb.cell (p := ⟨wr.heap.size, 2, none⟩) (by simp)).trans (by simp [go_sem]), (hb.cell (p := ⟨wr.heap.size, 3, none⟩) (by simp)).trans (by simp [go_sem])⟩
    rw [hwe] at HE0
    have HSP : Hid (∀ w4 w5 : World, Below we.heap.size we w4 → ∀ nb, Put w4 w5 E i (rb + 1) i B M P.data.toList nb → w5.cell? ⟨eb, 0, none⟩ = some (.string P) ∧ w5.cell? ⟨eb, 1, none⟩ = some (.int .i64 k) ∧ w5.cell? ⟨eb, 2, none⟩ = some (.string d) ∧ w5.cell? ⟨eb, 3, none⟩ = some (.bool x)) := fun w4 w5 hc nb hp => by
     obtain ⟨u, mb, hu1, hu2, hu3⟩ := hp.old HBR.out.br
     obtain ⟨q0, q1, q2, q3⟩ := HS.out u (hc.trans (hu1.mono hc.size))
     have ne : ∀ {oo : Nat}, (some (⟨eb, oo, none⟩ : Addr).block) ≠ some mb := fun e => by have := Option.some.inj e; simp at this; omega
     exact ⟨hu2.cell q0 ne, hu2.cell q1 ne, hu2.cell q2 ne, hu2.cell q3 ne⟩
    have HTN : Hid (Tr E n → eOk (E i) = true ∧ Wants E i P.data.toList) := fun h => ⟨h.1 i hil, fun hu => by rw [← HPI.out] at hu ⊢; exact h.2.2 i hil hu⟩
    clear hbr hP hk hd hx hsm
    cases hpk : pOk P with
    | false =>
     rw [hpk] at HPK HEO
     have HF : Hid (treeB E n = false) := treeB_no (fun h => by have := (HTN.out h.2).1; rw [HEO.out] at this; cases this)
     clear hpk
     go_wp2_with fail
     refine wq 20 (S := fun w' => w'.cell? ⟨eb, 0, none⟩ = some (.string P) ∧ w'.cell? ⟨eb, 1, none⟩ = some (.int .i64 k) ∧ w'.cell? ⟨eb, 2, none⟩ = some (.string d) ∧ w'.cell? ⟨eb, 3, none⟩ = some (.bool x)) (by kernel_rfl) (HS.out _ (Below.refl _ _).drew) fun hHeld => ?_
     iterate 2 (refine un 20 rfl ?_;try simp only [aP])
     refine rq 2 rfl fun K hK => ?_
     go_simp
     (go_at_call 140; refine (HPK.out _ (HML.out.below (HBE.out.trans (HE0.out.drew.mono HBE.out.size)))).mono ?_; rintro e w2 ⟨rfl, hl2⟩; have hb2 : Below wr.heap.size wr w2 := HE0.out.drew.trans (hl2.mono HE0.out.size); have hc2 : Below we.heap.size we w2 := (Below.refl we.heap.size we).drew.trans (hl2.mono (Nat.le_refl _)))
     try go_wp2_with fail
     refine hK.out _ _ (HS.out _ hc2) (fun hHeld => ?_)
     clear hK K
     try simp only [aP]
     iterate 17 ((first|refine sn 20 rfl ?_|refine un 20 rfl ?_);try simp only [aP])
     refine dq ?_
     go_wp2_with fail
     go_ret
     exact ⟨⟨none, rfl, by rw [HF.out]; rfl, fun a h => by cases h⟩, HBE.out.trans (hb2.mono HBE.out.size)⟩
    | true =>
     rw [hpk] at HPK HEO
     have HPT : Hid (pOk P = true) := hpk
     clear hpk
     cases hck : cOk (E i) with
     | false =>
      rw [hck] at HCK HEO
      have HF : Hid (treeB E n = false) := treeB_no (fun h => by have := (HTN.out h.2).1; rw [HEO.out] at this; cases this)
      clear hck
      go_wp2_with fail
      refine wq 20 (S := fun w' => w'.cell? ⟨eb, 0, none⟩ = some (.string P) ∧ w'.cell? ⟨eb, 1, none⟩ = some (.int .i64 k) ∧ w'.cell? ⟨eb, 2, none⟩ = some (.string d) ∧ w'.cell? ⟨eb, 3, none⟩ = some (.bool x)) (by kernel_rfl) (HS.out _ (Below.refl _ _).drew) fun hHeld => ?_
      iterate 2 (refine un 20 rfl ?_;try simp only [aP])
      refine rq 2 rfl fun K hK => ?_
      go_simp
      (go_at_call 140; refine (HPK.out _ (HML.out.below (HBE.out.trans (HE0.out.drew.mono HBE.out.size)))).mono ?_; rintro e w2 ⟨rfl, hl2⟩; have hb2 : Below wr.heap.size wr w2 := HE0.out.drew.trans (hl2.mono HE0.out.size); have hc2 : Below we.heap.size we w2 := (Below.refl we.heap.size we).drew.trans (hl2.mono (Nat.le_refl _)))
      try go_wp2_with fail
      refine hK.out _ _ (HS.out _ hc2) (fun hHeld => ?_)
      clear hK K
      try simp only [aP]
      iterate 3 (refine un 20 rfl ?_;try simp only [aP])
      refine rq 6 rfl fun K hK => ?_
      go_simp
      (go_at_call 141; refine (HCK.out _).mono ?_; rintro e w3 ⟨rfl, hl3⟩; have hb3 : Below wr.heap.size wr w3 := hb2.trans (hl3.mono hb2.size); have hc3 : Below we.heap.size we w3 := hc2.trans (hl3.mono hc2.size))
      try go_wp2_with fail
      refine hK.out _ _ (HS.out _ hc3) (fun hHeld => ?_)
      clear hK K
      try simp only [aP]
      iterate 13 ((first|refine sn 20 rfl ?_|refine un 20 rfl ?_);try simp only [aP])
      refine dq ?_
      go_wp2_with fail
      go_ret
      exact ⟨⟨none, rfl, by rw [HF.out]; rfl, fun a h => by cases h⟩, HBE.out.trans (hb3.mono HBE.out.size)⟩
     | true =>
      rw [hck] at HCK HEO
      clear hck
      by_cases hw : Wants E i P.data.toList
      ·have HHY : Hid (∀ W : World, Below wr.heap.size wr W → ∀ nb : Nat, Calls Tryz.prog 142 #[.pointer (some ⟨rb, 0, none⟩), .string P, .pointer (some ⟨nb, 0, none⟩)] W fun e w' => e = .returned (.bool true) ∧ Put W w' E i (rb + 1) i B M P.data.toList nb) := fun W hb nb => hold_yes (HBR.out.br.below hb) HBR.out.tr (HML.out.below (HBE.out.trans (hb.mono HBE.out.size))) HATC.out P hPs HPT.out nb (by omega) hw
       have HTI : Hid (Tr E (i + 1)) := HBR.out.tr.next (by rw [HEO.out]; rfl) (fun h0 => by
        obtain ⟨K, hK⟩ : ∃ K, i = K + 1 := ⟨i - 1, by omega⟩
        have := HADJ.out K (by omega)
        rw [← hK] at this
        rw [show i - 1 = K by omega]
        exact this) (by rw [HPI.out]; exact hw)
       clear hw
       go_wp2_with fail
       refine wq 20 (S := fun w' => w'.cell? ⟨eb, 0, none⟩ = some (.string P) ∧ w'.cell? ⟨eb, 1, none⟩ = some (.int .i64 k) ∧ w'.cell? ⟨eb, 2, none⟩ = some (.string d) ∧ w'.cell? ⟨eb, 3, none⟩ = some (.bool x)) (by kernel_rfl) (HS.out _ (Below.refl _ _).drew) fun hHeld => ?_
       iterate 2 (refine un 20 rfl ?_;try simp only [aP])
       refine rq 2 rfl fun K hK => ?_
       go_simp
       (go_at_call 140; refine (HPK.out _ (HML.out.below (HBE.out.trans (HE0.out.drew.mono HBE.out.size)))).mono ?_; rintro e w2 ⟨rfl, hl2⟩; have hb2 : Below wr.heap.size wr w2 := HE0.out.drew.trans (hl2.mono HE0.out.size); have hc2 : Below we.heap.size we w2 := (Below.refl we.heap.size we).drew.trans (hl2.mono (Nat.le_refl _)))
       try go_wp2_with fail
       refine hK.out _ _ (HS.out _ hc2) (fun hHeld => ?_)
       clear hK K
       try simp only [aP]
       iterate 3 (refine un 20 rfl ?_;try simp only [aP])
       refine rq 6 rfl fun K hK => ?_
       go_simp
       (go_at_call 141; refine (HCK.out _).mono ?_; rintro e w3 ⟨rfl, hl3⟩; have hb3 : Below wr.heap.size wr w3 := hb2.trans (hl3.mono hb2.size); have hc3 : Below we.heap.size we w3 := hc2.trans (hl3.mono hc2.size))
       try go_wp2_with fail
       refine hK.out _ _ (HS.out _ hc3) (fun hHeld => ?_)
       clear hK K
       try simp only [aP]
       iterate 9 (refine un 20 rfl ?_;try simp only [aP])
       refine rq 16 rfl fun K hK => ?_
       go_simp
       (go_at_call 139; refine (HNW.out _).mono ?_; rintro e w4 ⟨rfl, n0, n1, n2, hl4⟩; have hb4 : Below wr.heap.size wr w4 := hb3.trans (hl4.mono hb3.size); have hc4 : Below we.heap.size we w4 := hc3.trans (hl4.mono hc3.size))
       try go_wp2_with fail
       refine hK.out _ _ (HS.out _ hc4) (fun hHeld => ?_)
       clear hK K
       try simp only [aP]
       refine rq 17 rfl fun K hK => ?_
       go_simp
       (go_at_call 142; refine (HHY.out w4 hb4 w3.heap.size).mono ?_; rintro e w5 ⟨rfl, hput⟩; have hs5 := HSP.out w4 w5 hc4 w3.heap.size hput)
       try go_wp2_with fail
       refine hK.out _ _ (hs5) (fun hHeld => ?_)
       clear hK K
       try simp only [aP]
       iterate 2 (refine un 20 rfl ?_;try simp only [aP])
       refine dq ?_
       have HNX : Hid (BrA w w5 E (i + 1) rb (rb + 1) (fun j => if j = i then w3.heap.size else B j) (fun j => if j = i then w3.heap.size + 1 else M j)) := HBR.out.next HTI.out hb3 hl4 n0 (by rw [HKI.out]; exact n1) (by rw [HKI.out]; exact n2) (by rw [HPI.out]; exact hput)
       go_wp2_with fail
       go_roundw
       case rel => exact ⟨i + 1, _, _, by omega, by go_num, HNX.out⟩
       case measure => simp [intOf] <;> omega
      ·have HHN : Hid (∀ W : World, Below wr.heap.size wr W → ∀ nb : Nat, Calls Tryz.prog 142 #[.pointer (some ⟨rb, 0, none⟩), .string P, .pointer (some ⟨nb, 0, none⟩)] W fun e w' => e = .returned (.bool false) ∧ Below W.heap.size W w') := fun W hb nb => hold_not (HBR.out.br.below hb) HBR.out.tr (HML.out.below (HBE.out.trans (hb.mono HBE.out.size))) HATC.out P hPs nb hw
       have HF : Hid (treeB E n = false) := treeB_no (fun h => hw (HTN.out h.2).2)
       clear hw
       go_wp2_with fail
       refine wq 20 (S := fun w' => w'.cell? ⟨eb, 0, none⟩ = some (.string P) ∧ w'.cell? ⟨eb, 1, none⟩ = some (.int .i64 k) ∧ w'.cell? ⟨eb, 2, none⟩ = some (.string d) ∧ w'.cell? ⟨eb, 3, none⟩ = some (.bool x)) (by kernel_rfl) (HS.out _ (Below.refl _ _).drew) fun hHeld => ?_
       iterate 2 (refine un 20 rfl ?_;try simp only [aP])
       refine rq 2 rfl fun K hK => ?_
       go_simp
       (go_at_call 140; refine (HPK.out _ (HML.out.below (HBE.out.trans (HE0.out.drew.mono HBE.out.size)))).mono ?_; rintro e w2 ⟨rfl, hl2⟩; have hb2 : Below wr.heap.size wr w2 := HE0.out.drew.trans (hl2.mono HE0.out.size); have hc2 : Below we.heap.size we w2 := (Below.refl we.heap.size we).drew.trans (hl2.mono (Nat.le_refl _)))
       try go_wp2_with fail
       refine hK.out _ _ (HS.out _ hc2) (fun hHeld => ?_)
       clear hK K
       try simp only [aP]
       iterate 3 (refine un 20 rfl ?_;try simp only [aP])
       refine rq 6 rfl fun K hK => ?_
       go_simp
       (go_at_call 141; refine (HCK.out _).mono ?_; rintro e w3 ⟨rfl, hl3⟩; have hb3 : Below wr.heap.size wr w3 := hb2.trans (hl3.mono hb2.size); have hc3 : Below we.heap.size we w3 := hc2.trans (hl3.mono hc2.size))
       try go_wp2_with fail
       refine hK.out _ _ (HS.out _ hc3) (fun hHeld => ?_)
       clear hK K
       try simp only [aP]
       iterate 9 (refine un 20 rfl ?_;try simp only [aP])
       refine rq 16 rfl fun K hK => ?_
       go_simp
       (go_at_call 139; refine (HNW.out _).mono ?_; rintro e w4 ⟨rfl, n0, n1, n2, hl4⟩; have hb4 : Below wr.heap.size wr w4 := hb3.trans (hl4.mono hb3.size); have hc4 : Below we.heap.size we w4 := hc3.trans (hl4.mono hc3.size))
       try go_wp2_with fail
       refine hK.out _ _ (HS.out _ hc4) (fun hHeld => ?_)
       clear hK K
       try simp only [aP]
       refine rq 17 rfl fun K hK => ?_
       go_simp
       (go_at_call 142; refine (HHN.out w4 hb4 w3.heap.size).mono ?_; rintro e w5 ⟨rfl, hl5⟩; have hb5 : Below wr.heap.size wr w5 := hb4.trans (hl5.mono hb4.size); have hs5 := HS.out _ (hc4.trans (hl5.mono hc4.size)))
       try go_wp2_with fail
       refine hK.out _ _ (hs5) (fun hHeld => ?_)
       clear hK K
       try simp only [aP]
       iterate 2 (refine un 20 rfl ?_;try simp only [aP])
       refine dq ?_
       go_wp2_with fail
       go_ret
       exact ⟨⟨none, rfl, by rw [HF.out]; rfl, fun a h => by cases h⟩, HBE.out.trans (hb5.mono HBE.out.size)⟩
   ·have hil' : ¬ (i : Int) < (n : Int) := by omega
    obtain rfl : i = n := by omega
    have HT : Hid (treeB E i = true) := treeB_yes (by omega) hbr.tr
    clear hbr
    go_wp2
    go_ret
    exact ⟨⟨some ⟨rb, 0, none⟩, rfl, by rw [HT.out]; rfl, fun a h => ⟨rb, B, M, (Option.some.inj h).symm, HBR.out⟩⟩, HBE.out⟩
theorem branchOf_any (E : Nat → En) (b o n cap : Nat) (w : World) (hR : EnR w b o n E) (hS : SmE n E) (hn : n ≤ 1048576) (hm : ML w) (hC : AtC E) :
  Calls Tryz.prog 107 #[.slice (some ⟨b, o, none⟩) n cap] w fun e w' => (∃ v, e = .returned (.pointer v) ∧ v.isSome = treeB E n) ∧ Below w.heap.size w w' := by
 refine (branchOf_full E b o n cap w hR hS hn hm hC).mono ?_
 rintro e w' ⟨⟨v, h1, h2, _⟩, h3⟩
 exact ⟨⟨v, h1, h2⟩, h3⟩
end Go.Proofs.YthbgpfjbfkiljaaGreatDoor.tt

set_option linter.unusedVariables false
set_option linter.unusedSimpArgs false
set_option maxRecDepth 100000
set_option maxHeartbeats 16000000
namespace Go.Proofs.YthbgpfjbfkiljaaGreatDoor.tt
open Go.ChangeShapes Go.WideShapes Go.ChangeAt Go.RowKit Go.Deep Go.Maps
theorem itree_any (E : Nat → En) (b o n cap : Nat) (w : World) (hR : EnR w b o n E) (hS : SmE n E) (hn : n ≤ 1048576) (hm : ML w) (hC : AtC E) :
  Calls Tryz.prog 66 #[.slice (some ⟨b, o, none⟩) n cap] w fun e w' => e = .returned (.bool (treeB E n)) ∧ Below w.heap.size w w' := by
 have HB := branchOf_any E b o n cap w hR hS hn hm hC
 clear hR hS hm hC
 go_enter Tryz.func66, Tryz.ntmps66
 go_wp2_with (go_at_call 107; refine HB.mono ?_; rintro e w1 ⟨⟨v, rfl, hv⟩, hb⟩; rcases v with _ | v)
 ·go_ret
  exact ⟨ret_bool hv, hb⟩
 ·go_ret
  exact ⟨ret_bool hv, hb⟩
end Go.Proofs.YthbgpfjbfkiljaaGreatDoor.tt

set_option linter.unusedVariables false
set_option linter.unusedSimpArgs false
set_option maxRecDepth 100000
set_option maxHeartbeats 16000000
namespace Go.Proofs.YthbgpfjbfkiljaaGreatDoor.rf
open Go.ChangeShapes Go.WideShapes Go.ChangeAt Go.RowKit Go.Deep Go.Shelf Go.Sort Go.Maps
theorem tree_is {E : Nat → tt.En} {n : Nat} (h : tt.treeB E n = true) : n ≤ 500 ∧ tt.Tr E n := by unfold tt.treeB at h; exact (@decide_eq_true_iff _ (Classical.propDecidable _)).1 h
theorem PW_len {E : Nat → tt.En} {B : Nat} : ∀ {N : Nat}, (∀ i, i < N → (E i).data.size ≤ B) → (PW E N).length ≤ N * B
 | 0, _ => by simp [PW]
 | N + 1, h => by
  have h1 := PW_len (E := E) (B := B) (N := N) (fun i hi => h i (by omega))
  have h2 := h N (by omega)
  rw [PW, List.length_append, pcs_len, Nat.add_mul]
  omega
theorem eOk_data {e : tt.En} (h : tt.eOk e = true) : e.data.size ≤ 20000 := by
 unfold tt.eOk tt.cOk at h
 simp only [Bool.and_eq_true, decide_eq_true_eq] at h
 exact h.2.1
theorem nil_row (w : World) : sr.OwnS w.heap.size (w.alloc (.cells #[] 9)) (.slice (some ⟨w.heap.size, 0, none⟩) 0 0) [] := ⟨sr.own_zero w, sr.not_nil _ _ _⟩
end Go.Proofs.YthbgpfjbfkiljaaGreatDoor.rf
