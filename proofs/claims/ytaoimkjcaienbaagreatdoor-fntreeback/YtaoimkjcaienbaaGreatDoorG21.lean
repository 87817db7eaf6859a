import Derived.Test.YtaoimkjcaienbaaGreatDoorG20
import Derived.Test.YtaoimkjcaienbaaGreatDoorG14
import Derived.Test.YtaoimkjcaienbaaGreatDoorG15
import Derived.Test.YtaoimkjcaienbaaGreatDoorG01
import Derived.Test.YtaoimkjcaienbaaGreatDoorG04
import Derived.Lib.LaidTab
import Derived.Test.YtaoimkjcaienbaaGreatDoorG17
namespace Go.Proofs.YtaoimkjcaienbaaGreatDoor.tt
open Go.ChangeShapes Go.WideShapes Go.ChangeAt Go.RowKit Go.Deep
set_option linter.unusedVariables false
set_option linter.unusedSimpArgs false

set_option maxHeartbeats 4000000 in
set_option maxRecDepth 100000 in
theorem with_t1 (E : Nat → En) (b a : Nat) (P d : ByteArray) (k : Int) (x : Bool) (w : World) (hR : EnR w b 0 (a + 1) E) (hA : Asc E (a + 1)) (hn : (a + 1) ≤ 1000) (ha : Rk E (a + 1) P.data.toList a) (his : Is E (a + 1) P.data.toList a) :
    Calls Tryz.prog 52 #[.slice (some ⟨b, 0, none⟩) (a + 1) (a + 1), .agg #[.string P, .int .i64 k, .string d, .bool x]] w fun r w' => (∃ g c, r = .returned (.slice (some ⟨g, 0, none⟩) (ptN E (a + 1) ⟨P, k, d, x⟩ a) c) ∧ EnR w' g 0 (ptN E (a + 1) ⟨P, k, d, x⟩ a) (ptF E (a + 1) ⟨P, k, d, x⟩ a)) ∧ Below w.heap.size w w' := by
  have HER : Hid (EnR w b 0 (a + 1) E) := hR
  have HRK : Hid (Rk E (a + 1) P.data.toList a) := ha
  have HAS : Hid (Asc E (a + 1)) := hA
  have han := ha.le
  clear hR hA ha
  go_enter Tryz.func52, Tryz.ntmps52
  go_upto_region 1 with fail
  obtain ⟨w1, hw1⟩ : ∃ W, W = w.alloc (.cells #[.string P, .int .i64 k, .string d, .bool x] 29) := ⟨_, rfl⟩
  obtain ⟨eb, heb⟩ : ∃ eb, eb = w.heap.size := ⟨_, rfl⟩
  have HX1 : Hid (BxE w1 eb P d k x) := by rw [hw1, heb]; exact bxE_new _ _ _ _ _ _
  have HB1 : Hid (Below w.heap.size w w1) := by rw [hw1]; exact (Below.refl _ _).alloc (Nat.le_refl _) _
  rw [← hw1, ← heb]
  clear hw1 heb
  have HX : Hid (∀ W, Below w1.heap.size w1 W → BxE W eb P d k x) := fun W hW => HX1.out.below hW
  have HUP : Hid (∀ W, Below w1.heap.size w1 W → Below w.heap.size w W) := fun W hW => HB1.out.trans (hW.mono HB1.out.size)
  have HEN : Hid (Calls Tryz.prog 81 #[.slice (some ⟨b, 0, none⟩) (a + 1) (a + 1), .string P] w1 fun e w' => e = .returned (.tuple #[.int .i64 (a : Int), .bool (isB E (a + 1) P.data.toList a)]) ∧ Below w1.heap.size w1 w') := (enum_any E b 0 (a + 1) (a + 1) P w1 (HER.out.below HB1.out) HAS.out (by omega)).mono fun e w' ⟨⟨a', h1, h2⟩, h3⟩ => ⟨by rw [h1, h2.uniq HRK.out], h3⟩
  have HRD : Hid (∀ W, Below w1.heap.size w1 W → EnR W b 0 (a + 1) E) := fun W hW => HER.out.below (HUP.out W hW)
  obtain ⟨x0, x1, x2, x3⟩ := HX1.out
  have hib := isB_yes his
  have hln := his.1
  rw [hib] at HEN
  have HPN : Hid (ptN E (a + 1) ⟨P, k, d, x⟩ a = (a + 1)) := by show _ = _; unfold ptN; rw [if_pos hib]
  have HPF : Hid (jn E a (a + 1) ⟨P, k, d, x⟩ = ptF E (a + 1) ⟨P, k, d, x⟩ a) := jn_pt (by rw [if_pos hib])
  clear his hib
  have hai : (a : Int) ≤ ((a + 1) : Int) := by omega
  have HSEG : Hid (∀ W, Below w1.heap.size w1 W → EnR W b (a * 4) 0 (fun k => E (a + 1 + k))) := fun W hW i hi => by omega
  have h1 : (a + 1) - a = 1 := by omega
  have h2 : ¬ (a + 1) = a := by omega
  have h3 : (1 : Int) ≤ (((a + 1) - a : Nat) : Int) := by omega
  go_wp2_with (go_at_call 81; refine HEN.out.mono ?_; rintro e w2 ⟨rfl, hl2⟩; have HB2 : Hid (Below w1.heap.size w1 w2) := hl2; obtain ⟨y0, y1, y2, y3⟩ := HX.out _ hl2; clear hl2)
  have HD1 : Hid (Below w1.heap.size w1 (w2.drew.alloc (.cells #[.string P, .int .i64 k, .string d, .bool x] 29))) := HB2.out.drew.alloc HB2.out.drew.size _
  have HD2 : Hid (Below w1.heap.size w1 (w2.alloc (.cells #[.string P, .int .i64 k, .string d, .bool x] 29)).drew) := (HB2.out.alloc HB2.out.size _).drew
  have S2 : BxE w2 eb P d k x := ⟨y0, y1, y2, y3⟩
  have HLA : Hid ((enC E a).length = a * 4) := enC_len E a
  have HLS : Hid ((enC (fun k => E (a + 1 + k)) 0).length = 0 * 4) := enC_len _ _
  go_region_held3 (fun w' => w'.cell? ⟨eb, 0, none⟩ = some (.string P) ∧ w'.cell? ⟨eb, 1, none⟩ = some (.int .i64 k) ∧ w'.cell? ⟨eb, 2, none⟩ = some (.string d) ∧ w'.cell? ⟨eb, 3, none⟩ = some (.bool x))
    (first | go_keep | exact S2 | exact S3 | exact S4)
    (first
      | ((refine step_grow (by rfl) _ _ (by rfl) b 0 a a (enC E a) (by rfl) HLA.out (news_of (enR_mono (HRD.out _ (by first | exact HD1.out | exact HD2.out)) han)) ⟨w2.heap.size, 0, none⟩ 1 1 [.string P, .int .i64 k, .string d, .bool x] (by rfl) rfl (four_at _ _ rfl _ _ _ _ _) (by omega) (by omega) ?_; intro v3 w3 hown3 hg3; have HB3 : Below w1.heap.size w1 w3 := (by first | exact bel_none HD1.out hg3 HD1.out.size | exact bel_none HD2.out hg3 HD2.out.size); have S3 : BxE w3 eb P d k x := HX.out w3 HB3))
      | ((refine step_ent (by rfl) _ _ (by rfl) v3 (a + 1) _ (by rfl) hown3 hg3.size ⟨b, a * 4, none⟩ 0 0 (enC (fun k => E (a + 1 + k)) 0) (by rfl) HLS.out (news_of (HSEG.out _ HB3)) (one_enC _ _) (by omega) ?_; intro v4 w4 hown4 hg4; have HB4 : Below w1.heap.size w1 w4 := (HB3.grown hg4 HB3.size (fun q hq => Nat.le_trans (by first | exact HD1.out.size | exact HD2.out.size) (hown3.lt q hq).1)); have S4 : BxE w4 eb P d k x := HX.out w4 HB4)))
  have hen : enC E a ++ [.string P, .int .i64 k, .string d, .bool x] ++ enC (fun k => E (a + 1 + k)) 0 = enC (jn E a (a + 1) ⟨P, k, d, x⟩) (a + 1 + 0) := enC_jn E a (a + 1) ⟨P, k, d, x⟩ (0)
  rw [hen] at hown4
  obtain ⟨g, c, f4, rfl, -, -, -, -, hE4⟩ := own_rowE hown4 (own_not_nil hown4 (fun e => by have := congrArg List.length e; rw [enC_len, List.length_nil] at this; omega))
  have HE4 : Hid (EnR w4 g 0 (a + 1 + 0) (jn E a (a + 1) ⟨P, k, d, x⟩)) := hE4
  have HM : Hid (a + 1 + 0 = ptN E (a + 1) ⟨P, k, d, x⟩ a) := by rw [HPN.out]; show _ = _; omega
  clear hown4 hown3 hg3 hg4 hE4 hen
  go_wp2_with fail
  go_ret
  refine ⟨⟨g, c, by rw [← HM.out]; rfl, ?_⟩, HUP.out _ HB4⟩
  rw [← HM.out, ← HPF.out]
  exact HE4.out

end Go.Proofs.YtaoimkjcaienbaaGreatDoor.tt

namespace Go.Proofs.YtaoimkjcaienbaaGreatDoor.tt
open Go.ChangeShapes Go.WideShapes Go.ChangeAt Go.RowKit Go.Deep
set_option linter.unusedVariables false
set_option linter.unusedSimpArgs false

set_option maxHeartbeats 4000000 in
set_option maxRecDepth 100000 in
theorem with_t2 (E : Nat → En) (b n a : Nat) (P d : ByteArray) (k : Int) (x : Bool) (w : World) (hR : EnR w b 0 n E) (hA : Asc E n) (hn : n ≤ 1000) (ha : Rk E n P.data.toList a) (his : Is E n P.data.toList a) (hla : ¬ n = a + 1) :
    Calls Tryz.prog 52 #[.slice (some ⟨b, 0, none⟩) n n, .agg #[.string P, .int .i64 k, .string d, .bool x]] w fun r w' => (∃ g c, r = .returned (.slice (some ⟨g, 0, none⟩) (ptN E n ⟨P, k, d, x⟩ a) c) ∧ EnR w' g 0 (ptN E n ⟨P, k, d, x⟩ a) (ptF E n ⟨P, k, d, x⟩ a)) ∧ Below w.heap.size w w' := by
  have HER : Hid (EnR w b 0 n E) := hR
  have HRK : Hid (Rk E n P.data.toList a) := ha
  have HAS : Hid (Asc E n) := hA
  have han := ha.le
  clear hR hA ha
  go_enter Tryz.func52, Tryz.ntmps52
  go_upto_region 1 with fail
  obtain ⟨w1, hw1⟩ : ∃ W, W = w.alloc (.cells #[.string P, .int .i64 k, .string d, .bool x] 29) := ⟨_, rfl⟩
  obtain ⟨eb, heb⟩ : ∃ eb, eb = w.heap.size := ⟨_, rfl⟩
  have HX1 : Hid (BxE w1 eb P d k x) := by rw [hw1, heb]; exact bxE_new _ _ _ _ _ _
  have HB1 : Hid (Below w.heap.size w w1) := by rw [hw1]; exact (Below.refl _ _).alloc (Nat.le_refl _) _
  rw [← hw1, ← heb]
  clear hw1 heb
  have HX : Hid (∀ W, Below w1.heap.size w1 W → BxE W eb P d k x) := fun W hW => HX1.out.below hW
  have HUP : Hid (∀ W, Below w1.heap.size w1 W → Below w.heap.size w W) := fun W hW => HB1.out.trans (hW.mono HB1.out.size)
  have HEN : Hid (Calls Tryz.prog 81 #[.slice (some ⟨b, 0, none⟩) n n, .string P] w1 fun e w' => e = .returned (.tuple #[.int .i64 (a : Int), .bool (isB E n P.data.toList a)]) ∧ Below w1.heap.size w1 w') := (enum_any E b 0 n n P w1 (HER.out.below HB1.out) HAS.out (by omega)).mono fun e w' ⟨⟨a', h1, h2⟩, h3⟩ => ⟨by rw [h1, h2.uniq HRK.out], h3⟩
  have HRD : Hid (∀ W, Below w1.heap.size w1 W → EnR W b 0 n E) := fun W hW => HER.out.below (HUP.out W hW)
  obtain ⟨x0, x1, x2, x3⟩ := HX1.out
  have hib := isB_yes his
  have hln := his.1
  rw [hib] at HEN
  have HPN : Hid (ptN E n ⟨P, k, d, x⟩ a = n) := by show _ = _; unfold ptN; rw [if_pos hib]
  have HPF : Hid (jn E a (a + 1) ⟨P, k, d, x⟩ = ptF E n ⟨P, k, d, x⟩ a) := jn_pt (by rw [if_pos hib])
  clear his hib
  have hai : (a : Int) ≤ (n : Int) := by omega
  have HSEG : Hid (∀ W, Below w1.heap.size w1 W → EnR W b (a * 4 + 4) (n - a - 1) (fun k => E (a + 1 + k))) := fun W hW => by
    have := enR_from (HRD.out W hW) (a + 1) (n - a - 1) (by omega)
    rwa [show 0 + (a + 1) * 4 = a * 4 + 4 by omega] at this
  have h1 : ¬ n - a = 1 := by omega
  have h2 : ¬ n = a := by omega
  have h3 : (1 : Int) ≤ ((n - a : Nat) : Int) := by omega
  go_wp2_with (go_at_call 81; refine HEN.out.mono ?_; rintro e w2 ⟨rfl, hl2⟩; have HB2 : Hid (Below w1.heap.size w1 w2) := hl2; obtain ⟨y0, y1, y2, y3⟩ := HX.out _ hl2; clear hl2)
  have HD1 : Hid (Below w1.heap.size w1 (w2.drew.alloc (.cells #[.string P, .int .i64 k, .string d, .bool x] 29))) := HB2.out.drew.alloc HB2.out.drew.size _
  have HD2 : Hid (Below w1.heap.size w1 (w2.alloc (.cells #[.string P, .int .i64 k, .string d, .bool x] 29)).drew) := (HB2.out.alloc HB2.out.size _).drew
  have S2 : BxE w2 eb P d k x := ⟨y0, y1, y2, y3⟩
  have HLA : Hid ((enC E a).length = a * 4) := enC_len E a
  have HLS : Hid ((enC (fun k => E (a + 1 + k)) (n - a - 1)).length = (n - a - 1) * 4) := enC_len _ _
  go_region_held3 (fun w' => w'.cell? ⟨eb, 0, none⟩ = some (.string P) ∧ w'.cell? ⟨eb, 1, none⟩ = some (.int .i64 k) ∧ w'.cell? ⟨eb, 2, none⟩ = some (.string d) ∧ w'.cell? ⟨eb, 3, none⟩ = some (.bool x))
    (first | go_keep | exact S2 | exact S3 | exact S4)
    (first
      | ((refine step_grow (by rfl) _ _ (by rfl) b 0 a a (enC E a) (by rfl) HLA.out (news_of (enR_mono (HRD.out _ (by first | exact HD1.out | exact HD2.out)) han)) ⟨w2.heap.size, 0, none⟩ 1 1 [.string P, .int .i64 k, .string d, .bool x] (by rfl) rfl (four_at _ _ rfl _ _ _ _ _) (by omega) (by omega) ?_; intro v3 w3 hown3 hg3; have HB3 : Below w1.heap.size w1 w3 := (by first | exact bel_none HD1.out hg3 HD1.out.size | exact bel_none HD2.out hg3 HD2.out.size); have S3 : BxE w3 eb P d k x := HX.out w3 HB3))
      | ((refine step_ent (by rfl) _ _ (by rfl) v3 (a + 1) _ (by rfl) hown3 hg3.size ⟨b, a * 4 + 4, none⟩ (n - a - 1) (n - a - 1) (enC (fun k => E (a + 1 + k)) (n - a - 1)) (by rfl) HLS.out (news_of (HSEG.out _ HB3)) (one_enC _ _) (by omega) ?_; intro v4 w4 hown4 hg4; have HB4 : Below w1.heap.size w1 w4 := (HB3.grown hg4 HB3.size (fun q hq => Nat.le_trans (by first | exact HD1.out.size | exact HD2.out.size) (hown3.lt q hq).1)); have S4 : BxE w4 eb P d k x := HX.out w4 HB4)))
  have hen : enC E a ++ [.string P, .int .i64 k, .string d, .bool x] ++ enC (fun k => E (a + 1 + k)) (n - a - 1) = enC (jn E a (a + 1) ⟨P, k, d, x⟩) (a + 1 + (n - a - 1)) := enC_jn E a (a + 1) ⟨P, k, d, x⟩ ((n - a - 1))
  rw [hen] at hown4
  obtain ⟨g, c, f4, rfl, -, -, -, -, hE4⟩ := own_rowE hown4 (own_not_nil hown4 (fun e => by have := congrArg List.length e; rw [enC_len, List.length_nil] at this; omega))
  have HE4 : Hid (EnR w4 g 0 (a + 1 + (n - a - 1)) (jn E a (a + 1) ⟨P, k, d, x⟩)) := hE4
  have HM : Hid (a + 1 + (n - a - 1) = ptN E n ⟨P, k, d, x⟩ a) := by rw [HPN.out]; show _ = _; omega
  clear hown4 hown3 hg3 hg4 hE4 hen
  go_wp2_with fail
  go_ret
  refine ⟨⟨g, c, by rw [← HM.out]; rfl, ?_⟩, HUP.out _ HB4⟩
  rw [← HM.out, ← HPF.out]
  exact HE4.out

end Go.Proofs.YtaoimkjcaienbaaGreatDoor.tt

namespace Go.Proofs.YtaoimkjcaienbaaGreatDoor.tt
open Go.ChangeShapes Go.WideShapes Go.ChangeAt Go.RowKit Go.Deep
set_option linter.unusedVariables false
set_option linter.unusedSimpArgs false

set_option maxHeartbeats 4000000 in
set_option maxRecDepth 100000 in
theorem with_n1 (E : Nat → En) (b n a : Nat) (P d : ByteArray) (k : Int) (x : Bool) (w : World) (hR : EnR w b 0 n E) (hA : Asc E n) (hn : n ≤ 1000) (ha : Rk E n P.data.toList a) (his : ¬ Is E n P.data.toList a) (hna : n = a) :
    Calls Tryz.prog 52 #[.slice (some ⟨b, 0, none⟩) n n, .agg #[.string P, .int .i64 k, .string d, .bool x]] w fun r w' => (∃ g c, r = .returned (.slice (some ⟨g, 0, none⟩) (ptN E n ⟨P, k, d, x⟩ a) c) ∧ EnR w' g 0 (ptN E n ⟨P, k, d, x⟩ a) (ptF E n ⟨P, k, d, x⟩ a)) ∧ Below w.heap.size w w' := by
  have HER : Hid (EnR w b 0 n E) := hR
  have HRK : Hid (Rk E n P.data.toList a) := ha
  have HAS : Hid (Asc E n) := hA
  have han := ha.le
  clear hR hA ha
  go_enter Tryz.func52, Tryz.ntmps52
  go_upto_region 1 with fail
  obtain ⟨w1, hw1⟩ : ∃ W, W = w.alloc (.cells #[.string P, .int .i64 k, .string d, .bool x] 29) := ⟨_, rfl⟩
  obtain ⟨eb, heb⟩ : ∃ eb, eb = w.heap.size := ⟨_, rfl⟩
  have HX1 : Hid (BxE w1 eb P d k x) := by rw [hw1, heb]; exact bxE_new _ _ _ _ _ _
  have HB1 : Hid (Below w.heap.size w w1) := by rw [hw1]; exact (Below.refl _ _).alloc (Nat.le_refl _) _
  rw [← hw1, ← heb]
  clear hw1 heb
  have HX : Hid (∀ W, Below w1.heap.size w1 W → BxE W eb P d k x) := fun W hW => HX1.out.below hW
  have HUP : Hid (∀ W, Below w1.heap.size w1 W → Below w.heap.size w W) := fun W hW => HB1.out.trans (hW.mono HB1.out.size)
  have HEN : Hid (Calls Tryz.prog 81 #[.slice (some ⟨b, 0, none⟩) n n, .string P] w1 fun e w' => e = .returned (.tuple #[.int .i64 (a : Int), .bool (isB E n P.data.toList a)]) ∧ Below w1.heap.size w1 w') := (enum_any E b 0 n n P w1 (HER.out.below HB1.out) HAS.out (by omega)).mono fun e w' ⟨⟨a', h1, h2⟩, h3⟩ => ⟨by rw [h1, h2.uniq HRK.out], h3⟩
  have HRD : Hid (∀ W, Below w1.heap.size w1 W → EnR W b 0 n E) := fun W hW => HER.out.below (HUP.out W hW)
  obtain ⟨x0, x1, x2, x3⟩ := HX1.out
  have hib := isB_no his
  rw [hib] at HEN
  have HPN : Hid (ptN E n ⟨P, k, d, x⟩ a = n + 1) := by show _ = _; unfold ptN; rw [if_neg (by rw [hib]; decide)]
  have HPF : Hid (jn E a a ⟨P, k, d, x⟩ = ptF E n ⟨P, k, d, x⟩ a) := jn_pt (by rw [if_neg (by rw [hib]; decide)])
  clear his hib
  have hai : (a : Int) ≤ (n : Int) := by omega
  subst hna
  have HSEG : Hid (∀ W, Below w1.heap.size w1 W → EnR W b 0 0 (fun k => E (n + k))) := fun W hW i hi => by omega
  go_wp2_with (go_at_call 81; refine HEN.out.mono ?_; rintro e w2 ⟨rfl, hl2⟩; have HB2 : Hid (Below w1.heap.size w1 w2) := hl2; obtain ⟨y0, y1, y2, y3⟩ := HX.out _ hl2; clear hl2)
  have HD1 : Hid (Below w1.heap.size w1 (w2.drew.alloc (.cells #[.string P, .int .i64 k, .string d, .bool x] 29))) := HB2.out.drew.alloc HB2.out.drew.size _
  have HD2 : Hid (Below w1.heap.size w1 (w2.alloc (.cells #[.string P, .int .i64 k, .string d, .bool x] 29)).drew) := (HB2.out.alloc HB2.out.size _).drew
  have S2 : BxE w2 eb P d k x := ⟨y0, y1, y2, y3⟩
  have HLA : Hid ((enC E n).length = n * 4) := enC_len E n
  have HLS : Hid ((enC (fun k => E (n + k)) 0).length = 0 * 4) := enC_len _ _
  go_region_held3 (fun w' => w'.cell? ⟨eb, 0, none⟩ = some (.string P) ∧ w'.cell? ⟨eb, 1, none⟩ = some (.int .i64 k) ∧ w'.cell? ⟨eb, 2, none⟩ = some (.string d) ∧ w'.cell? ⟨eb, 3, none⟩ = some (.bool x))
    (first | go_keep | exact S2 | exact S3 | exact S4)
    (first
      | ((refine step_grow (by rfl) _ _ (by rfl) b 0 n n (enC E n) (by rfl) HLA.out (news_of (enR_mono (HRD.out _ (by first | exact HD1.out | exact HD2.out)) han)) ⟨w2.heap.size, 0, none⟩ 1 1 [.string P, .int .i64 k, .string d, .bool x] (by rfl) rfl (four_at _ _ rfl _ _ _ _ _) (by omega) (by omega) ?_; intro v3 w3 hown3 hg3; have HB3 : Below w1.heap.size w1 w3 := (by first | exact bel_none HD1.out hg3 HD1.out.size | exact bel_none HD2.out hg3 HD2.out.size); have S3 : BxE w3 eb P d k x := HX.out w3 HB3))
      | ((refine step_ent (by rfl) _ _ (by rfl) v3 (n + 1) _ (by rfl) hown3 hg3.size ⟨b, 0, none⟩ 0 0 (enC (fun k => E (n + k)) 0) (by rfl) HLS.out (news_of (HSEG.out _ HB3)) (one_enC _ _) (by omega) ?_; intro v4 w4 hown4 hg4; have HB4 : Below w1.heap.size w1 w4 := (HB3.grown hg4 HB3.size (fun q hq => Nat.le_trans (by first | exact HD1.out.size | exact HD2.out.size) (hown3.lt q hq).1)); have S4 : BxE w4 eb P d k x := HX.out w4 HB4)))
  have hen : enC E n ++ [.string P, .int .i64 k, .string d, .bool x] ++ enC (fun k => E (n + k)) 0 = enC (jn E n (n) ⟨P, k, d, x⟩) (n + 1 + 0) := enC_jn E n (n) ⟨P, k, d, x⟩ (0)
  rw [hen] at hown4
  obtain ⟨g, c, f4, rfl, -, -, -, -, hE4⟩ := own_rowE hown4 (own_not_nil hown4 (fun e => by have := congrArg List.length e; rw [enC_len, List.length_nil] at this; omega))
  have HE4 : Hid (EnR w4 g 0 (n + 1 + 0) (jn E n (n) ⟨P, k, d, x⟩)) := hE4
  have HM : Hid (n + 1 + 0 = ptN E n ⟨P, k, d, x⟩ n) := by rw [HPN.out]; show _ = _; omega
  clear hown4 hown3 hg3 hg4 hE4 hen
  go_wp2_with fail
  go_ret
  refine ⟨⟨g, c, by rw [← HM.out]; rfl, ?_⟩, HUP.out _ HB4⟩
  rw [← HM.out, ← HPF.out]
  exact HE4.out

end Go.Proofs.YtaoimkjcaienbaaGreatDoor.tt

namespace Go.Proofs.YtaoimkjcaienbaaGreatDoor.tt
open Go.ChangeShapes Go.WideShapes Go.ChangeAt Go.RowKit Go.Deep
set_option linter.unusedVariables false
set_option linter.unusedSimpArgs false

set_option maxHeartbeats 4000000 in
set_option maxRecDepth 100000 in
theorem with_n2 (E : Nat → En) (b n a : Nat) (P d : ByteArray) (k : Int) (x : Bool) (w : World) (hR : EnR w b 0 n E) (hA : Asc E n) (hn : n ≤ 1000) (ha : Rk E n P.data.toList a) (his : ¬ Is E n P.data.toList a) (hna : ¬ n = a) :
    Calls Tryz.prog 52 #[.slice (some ⟨b, 0, none⟩) n n, .agg #[.string P, .int .i64 k, .string d, .bool x]] w fun r w' => (∃ g c, r = .returned (.slice (some ⟨g, 0, none⟩) (ptN E n ⟨P, k, d, x⟩ a) c) ∧ EnR w' g 0 (ptN E n ⟨P, k, d, x⟩ a) (ptF E n ⟨P, k, d, x⟩ a)) ∧ Below w.heap.size w w' := by
  have HER : Hid (EnR w b 0 n E) := hR
  have HRK : Hid (Rk E n P.data.toList a) := ha
  have HAS : Hid (Asc E n) := hA
  have han := ha.le
  clear hR hA ha
  go_enter Tryz.func52, Tryz.ntmps52
  go_upto_region 1 with fail
  obtain ⟨w1, hw1⟩ : ∃ W, W = w.alloc (.cells #[.string P, .int .i64 k, .string d, .bool x] 29) := ⟨_, rfl⟩
  obtain ⟨eb, heb⟩ : ∃ eb, eb = w.heap.size := ⟨_, rfl⟩
  have HX1 : Hid (BxE w1 eb P d k x) := by rw [hw1, heb]; exact bxE_new _ _ _ _ _ _
  have HB1 : Hid (Below w.heap.size w w1) := by rw [hw1]; exact (Below.refl _ _).alloc (Nat.le_refl _) _
  rw [← hw1, ← heb]
  clear hw1 heb
  have HX : Hid (∀ W, Below w1.heap.size w1 W → BxE W eb P d k x) := fun W hW => HX1.out.below hW
  have HUP : Hid (∀ W, Below w1.heap.size w1 W → Below w.heap.size w W) := fun W hW => HB1.out.trans (hW.mono HB1.out.size)
  have HEN : Hid (Calls Tryz.prog 81 #[.slice (some ⟨b, 0, none⟩) n n, .string P] w1 fun e w' => e = .returned (.tuple #[.int .i64 (a : Int), .bool (isB E n P.data.toList a)]) ∧ Below w1.heap.size w1 w') := (enum_any E b 0 n n P w1 (HER.out.below HB1.out) HAS.out (by omega)).mono fun e w' ⟨⟨a', h1, h2⟩, h3⟩ => ⟨by rw [h1, h2.uniq HRK.out], h3⟩
  have HRD : Hid (∀ W, Below w1.heap.size w1 W → EnR W b 0 n E) := fun W hW => HER.out.below (HUP.out W hW)
  obtain ⟨x0, x1, x2, x3⟩ := HX1.out
  have hib := isB_no his
  rw [hib] at HEN
  have HPN : Hid (ptN E n ⟨P, k, d, x⟩ a = n + 1) := by show _ = _; unfold ptN; rw [if_neg (by rw [hib]; decide)]
  have HPF : Hid (jn E a a ⟨P, k, d, x⟩ = ptF E n ⟨P, k, d, x⟩ a) := jn_pt (by rw [if_neg (by rw [hib]; decide)])
  clear his hib
  have hai : (a : Int) ≤ (n : Int) := by omega
  have HSEG : Hid (∀ W, Below w1.heap.size w1 W → EnR W b (a * 4) (n - a) (fun k => E (a + k))) := fun W hW => by
    have := enR_from (HRD.out W hW) a (n - a) (by omega)
    rwa [Nat.zero_add] at this
  go_wp2_with (go_at_call 81; refine HEN.out.mono ?_; rintro e w2 ⟨rfl, hl2⟩; have HB2 : Hid (Below w1.heap.size w1 w2) := hl2; obtain ⟨y0, y1, y2, y3⟩ := HX.out _ hl2; clear hl2)
  have HD1 : Hid (Below w1.heap.size w1 (w2.drew.alloc (.cells #[.string P, .int .i64 k, .string d, .bool x] 29))) := HB2.out.drew.alloc HB2.out.drew.size _
  have HD2 : Hid (Below w1.heap.size w1 (w2.alloc (.cells #[.string P, .int .i64 k, .string d, .bool x] 29)).drew) := (HB2.out.alloc HB2.out.size _).drew
  have S2 : BxE w2 eb P d k x := ⟨y0, y1, y2, y3⟩
  have HLA : Hid ((enC E a).length = a * 4) := enC_len E a
  have HLS : Hid ((enC (fun k => E (a + k)) (n - a)).length = (n - a) * 4) := enC_len _ _
  go_region_held3 (fun w' => w'.cell? ⟨eb, 0, none⟩ = some (.string P) ∧ w'.cell? ⟨eb, 1, none⟩ = some (.int .i64 k) ∧ w'.cell? ⟨eb, 2, none⟩ = some (.string d) ∧ w'.cell? ⟨eb, 3, none⟩ = some (.bool x))
    (first | go_keep | exact S2 | exact S3 | exact S4)
    (first
      | ((refine step_grow (by rfl) _ _ (by rfl) b 0 a a (enC E a) (by rfl) HLA.out (news_of (enR_mono (HRD.out _ (by first | exact HD1.out | exact HD2.out)) han)) ⟨w2.heap.size, 0, none⟩ 1 1 [.string P, .int .i64 k, .string d, .bool x] (by rfl) rfl (four_at _ _ rfl _ _ _ _ _) (by omega) (by omega) ?_; intro v3 w3 hown3 hg3; have HB3 : Below w1.heap.size w1 w3 := (by first | exact bel_none HD1.out hg3 HD1.out.size | exact bel_none HD2.out hg3 HD2.out.size); have S3 : BxE w3 eb P d k x := HX.out w3 HB3))
      | ((refine step_ent (by rfl) _ _ (by rfl) v3 (a + 1) _ (by rfl) hown3 hg3.size ⟨b, a * 4, none⟩ (n - a) (n - a) (enC (fun k => E (a + k)) (n - a)) (by rfl) HLS.out (news_of (HSEG.out _ HB3)) (one_enC _ _) (by omega) ?_; intro v4 w4 hown4 hg4; have HB4 : Below w1.heap.size w1 w4 := (HB3.grown hg4 HB3.size (fun q hq => Nat.le_trans (by first | exact HD1.out.size | exact HD2.out.size) (hown3.lt q hq).1)); have S4 : BxE w4 eb P d k x := HX.out w4 HB4)))
  have hen : enC E a ++ [.string P, .int .i64 k, .string d, .bool x] ++ enC (fun k => E (a + k)) (n - a) = enC (jn E a (a) ⟨P, k, d, x⟩) (a + 1 + (n - a)) := enC_jn E a (a) ⟨P, k, d, x⟩ ((n - a))
  rw [hen] at hown4
  obtain ⟨g, c, f4, rfl, -, -, -, -, hE4⟩ := own_rowE hown4 (own_not_nil hown4 (fun e => by have := congrArg List.length e; rw [enC_len, List.length_nil] at this; omega))
  have HE4 : Hid (EnR w4 g 0 (a + 1 + (n - a)) (jn E a (a) ⟨P, k, d, x⟩)) := hE4
  have HM : Hid (a + 1 + (n - a) = ptN E n ⟨P, k, d, x⟩ a) := by rw [HPN.out]; show _ = _; omega
  clear hown4 hown3 hg3 hg4 hE4 hen
  go_wp2_with fail
  go_ret
  refine ⟨⟨g, c, by rw [← HM.out]; rfl, ?_⟩, HUP.out _ HB4⟩
  rw [← HM.out, ← HPF.out]
  exact HE4.out

end Go.Proofs.YtaoimkjcaienbaaGreatDoor.tt

namespace Go.Proofs.YtaoimkjcaienbaaGreatDoor.tt
open Go.ChangeShapes Go.WideShapes Go.ChangeAt Go.RowKit Go.Deep
set_option linter.unusedVariables false
set_option linter.unusedSimpArgs false

set_option maxHeartbeats 4000000 in
set_option maxRecDepth 100000 in
theorem with_t2c (E : Nat → En) (b n cp a : Nat) (P d : ByteArray) (k : Int) (x : Bool) (w : World) (hR : EnR w b 0 n E) (hA : Asc E n) (hn : n ≤ 1000) (ha : Rk E n P.data.toList a) (his : Is E n P.data.toList a) (hla : n < cp) :
    Calls Tryz.prog 52 #[.slice (some ⟨b, 0, none⟩) n cp, .agg #[.string P, .int .i64 k, .string d, .bool x]] w fun r w' => (∃ g c, r = .returned (.slice (some ⟨g, 0, none⟩) (ptN E n ⟨P, k, d, x⟩ a) c) ∧ EnR w' g 0 (ptN E n ⟨P, k, d, x⟩ a) (ptF E n ⟨P, k, d, x⟩ a)) ∧ Below w.heap.size w w' := by
  have HER : Hid (EnR w b 0 n E) := hR
  have HRK : Hid (Rk E n P.data.toList a) := ha
  have HAS : Hid (Asc E n) := hA
  have han := ha.le
  clear hR hA ha
  go_enter Tryz.func52, Tryz.ntmps52
  go_upto_region 1 with fail
  obtain ⟨w1, hw1⟩ : ∃ W, W = w.alloc (.cells #[.string P, .int .i64 k, .string d, .bool x] 29) := ⟨_, rfl⟩
  obtain ⟨eb, heb⟩ : ∃ eb, eb = w.heap.size := ⟨_, rfl⟩
  have HX1 : Hid (BxE w1 eb P d k x) := by rw [hw1, heb]; exact bxE_new _ _ _ _ _ _
  have HB1 : Hid (Below w.heap.size w w1) := by rw [hw1]; exact (Below.refl _ _).alloc (Nat.le_refl _) _
  rw [← hw1, ← heb]
  clear hw1 heb
  have HX : Hid (∀ W, Below w1.heap.size w1 W → BxE W eb P d k x) := fun W hW => HX1.out.below hW
  have HUP : Hid (∀ W, Below w1.heap.size w1 W → Below w.heap.size w W) := fun W hW => HB1.out.trans (hW.mono HB1.out.size)
  have HEN : Hid (Calls Tryz.prog 81 #[.slice (some ⟨b, 0, none⟩) n cp, .string P] w1 fun e w' => e = .returned (.tuple #[.int .i64 (a : Int), .bool (isB E n P.data.toList a)]) ∧ Below w1.heap.size w1 w') := (enum_any E b 0 n cp P w1 (HER.out.below HB1.out) HAS.out (by omega)).mono fun e w' ⟨⟨a', h1, h2⟩, h3⟩ => ⟨by rw [h1, h2.uniq HRK.out], h3⟩
  have HRD : Hid (∀ W, Below w1.heap.size w1 W → EnR W b 0 n E) := fun W hW => HER.out.below (HUP.out W hW)
  obtain ⟨x0, x1, x2, x3⟩ := HX1.out
  have hib := isB_yes his
  have hln := his.1
  rw [hib] at HEN
  have HPN : Hid (ptN E n ⟨P, k, d, x⟩ a = n) := by show _ = _; unfold ptN; rw [if_pos hib]
  have HPF : Hid (jn E a (a + 1) ⟨P, k, d, x⟩ = ptF E n ⟨P, k, d, x⟩ a) := jn_pt (by rw [if_pos hib])
  clear his hib
  have hai : (a : Int) ≤ (n : Int) := by omega
  have HSEG : Hid (∀ W, Below w1.heap.size w1 W → EnR W b (a * 4 + 4) (n - a - 1) (fun k => E (a + 1 + k))) := fun W hW => by
    have := enR_from (HRD.out W hW) (a + 1) (n - a - 1) (by omega)
    rwa [show 0 + (a + 1) * 4 = a * 4 + 4 by omega] at this
  have h1 : ¬ cp - a = 1 := by omega
  have h4 : (1 : Int) ≤ ((cp - a : Nat) : Int) := by omega
  have h5 : (a : Int) ≤ (cp : Int) := by omega
  have h2 : ¬ cp = a := by omega
  have h3 : (1 : Int) ≤ ((n - a : Nat) : Int) := by omega
  go_wp2_with (go_at_call 81; refine HEN.out.mono ?_; rintro e w2 ⟨rfl, hl2⟩; have HB2 : Hid (Below w1.heap.size w1 w2) := hl2; obtain ⟨y0, y1, y2, y3⟩ := HX.out _ hl2; clear hl2)
  have HD1 : Hid (Below w1.heap.size w1 (w2.drew.alloc (.cells #[.string P, .int .i64 k, .string d, .bool x] 29))) := HB2.out.drew.alloc HB2.out.drew.size _
  have HD2 : Hid (Below w1.heap.size w1 (w2.alloc (.cells #[.string P, .int .i64 k, .string d, .bool x] 29)).drew) := (HB2.out.alloc HB2.out.size _).drew
  have S2 : BxE w2 eb P d k x := ⟨y0, y1, y2, y3⟩
  have HLA : Hid ((enC E a).length = a * 4) := enC_len E a
  have HLS : Hid ((enC (fun k => E (a + 1 + k)) (n - a - 1)).length = (n - a - 1) * 4) := enC_len _ _
  go_region_held3 (fun w' => w'.cell? ⟨eb, 0, none⟩ = some (.string P) ∧ w'.cell? ⟨eb, 1, none⟩ = some (.int .i64 k) ∧ w'.cell? ⟨eb, 2, none⟩ = some (.string d) ∧ w'.cell? ⟨eb, 3, none⟩ = some (.bool x))
    (first | go_keep | exact S2 | exact S3 | exact S4)
    (first
      | ((refine step_grow (by rfl) _ _ (by rfl) b 0 a a (enC E a) (by rfl) HLA.out (news_of (enR_mono (HRD.out _ (by first | exact HD1.out | exact HD2.out)) han)) ⟨w2.heap.size, 0, none⟩ 1 1 [.string P, .int .i64 k, .string d, .bool x] (by rfl) rfl (four_at _ _ rfl _ _ _ _ _) (by omega) (by omega) ?_; intro v3 w3 hown3 hg3; have HB3 : Below w1.heap.size w1 w3 := (by first | exact bel_none HD1.out hg3 HD1.out.size | exact bel_none HD2.out hg3 HD2.out.size); have S3 : BxE w3 eb P d k x := HX.out w3 HB3))
      | ((refine step_ent (by rfl) _ _ (by rfl) v3 (a + 1) _ (by rfl) hown3 hg3.size ⟨b, a * 4 + 4, none⟩ (n - a - 1) (cp - a - 1) (enC (fun k => E (a + 1 + k)) (n - a - 1)) (by rfl) HLS.out (news_of (HSEG.out _ HB3)) (one_enC _ _) (by omega) ?_; intro v4 w4 hown4 hg4; have HB4 : Below w1.heap.size w1 w4 := (HB3.grown hg4 HB3.size (fun q hq => Nat.le_trans (by first | exact HD1.out.size | exact HD2.out.size) (hown3.lt q hq).1)); have S4 : BxE w4 eb P d k x := HX.out w4 HB4)))
  have hen : enC E a ++ [.string P, .int .i64 k, .string d, .bool x] ++ enC (fun k => E (a + 1 + k)) (n - a - 1) = enC (jn E a (a + 1) ⟨P, k, d, x⟩) (a + 1 + (n - a - 1)) := enC_jn E a (a + 1) ⟨P, k, d, x⟩ ((n - a - 1))
  rw [hen] at hown4
  obtain ⟨g, c, f4, rfl, -, -, -, -, hE4⟩ := own_rowE hown4 (own_not_nil hown4 (fun e => by have := congrArg List.length e; rw [enC_len, List.length_nil] at this; omega))
  have HE4 : Hid (EnR w4 g 0 (a + 1 + (n - a - 1)) (jn E a (a + 1) ⟨P, k, d, x⟩)) := hE4
  have HM : Hid (a + 1 + (n - a - 1) = ptN E n ⟨P, k, d, x⟩ a) := by rw [HPN.out]; show _ = _; omega
  clear hown4 hown3 hg3 hg4 hE4 hen
  go_wp2_with fail
  go_ret
  refine ⟨⟨g, c, by rw [← HM.out]; rfl, ?_⟩, HUP.out _ HB4⟩
  rw [← HM.out, ← HPF.out]
  exact HE4.out

end Go.Proofs.YtaoimkjcaienbaaGreatDoor.tt

namespace Go.Proofs.YtaoimkjcaienbaaGreatDoor.tt
open Go.ChangeShapes Go.WideShapes Go.ChangeAt Go.RowKit Go.Deep
set_option linter.unusedVariables false
set_option linter.unusedSimpArgs false

set_option maxHeartbeats 4000000 in
set_option maxRecDepth 100000 in
theorem with_n2c (E : Nat → En) (b n cp a : Nat) (P d : ByteArray) (k : Int) (x : Bool) (w : World) (hR : EnR w b 0 n E) (hA : Asc E n) (hn : n ≤ 1000) (ha : Rk E n P.data.toList a) (his : ¬ Is E n P.data.toList a) (hna : n < cp) :
    Calls Tryz.prog 52 #[.slice (some ⟨b, 0, none⟩) n cp, .agg #[.string P, .int .i64 k, .string d, .bool x]] w fun r w' => (∃ g c, r = .returned (.slice (some ⟨g, 0, none⟩) (ptN E n ⟨P, k, d, x⟩ a) c) ∧ EnR w' g 0 (ptN E n ⟨P, k, d, x⟩ a) (ptF E n ⟨P, k, d, x⟩ a)) ∧ Below w.heap.size w w' := by
  have HER : Hid (EnR w b 0 n E) := hR
  have HRK : Hid (Rk E n P.data.toList a) := ha
  have HAS : Hid (Asc E n) := hA
  have han := ha.le
  clear hR hA ha
  go_enter Tryz.func52, Tryz.ntmps52
  go_upto_region 1 with fail
  obtain ⟨w1, hw1⟩ : ∃ W, W = w.alloc (.cells #[.string P, .int .i64 k, .string d, .bool x] 29) := ⟨_, rfl⟩
  obtain ⟨eb, heb⟩ : ∃ eb, eb = w.heap.size := ⟨_, rfl⟩
  have HX1 : Hid (BxE w1 eb P d k x) := by rw [hw1, heb]; exact bxE_new _ _ _ _ _ _
  have HB1 : Hid (Below w.heap.size w w1) := by rw [hw1]; exact (Below.refl _ _).alloc (Nat.le_refl _) _
  rw [← hw1, ← heb]
  clear hw1 heb
  have HX : Hid (∀ W, Below w1.heap.size w1 W → BxE W eb P d k x) := fun W hW => HX1.out.below hW
  have HUP : Hid (∀ W, Below w1.heap.size w1 W → Below w.heap.size w W) := fun W hW => HB1.out.trans (hW.mono HB1.out.size)
  have HEN : Hid (Calls Tryz.prog 81 #[.slice (some ⟨b, 0, none⟩) n cp, .string P] w1 fun e w' => e = .returned (.tuple #[.int .i64 (a : Int), .bool (isB E n P.data.toList a)]) ∧ Below w1.heap.size w1 w') := (enum_any E b 0 n cp P w1 (HER.out.below HB1.out) HAS.out (by omega)).mono fun e w' ⟨⟨a', h1, h2⟩, h3⟩ => ⟨by rw [h1, h2.uniq HRK.out], h3⟩
  have HRD : Hid (∀ W, Below w1.heap.size w1 W → EnR W b 0 n E) := fun W hW => HER.out.below (HUP.out W hW)
  obtain ⟨x0, x1, x2, x3⟩ := HX1.out
  have hib := isB_no his
  rw [hib] at HEN
  have HPN : Hid (ptN E n ⟨P, k, d, x⟩ a = n + 1) := by show _ = _; unfold ptN; rw [if_neg (by rw [hib]; decide)]
  have HPF : Hid (jn E a a ⟨P, k, d, x⟩ = ptF E n ⟨P, k, d, x⟩ a) := jn_pt (by rw [if_neg (by rw [hib]; decide)])
  clear his hib
  have hai : (a : Int) ≤ (n : Int) := by omega
  have h5 : (a : Int) ≤ (cp : Int) := by omega
  have h2 : ¬ cp = a := by omega
  have HSEG : Hid (∀ W, Below w1.heap.size w1 W → EnR W b (a * 4) (n - a) (fun k => E (a + k))) := fun W hW => by
    have := enR_from (HRD.out W hW) a (n - a) (by omega)
    rwa [Nat.zero_add] at this
  go_wp2_with (go_at_call 81; refine HEN.out.mono ?_; rintro e w2 ⟨rfl, hl2⟩; have HB2 : Hid (Below w1.heap.size w1 w2) := hl2; obtain ⟨y0, y1, y2, y3⟩ := HX.out _ hl2; clear hl2)
  have HD1 : Hid (Below w1.heap.size w1 (w2.drew.alloc (.cells #[.string P, .int .i64 k, .string d, .bool x] 29))) := HB2.out.drew.alloc HB2.out.drew.size _
  have HD2 : Hid (Below w1.heap.size w1 (w2.alloc (.cells #[.string P, .int .i64 k, .string d, .bool x] 29)).drew) := (HB2.out.alloc HB2.out.size _).drew
  have S2 : BxE w2 eb P d k x := ⟨y0, y1, y2, y3⟩
  have HLA : Hid ((enC E a).length = a * 4) := enC_len E a
  have HLS : Hid ((enC (fun k => E (a + k)) (n - a)).length = (n - a) * 4) := enC_len _ _
  go_region_held3 (fun w' => w'.cell? ⟨eb, 0, none⟩ = some (.string P) ∧ w'.cell? ⟨eb, 1, none⟩ = some (.int .i64 k) ∧ w'.cell? ⟨eb, 2, none⟩ = some (.string d) ∧ w'.cell? ⟨eb, 3, none⟩ = some (.bool x))
    (first | go_keep | exact S2 | exact S3 | exact S4)
    (first
      | ((refine step_grow (by rfl) _ _ (by rfl) b 0 a a (enC E a) (by rfl) HLA.out (news_of (enR_mono (HRD.out _ (by first | exact HD1.out | exact HD2.out)) han)) ⟨w2.heap.size, 0, none⟩ 1 1 [.string P, .int .i64 k, .string d, .bool x] (by rfl) rfl (four_at _ _ rfl _ _ _ _ _) (by omega) (by omega) ?_; intro v3 w3 hown3 hg3; have HB3 : Below w1.heap.size w1 w3 := (by first | exact bel_none HD1.out hg3 HD1.out.size | exact bel_none HD2.out hg3 HD2.out.size); have S3 : BxE w3 eb P d k x := HX.out w3 HB3))
      | ((refine step_ent (by rfl) _ _ (by rfl) v3 (a + 1) _ (by rfl) hown3 hg3.size ⟨b, a * 4, none⟩ (n - a) (cp - a) (enC (fun k => E (a + k)) (n - a)) (by rfl) HLS.out (news_of (HSEG.out _ HB3)) (one_enC _ _) (by omega) ?_; intro v4 w4 hown4 hg4; have HB4 : Below w1.heap.size w1 w4 := (HB3.grown hg4 HB3.size (fun q hq => Nat.le_trans (by first | exact HD1.out.size | exact HD2.out.size) (hown3.lt q hq).1)); have S4 : BxE w4 eb P d k x := HX.out w4 HB4)))
  have hen : enC E a ++ [.string P, .int .i64 k, .string d, .bool x] ++ enC (fun k => E (a + k)) (n - a) = enC (jn E a (a) ⟨P, k, d, x⟩) (a + 1 + (n - a)) := enC_jn E a (a) ⟨P, k, d, x⟩ ((n - a))
  rw [hen] at hown4
  obtain ⟨g, c, f4, rfl, -, -, -, -, hE4⟩ := own_rowE hown4 (own_not_nil hown4 (fun e => by have := congrArg List.length e; rw [enC_len, List.length_nil] at this; omega))
  have HE4 : Hid (EnR w4 g 0 (a + 1 + (n - a)) (jn E a (a) ⟨P, k, d, x⟩)) := hE4
  have HM : Hid (a + 1 + (n - a) = ptN E n ⟨P, k, d, x⟩ a) := by rw [HPN.out]; show _ = _; omega
  clear hown4 hown3 hg3 hg4 hE4 hen
  go_wp2_with fail
  go_ret
  refine ⟨⟨g, c, by rw [← HM.out]; rfl, ?_⟩, HUP.out _ HB4⟩
  rw [← HM.out, ← HPF.out]
  exact HE4.out

end Go.Proofs.YtaoimkjcaienbaaGreatDoor.tt

namespace Go.Proofs.YtaoimkjcaienbaaGreatDoor.tt
open Go.ChangeShapes Go.WideShapes Go.ChangeAt Go.RowKit Go.Deep
set_option linter.unusedVariables false
set_option linter.unusedSimpArgs false

/-! ### impl.PutEntry -/

theorem with_any (E : Nat → En) (b n cp a : Nat) (hcp : n ≤ cp) (P d : ByteArray) (k : Int) (x : Bool) (w : World) (hR : EnR w b 0 n E) (hA : Asc E n) (hn : n ≤ 1000) (ha : Rk E n P.data.toList a) :
    Calls Tryz.prog 52 #[.slice (some ⟨b, 0, none⟩) n cp, .agg #[.string P, .int .i64 k, .string d, .bool x]] w fun r w' => (∃ g c, r = .returned (.slice (some ⟨g, 0, none⟩) (ptN E n ⟨P, k, d, x⟩ a) c) ∧ EnR w' g 0 (ptN E n ⟨P, k, d, x⟩ a) (ptF E n ⟨P, k, d, x⟩ a)) ∧ Below w.heap.size w w' := by
  by_cases hce : cp = n
  · subst hce
    by_cases his : Is E cp P.data.toList a
    · by_cases hla : cp = a + 1
      · subst hla
        exact with_t1 E b a P d k x w hR hA hn ha his
      · exact with_t2 E b cp a P d k x w hR hA hn ha his hla
    · by_cases hna : cp = a
      · exact with_n1 E b cp a P d k x w hR hA hn ha his hna
      · exact with_n2 E b cp a P d k x w hR hA hn ha his hna
  · by_cases his : Is E n P.data.toList a
    · exact with_t2c E b n cp a P d k x w hR hA hn ha his (by omega)
    · exact with_n2c E b n cp a P d k x w hR hA hn ha his (by omega)

set_option maxHeartbeats 2000000 in
set_option maxRecDepth 100000 in
theorem iput_any (hC : ∀ E, AtC E) (E : Nat → En) (b n cp a : Nat) (hcp : n ≤ cp) (P d : ByteArray) (k : Int) (x : Bool) (w : World) (hR : EnR w b 0 n E) (hS : SmE n E) (hn : n ≤ 1048576) (hPs : P.size ≤ 1048576) (hds : d.size ≤ 1048576) (hm : ML w) (ha : treeB E n = true → Rk E n P.data.toList a) :
    Calls Tryz.prog 17 #[.slice (some ⟨b, 0, none⟩) n cp, .agg #[.string P, .int .i64 k, .string d, .bool x]] w fun r w' => (∃ v, r = .returned (.tuple #[v, .bool (puB E n ⟨P, k, d, x⟩ a)]) ∧ RowE w.heap.size w' v (puN E n ⟨P, k, d, x⟩ a) (puF E n ⟨P, k, d, x⟩ a)) ∧ Below w.heap.size w w' := by
  obtain ⟨w1, hw1⟩ : ∃ W, W = w.alloc (.cells #[.string P, .int .i64 k, .string d, .bool x] 29) := ⟨_, rfl⟩
  obtain ⟨eb, heb⟩ : ∃ eb, eb = w.heap.size := ⟨_, rfl⟩
  have HX1 : Hid (BxE w1 eb P d k x) := by rw [hw1, heb]; exact bxE_new _ _ _ _ _ _
  have HB1 : Hid (Below w.heap.size w w1) := by rw [hw1]; exact (Below.refl _ _).alloc (Nat.le_refl _) _
  have HX : Hid (∀ W, Below w1.heap.size w1 W → BxE W eb P d k x) := fun W hW => HX1.out.below hW
  have HUP : Hid (∀ W, Below w1.heap.size w1 W → Below w.heap.size w W) := fun W hW => HB1.out.trans (hW.mono HB1.out.size)
  have HRD : Hid (∀ W, Below w1.heap.size w1 W → EnR W b 0 n E) := fun W hW => hR.below (HUP.out W hW)
  have HTO : Hid (Calls Tryz.prog 20 #[.slice (some ⟨b, 0, none⟩) n cp] w1 fun e w' => e = .returned (.bool (treeB E n)) ∧ Below w1.heap.size w1 w') := itree_any E b 0 n cp w1 (HRD.out _ (Below.refl _ _)) hS hn (hm.below HB1.out) (hC E)
  have HML : Hid (∀ W, Below w1.heap.size w1 W → ML W) := fun W hW => hm.below (HUP.out W hW)
  have HSM : Hid (SmE n E) := hS
  have HCL : Hid (∀ W, Below w1.heap.size w1 W → Calls Tryz.prog 51 #[.slice (some ⟨b, 0, none⟩) n cp] W fun e w' => (∃ v, e = .returned v ∧ w'.ownsRow W.heap.size 29 4 v n (enC E n) ∧ v ≠ .slice none 0 0) ∧ Below W.heap.size W w') := fun W hW => cloned_any E b 0 n cp W (HRD.out W hW) HSM.out hn
  clear hR hS hm
  cases ht : treeB E n with
  | false =>
    have HPB : Hid (puB E n ⟨P, k, d, x⟩ a = false) := by show _ = _; unfold puB; rw [ht]; rfl
    have HPN : Hid (puN E n ⟨P, k, d, x⟩ a = 0) := by show _ = _; unfold puN; rw [if_neg (by rw [ht]; decide)]
    rw [ht] at HTO
    clear ht
    go_enter Tryz.func17, Tryz.ntmps17
    go_upto_region 1 with fail
    rw [← hw1, ← heb]
    clear hw1 heb
    go_wp2_with (go_at_call 20; refine HTO.out.mono ?_; rintro e w2 ⟨rfl, hl2⟩)
    go_ret2
    refine ⟨⟨_, by rw [HPB.out]; rfl, ?_⟩, (HUP.out _ hl2).alloc (HUP.out _ hl2).size _⟩
    rw [HPN.out]
    exact rowE_none w w2 (HUP.out _ hl2) _
  | true =>
    obtain ⟨hn5, hTr⟩ := treeB_is ht
    have hRK := ha ht
    have HTK : Hid (∀ W, Below w1.heap.size w1 W → Calls Tryz.prog 50 #[.slice (some ⟨b, 0, none⟩) n cp, .agg #[.string P, .int .i64 k, .string d, .bool x]] W fun r w' => r = .returned (.bool (tkB E n ⟨P, k, d, x⟩ a)) ∧ Below W.heap.size W w') := fun W hW => takes_any E b 0 n cp a P d k x W (HRD.out W hW) HSM.out ht hPs hds (HML.out W hW) hRK
    have HWI : Hid (∀ W, Below w1.heap.size w1 W → Calls Tryz.prog 52 #[.slice (some ⟨b, 0, none⟩) n cp, .agg #[.string P, .int .i64 k, .string d, .bool x]] W fun r w' => (∃ g c, r = .returned (.slice (some ⟨g, 0, none⟩) (ptN E n ⟨P, k, d, x⟩ a) c) ∧ EnR w' g 0 (ptN E n ⟨P, k, d, x⟩ a) (ptF E n ⟨P, k, d, x⟩ a)) ∧ Below W.heap.size W w') := fun W hW => with_any E b n cp a hcp P d k x W (HRD.out W hW) hTr.asc (by omega) hRK
    rw [ht] at HTO
    cases hk : tkB E n ⟨P, k, d, x⟩ a with
    | false =>
      rw [hk] at HTK
      have HPB : Hid (puB E n ⟨P, k, d, x⟩ a = false) := by show _ = _; unfold puB; rw [ht, hk]; rfl
      have HPN : Hid (puN E n ⟨P, k, d, x⟩ a = n) := by show _ = _; unfold puN; rw [if_pos ht, if_neg (by rw [hk]; decide)]
      have HPF : Hid (puF E n ⟨P, k, d, x⟩ a = E) := by show _ = _; unfold puF; rw [if_neg (by rw [hk]; decide)]
      clear hk ht hTr hRK ha
      go_enter Tryz.func17, Tryz.ntmps17
      go_upto_region 1 with fail
      rw [← hw1, ← heb]
      clear hw1 heb
      go_wp2_with (first
        | (go_at_call 20; refine HTO.out.mono ?_; rintro e w2 ⟨rfl, hl2⟩; obtain ⟨y0, y1, y2, y3⟩ := HX.out _ hl2)
        | (go_at_call 50; refine (HTK.out _ hl2).mono ?_; rintro e w3 ⟨rfl, hl3⟩; have hb3 : Below w1.heap.size w1 w3 := hl2.trans (hl3.mono hl2.size))
        | (go_at_call 51; refine (HCL.out _ hb3).mono ?_; rintro e w4 ⟨⟨v4, rfl, hown4, hv4⟩, hl4⟩; have HR4 : Hid (RowE w3.heap.size w4 v4 n E) := own_rowE hown4 hv4; clear hown4 hv4))
      go_ret2
      have hb4 := hb3.trans (hl4.mono hb3.size)
      refine ⟨⟨_, by rw [HPB.out]; rfl, ?_⟩, HUP.out _ hb4⟩
      rw [HPN.out, HPF.out]
      exact rowE_mono HR4.out (HUP.out _ hb3).size
    | true =>
      rw [hk] at HTK
      have HPB : Hid (puB E n ⟨P, k, d, x⟩ a = true) := by show _ = _; unfold puB; rw [ht, hk]; rfl
      have HPN : Hid (puN E n ⟨P, k, d, x⟩ a = ptN E n ⟨P, k, d, x⟩ a) := by show _ = _; unfold puN; rw [if_pos ht, if_pos hk]
      have HPF : Hid (puF E n ⟨P, k, d, x⟩ a = ptF E n ⟨P, k, d, x⟩ a) := by show _ = _; unfold puF; rw [if_pos hk]
      have HSP : Hid (SmE (ptN E n ⟨P, k, d, x⟩ a) (ptF E n ⟨P, k, d, x⟩ a)) := sm_pt HSM.out hPs hds hRK.le
      have HPL : Hid (ptN E n ⟨P, k, d, x⟩ a ≤ 1048576) := by have := ptN_le E n ⟨P, k, d, x⟩ a; show _ ≤ _; omega
      obtain ⟨m, hm'⟩ : ∃ m, ptN E n ⟨P, k, d, x⟩ a = m := ⟨_, rfl⟩
      obtain ⟨F, hF⟩ : ∃ F, ptF E n ⟨P, k, d, x⟩ a = F := ⟨_, rfl⟩
      rw [hm'] at HPN HSP HPL HWI
      rw [hF] at HPF HSP HWI
      clear hk ht hTr hRK ha hm' hF
      go_enter Tryz.func17, Tryz.ntmps17
      go_upto_region 1 with fail
      rw [← hw1, ← heb]
      clear hw1 heb
      go_wp2_with (first
        | (go_at_call 20; refine HTO.out.mono ?_; rintro e w2 ⟨rfl, hl2⟩; obtain ⟨y0, y1, y2, y3⟩ := HX.out _ hl2)
        | (go_at_call 50; refine (HTK.out _ hl2).mono ?_; rintro e w3 ⟨rfl, hl3⟩; have hb3 : Below w1.heap.size w1 w3 := hl2.trans (hl3.mono hl2.size); obtain ⟨z0, z1, z2, z3⟩ := HX.out _ hb3)
        | (go_at_call 52; refine (HWI.out _ hb3).mono ?_; rintro e w4 ⟨⟨g4, c4, rfl, hE4⟩, hl4⟩; have HE4 : Hid (EnR w4 g4 0 m F) := hE4; clear hE4; have hb4 : Below w1.heap.size w1 w4 := hb3.trans (hl4.mono hb3.size))
        | (go_at_call 51; refine (cloned_any F g4 0 m c4 w4 HE4.out HSP.out HPL.out).mono ?_; rintro e w5 ⟨⟨v5, rfl, hown5, hv5⟩, hl5⟩; have HR5 : Hid (RowE w4.heap.size w5 v5 m F) := own_rowE hown5 hv5; clear hown5 hv5))
      go_ret2
      have hb5 := hb4.trans (hl5.mono hb4.size)
      refine ⟨⟨_, by rw [HPB.out]; rfl, ?_⟩, HUP.out _ hb5⟩
      rw [HPN.out, HPF.out]
      exact rowE_mono HR5.out (HUP.out _ hb4).size

end Go.Proofs.YtaoimkjcaienbaaGreatDoor.tt

namespace Go.Proofs.YtaoimkjcaienbaaGreatDoor.tt
open Go.ChangeShapes Go.WideShapes Go.ChangeAt Go.RowKit Go.Deep
set_option linter.unusedVariables false
set_option linter.unusedSimpArgs false

/-! ### TreeSum: both sides; the law's walk -/

def inL (l : List UInt8) : List Int := l.map fun b => (b.toNat : Int)
def sumX (l : List UInt8) : Int := sm.lastS (sm.sumS (inL l) 14695981039346656037 l.length)
theorem sumX_wf (l : List UInt8) : 0 ≤ sumX l ∧ sumX l ≤ 18446744073709551615 := by
  have h := wf_bits BinOp.xor .u64 (sm.turnS (sm.sumS (inL l) 14695981039346656037 l.length) 3) (sm.turnS (sm.sumS (inL l) 14695981039346656037 l.length) 3 / 4294967296)
  have e : sumX l = bits BinOp.xor .u64 (sm.turnS (sm.sumS (inL l) 14695981039346656037 l.length) 3) (sm.turnS (sm.sumS (inL l) 14695981039346656037 l.length) 3 / 4294967296) := rfl
  rw [← e] at h
  simpa [Lit.wf, IntKind.min, IntKind.max, IntKind.signed, IntKind.bits] using h

theorem wspec {x : Int} (h : 0 ≤ x ∧ x ≤ 18446744073709551615) (w : World) :
    Calls Tryz.prog 121 #[.int .u64 x] w fun e w' => e = .returned (.string (wd.wordA x.toNat)) ∧ Below w.heap.size w w' := by
  obtain ⟨X, rfl⟩ := Int.eq_ofNat_of_zero_le h.1
  exact wd.spec_any X (by omega) w
theorem wimpl {x : Int} (h : 0 ≤ x ∧ x ≤ 18446744073709551615) (w : World) (hT : wd.Tab w) :
    Calls Tryz.prog 12 #[.int .u64 x] w fun e w' => e = .returned (.string (wd.wordA x.toNat)) ∧ Below w.heap.size w w' := by
  obtain ⟨X, rfl⟩ := Int.eq_ofNat_of_zero_le h.1
  exact wd.impl_any X (by omega) w hT

theorem bs_of {base : Nat} {w : World} {g cap : Nat} {l : List UInt8} (h : bf.Bf base w g cap l) : sm.Bs w (some ⟨g, 0, none⟩) l.length (inL l) :=
  .inr ⟨g, 0, rfl, fun i hi => by rw [Nat.zero_add, h.cells i hi]; simp [inL, hi]⟩

/-- What TreeSum answers. -/
noncomputable def tsB (E : Nat → En) (n : Nat) : ByteArray := if treeB E n = true then wd.wordA (sumX (pkB E n)).toNat else ⟨#[]⟩
theorem tsB_yes {E : Nat → En} {n : Nat} (h : treeB E n = true) : tsB E n = wd.wordA (sumX (pkB E n)).toNat := by unfold tsB; rw [if_pos h]
theorem tsB_no {E : Nat → En} {n : Nat} (h : treeB E n = false) : tsB E n = ⟨#[]⟩ := by unfold tsB; rw [if_neg (by rw [h]; simp)]

theorem pkB_len {E : Nat → En} {n : Nat} (hS : SmE n E) : (pkB E n).length ≤ 1099511627776 := by
  cases h : treeB E n with
  | false => rw [pkB_no h]; simp
  | true =>
    have h5 := (treeB_tr' h).1
    have h1 := pkL_len hS n (Nat.le_refl _)
    have h2 := hd_len h5
    rw [pkB_yes h, List.length_append]
    omega
theorem pkB_pos {E : Nat → En} {n : Nat} (h : treeB E n = true) : 0 < (pkB E n).length := by rw [pkB_yes h]; simp [hd]

set_option maxRecDepth 100000 in
theorem itsum_any (E : Nat → En) (b o n cap : Nat) (w : World) (hR : EnR w b o n E) (hS : SmE n E) (hn : n ≤ 1048576) (hm : ML w) (hC : AtC E) (hT : wd.Tab w) :
    Calls Tryz.prog 11 #[.slice (some ⟨b, o, none⟩) n cap] w fun e w' => e = .returned (.string (tsB E n)) ∧ Below w.heap.size w w' := by
  have HP : Hid (Calls Tryz.prog 7 #[.slice (some ⟨b, o, none⟩) n cap] w fun e w' => (∃ g c z, e = .returned (.slice (some ⟨g, 0, none⟩) z c) ∧ Pkd w w' (pkB E n) g c z) ∧ Below w.heap.size w w') := ipack_any E b o n cap w hR hS hn hm hC
  have HL : Hid ((pkB E n).length ≤ 1099511627776) := pkB_len hS
  have HT : Hid (wd.Tab w) := hT
  clear hR hS hm hC hT
  cases ht : treeB E n with
  | false =>
    have HE : Hid (tsB E n = ⟨#[]⟩) := tsB_no ht
    have HN : Hid ((pkB E n).length = 0) := by show _ = _; rw [pkB_no ht]; rfl
    clear ht
    go_enter Tryz.func11, Tryz.ntmps11
    go_wp2_with (go_at_call 7; refine HP.out.mono ?_; rintro e w2 ⟨⟨g, c, z, rfl, hz, hbf⟩, hl2⟩; obtain rfl : z = 0 := hz.trans HN.out)
    go_ret
    exact ⟨ret_str HE.out.symm, hl2⟩
  | true =>
    have HE : Hid (tsB E n = wd.wordA (sumX (pkB E n)).toNat) := tsB_yes ht
    have HN : Hid (0 < (pkB E n).length) := pkB_pos ht
    clear ht
    go_enter Tryz.func11, Tryz.ntmps11
    go_wp2_with (go_at_call 7; refine HP.out.mono ?_; rintro e w2 ⟨⟨g, c, z, rfl, rfl, hbf⟩, hl2⟩; refine Hid.out ?_)
    refine Lib.hid ?_
    have HSU : Hid (Calls Tryz.prog 13 #[.slice (some ⟨g, 0, none⟩) (pkB E n).length c] w2 fun e w' => e = .returned (.int .u64 (sumX (pkB E n))) ∧ w' = w2) := sm.impl_any _ _ _ _ _ (bs_of hbf) HL.out
    have HT2 : Hid (wd.Tab w2) := HT.out.below hl2
    have HX : Hid (0 ≤ sumX (pkB E n) ∧ sumX (pkB E n) ≤ 18446744073709551615) := sumX_wf _
    obtain ⟨X, hX⟩ : ∃ X, X = sumX (pkB E n) := ⟨_, rfl⟩
    obtain ⟨Z, hZ⟩ : ∃ Z, Z = (pkB E n).length := ⟨_, rfl⟩
    rw [← hX] at HSU HX HE
    rw [← hZ] at HSU HN ⊢
    have hne : ((Z : Int) == 0) = false := by have := HN.out; rw [beq_eq_false_iff_ne]; omega
    have hne' : ¬ Z = 0 := by have := HN.out; omega
    clear hbf hX hZ
    go_wp2_with (first
      | (go_at_call 13; refine HSU.out.mono ?_; rintro e w3 ⟨rfl, rfl⟩)
      | (go_at_call 12; refine (wimpl HX.out _ HT2.out).mono ?_; rintro e w4 ⟨rfl, hl4⟩))
    go_ret
    exact ⟨ret_str HE.out.symm, hl2.trans (hl4.mono hl2.size)⟩

end Go.Proofs.YtaoimkjcaienbaaGreatDoor.tt

namespace Go.Proofs.YtaoimkjcaienbaaGreatDoor.tt
open Go.ChangeShapes Go.WideShapes Go.ChangeAt Go.RowKit Go.Deep
set_option linter.unusedVariables false
set_option linter.unusedSimpArgs false

/-! ### CutEntry: the program's side, plainly: the numbers that go, one behind the other -/

theorem und_blw {x d : List UInt8} : Und x d ↔ Blw x d := by
  constructor
  · rintro ⟨t, rfl⟩
    exact ⟨t, by simp⟩
  · rintro ⟨r, rfl⟩
    exact ⟨r, by simp⟩
theorem stay_iff {E : Nat → En} {n i j : Nat} {q : List UInt8} (hA : Asc E n) (hi : i < n) (hj : j < n) (hq : pth E j = q) : stayB E q i = true ↔ ¬ InS E j i := by
  unfold stayB InS
  rw [Bool.and_eq_true, Bool.not_eq_true', Bool.not_eq_true', decide_eq_false_iff_not, decide_eq_false_iff_not, und_blw, ← hq, not_or]
  exact and_congr_left fun _ => ⟨fun h e => h (by rw [e]), fun h e => h (asc_one hA hi hj e)⟩
/-- How many have gone. -/
noncomputable def goL (E : Nat → En) (j i : Nat) : List Nat := (List.range i).filter fun k => @decide (InS E j k) (Classical.propDecidable _)
theorem go_all (E : Nat → En) (n j : Nat) : goL E j n = subL E n j := rfl
theorem go_succ (E : Nat → En) (j i : Nat) : (InS E j i → goL E j (i + 1) = goL E j i ++ [i]) ∧ (¬ InS E j i → goL E j (i + 1) = goL E j i) := by
  unfold goL
  rw [List.range_succ, List.filter_append]
  exact ⟨fun h => by rw [List.filter_cons_of_pos (by simpa using h), List.filter_nil], fun h => by rw [List.filter_cons_of_neg (by simpa using h), List.filter_nil, List.append_nil]⟩
theorem go_pre (E : Nat → En) (j : Nat) {i n : Nat} (h : i ≤ n) : goL E j i <+: goL E j n := by
  unfold goL
  obtain ⟨d, rfl⟩ := Nat.le.dest h
  rw [List.range_add, List.filter_append]
  exact List.prefix_append _ _
theorem go_at {E : Nat → En} {j i n : Nat} (hi : i < n) (h : InS E j i) : (subL E n j)[(goL E j i).length]? = some i := by
  obtain ⟨t, ht⟩ := go_pre E j (show i + 1 ≤ n by omega)
  rw [go_all E n j, (go_succ E j i).1 h] at ht
  rw [← ht, List.append_assoc, List.getElem?_append_right (Nat.le_refl _), Nat.sub_self]
  rfl
theorem go_lt {E : Nat → En} {j i n : Nat} (hi : i < n) (h : InS E j i) : (goL E j i).length < (subL E n j).length := (List.getElem?_eq_some_iff.1 (go_at hi h)).1
theorem go_not {E : Nat → En} {j i n x : Nat} (hi : i < n) (h : ¬ InS E j i) (hx : (subL E n j)[(goL E j i).length]? = some x) : x ≠ i := by
  rintro rfl
  exact h (mem_sub.1 (List.mem_of_getElem? hx)).2
theorem sub_le (E : Nat → En) (n j : Nat) : (subL E n j).length ≤ n := by
  have := List.length_filter_le (fun k => @decide (InS E j k) (Classical.propDecidable _)) (List.range n)
  rwa [List.length_range] at this
theorem sel_sm {E : Nat → En} {n : Nat} (hS : SmE n E) (q : List UInt8) : SmE (stL E q n).length (selE E (stL E q n)) := fun k hk => by
  have hm : (stL E q n).getD k 0 ∈ stL E q n := by rw [List.getD_eq_getElem?_getD, List.getElem?_eq_getElem hk]; exact List.getElem_mem hk
  exact hS _ (List.mem_range.1 (List.mem_filter.1 hm).1)

end Go.Proofs.YtaoimkjcaienbaaGreatDoor.tt
