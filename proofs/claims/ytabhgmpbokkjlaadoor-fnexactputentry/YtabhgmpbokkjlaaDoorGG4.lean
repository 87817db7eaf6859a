import Derived.Test.YtabhgmpbokkjlaaDoorGF
namespace Go.Proofs.YtabhgmpbokkjlaaDoor.tt
open Go.ChangeShapes Go.WideShapes Go.ChangeAt Go.RowKit Go.Deep
set_option linter.unusedVariables false
set_option linter.unusedSimpArgs false

set_option maxHeartbeats 4000000 in
set_option maxRecDepth 100000 in
theorem with_n2 (E : Nat → En) (b n a : Nat) (P d : ByteArray) (k : Int) (x : Bool) (w : World) (hR : EnR w b 0 n E) (hA : Asc E n) (hn : n ≤ 1000) (ha : Rk E n P.data.toList a) (his : ¬ Is E n P.data.toList a) (hna : ¬ n = a) :
    Calls Tryd.prog 29 #[.slice (some ⟨b, 0, none⟩) n n, .agg #[.string P, .int .i64 k, .string d, .bool x]] w fun r w' => (∃ g c, r = .returned (.slice (some ⟨g, 0, none⟩) (ptN E n ⟨P, k, d, x⟩ a) c) ∧ EnR w' g 0 (ptN E n ⟨P, k, d, x⟩ a) (ptF E n ⟨P, k, d, x⟩ a)) ∧ Below w.heap.size w w' := by
  have HER : Hid (EnR w b 0 n E) := hR
  have HRK : Hid (Rk E n P.data.toList a) := ha
  have HAS : Hid (Asc E n) := hA
  have han := ha.le
  clear hR hA ha
  go_enter Tryd.func29, Tryd.ntmps29
  go_upto_region 1 with fail
  obtain ⟨w1, hw1⟩ : ∃ W, W = w.alloc (.cells #[.string P, .int .i64 k, .string d, .bool x] 31) := ⟨_, rfl⟩
  obtain ⟨eb, heb⟩ : ∃ eb, eb = w.heap.size := ⟨_, rfl⟩
  have HX1 : Hid (BxE w1 eb P d k x) := by rw [hw1, heb]; exact bxE_new _ _ _ _ _ _
  have HB1 : Hid (Below w.heap.size w w1) := by rw [hw1]; exact (Below.refl _ _).alloc (Nat.le_refl _) _
  rw [← hw1, ← heb]
  clear hw1 heb
  have HX : Hid (∀ W, Below w1.heap.size w1 W → BxE W eb P d k x) := fun W hW => HX1.out.below hW
  have HUP : Hid (∀ W, Below w1.heap.size w1 W → Below w.heap.size w W) := fun W hW => HB1.out.trans (hW.mono HB1.out.size)
  have HEN : Hid (Calls Tryd.prog 48 #[.slice (some ⟨b, 0, none⟩) n n, .string P] w1 fun e w' => e = .returned (.tuple #[.int .i64 (a : Int), .bool (isB E n P.data.toList a)]) ∧ Below w1.heap.size w1 w') := (enum_any E b 0 n n P w1 (HER.out.below HB1.out) HAS.out (by omega)).mono fun e w' ⟨⟨a', h1, h2⟩, h3⟩ => ⟨by rw [h1, h2.uniq HRK.out], h3⟩
  have HRD : Hid (∀ W, Below w1.heap.size w1 W → EnR W b 0 n E) := fun W hW => HER.out.below (HUP.out W hW)
  obtain ⟨x0, x1, x2, x3⟩ := HX1.out
  have hib := isB_no his
  rw [hib] at HEN
  have HPN : Hid (ptN E n ⟨P, k, d, x⟩ a = n + 1) := by show _ = _; unfold ptN; rw [if_neg (by rw [hib]; decide)]
  have HPF : Hid (jn E a a ⟨P, k, d, x⟩ = ptF E n ⟨P, k, d, x⟩ a) := jn_pt (by rw [if_neg (by rw [hib]; decide)])
  clear his hib
  have hai : (a : Int) ≤ (n : Int) := by omega
  have HSEG : Hid (∀ W, Below w1.heap.size w1 W → EnR W b (a * 4) (n - a) (fun k => E (a + k))) := fun W hW => by
    have := enR_from (HRD.out W hW) a (n - a) (by omega)
    rwa [Nat.zero_add] at this
  go_wp2_with (go_at_call 48; refine HEN.out.mono ?_; rintro e w2 ⟨rfl, hl2⟩; have HB2 : Hid (Below w1.heap.size w1 w2) := hl2; obtain ⟨y0, y1, y2, y3⟩ := HX.out _ hl2; clear hl2)
  have HD1 : Hid (Below w1.heap.size w1 (w2.drew.alloc (.cells #[.string P, .int .i64 k, .string d, .bool x] 31))) := HB2.out.drew.alloc HB2.out.drew.size _
  have HD2 : Hid (Below w1.heap.size w1 (w2.alloc (.cells #[.string P, .int .i64 k, .string d, .bool x] 31)).drew) := (HB2.out.alloc HB2.out.size _).drew
  have S2 : BxE w2 eb P d k x := ⟨y0, y1, y2, y3⟩
  have HLA : Hid ((enC E a).length = a * 4) := enC_len E a
  have HLS : Hid ((enC (fun k => E (a + k)) (n - a)).length = (n - a) * 4) := enC_len _ _
  go_region_held3 (fun w' => w'.cell? ⟨eb, 0, none⟩ = some (.string P) ∧ w'.cell? ⟨eb, 1, none⟩ = some (.int .i64 k) ∧ w'.cell? ⟨eb, 2, none⟩ = some (.string d) ∧ w'.cell? ⟨eb, 3, none⟩ = some (.bool x))
    (first | go_keep | exact S2 | exact S3 | exact S4)
    (first
      | ((refine step_grow (by rfl) _ _ (by rfl) b 0 a a (enC E a) (by rfl) HLA.out (news_of (enR_mono (HRD.out _ (by first | exact HD1.out | exact HD2.out)) han)) ⟨w2.heap.size, 0, none⟩ 1 1 [.string P, .int .i64 k, .string d, .bool x] (by rfl) rfl (four_at _ _ rfl _ _ _ _ _) (by omega) (by omega) ?_; intro v3 w3 hown3 hg3; have HB3 : Below w1.heap.size w1 w3 := (by first | exact bel_none HD1.out hg3 HD1.out.size | exact bel_none HD2.out hg3 HD2.out.size); have S3 : BxE w3 eb P d k x := HX.out w3 HB3))
      | ((refine step_ent (by rfl) _ _ (by rfl) v3 (a + 1) _ (by rfl) hown3 hg3.size ⟨b, a * 4, none⟩ (n - a) (n - a) (enC (fun k => E (a + k)) (n - a)) (by rfl) HLS.out (news_of (HSEG.out _ HB3)) (one_enC _ _) (by omega) ?_; intro v4 w4 hown4 hg4; have HB4 : Below w1.heap.size w1 w4 := (HB3.grown hg4 HB3.size (fun q hq => Nat.le_trans (by first | exact HD1.out.size | exact HD2.out.size) (hown3.lt q hq).1)); have S4 : BxE w4 eb P d k x := HX.out w4 HB4)))
  have hen : enC E a ++ [.string P, .int .i64 k, .string d, .bool x] ++ enC (fun k => E (a + k)) (n - a) = enC (jn E a (a) ⟨P, k, d, x⟩) (a + 1 + (n - a)) := enC_jn E a (a) ⟨P, k, d, x⟩ ((n - a))
  rw [hen] at hown4
  obtain ⟨g, c, f4, rfl, -, -, -, -, hE4⟩ := own_rowE hown4 (own_not_nil hown4 (fun e => by have := congrArg List.length e; rw [enC_len, List.length_nil] at this; omega))
  have HE4 : Hid (EnR w4 g 0 (a + 1 + (n - a)) (jn E a (a) ⟨P, k, d, x⟩)) := hE4
  have HM : Hid (a + 1 + (n - a) = ptN E n ⟨P, k, d, x⟩ a) := by rw [HPN.out]; show _ = _; omega
  clear hown4 hown3 hg3 hg4 hE4 hen
  go_wp2_with fail
  go_ret
  refine ⟨⟨g, c, by rw [← HM.out]; rfl, ?_⟩, HUP.out _ HB4⟩
  rw [← HM.out, ← HPF.out]
  exact HE4.out

end Go.Proofs.YtabhgmpbokkjlaaDoor.tt
