import Derived.Test.YtjjndaiojilhiaaDoorNBB
namespace Go.Proofs.YtjjndaiojilhiaaDoor.nb
open Go.RowKit Go.Shelf Go.Proofs.YtjjndaiojilhiaaDoor.rt Go.Proofs.YtjjndaiojilhiaaDoor.tt Go.Maps Go.Sort
attribute [local go_sem] Oper.semAt_some
set_option linter.unusedVariables false
set_option linter.unusedSimpArgs false

/-! ### numbers$1: the iterator -/

theorem Kq.drew {n0 C : Nat} {A D : World} (h : Kq n0 C A D) : Kq n0 C A D.drew := ⟨h.bel.drew, h.our, h.rc⟩
theorem Kq.undrew {n0 C : Nat} {A D : World} (h : Kq n0 C A.drew D) : Kq n0 C A D := ⟨((Below.refl _ A).drew).trans h.bel, h.our, h.rc⟩

set_option maxRecDepth 100000 in
set_option maxHeartbeats 4000000 in
theorem num_seq {E : Nat → En} {n rb rm N : Nat} {B M : Nat → Nat} (hT : Tr E n) {wB : World} (hBr : Br wB E n rb rm N B M) :
    ∀ (d j : Nat), j < n → n - j ≤ d → ∀ (bx : Nat) (w : World), Below wB.heap.size wB w → w.heap[bx]? = some (.cells #[.pointer (some ⟨B j, 0, none⟩)] 40 (0, 0)) →
      SeqO Tryd.prog 36 #[.pointer (some ⟨bx, 0, none⟩)] wB.heap.size (fun xs => xs.Perm (ints (subL E n j))) (subL E n j).length w := by
  intro d
  induction d with
  | zero => intro j hj hd; omega
  | succ d ih =>
  intro j hj hd bx w hB hbx n' l J W hK hsz hl hOwn hY h0
  have hb0 : Below wB.heap.size wB W := hB.trans hK.bel
  have hbxW := hK.our bx _ hbx (.inr ⟨_, _, rfl, .inr rfl⟩)
  have hBrW : ∀ W', Below wB.heap.size wB W' → Br W' E n rb rm N B M := fun W' h => hBr.below h
  have hin : j ∈ subL E n j := mem_sub.2 ⟨hj, .inl rfl⟩
  have hpos : 0 < (subL E n j).length := List.length_pos_of_mem hin
  refine callsIn_wide.2 ((callsIn_wide (n := 3)).1 ?_)
  have hY' : ∀ pre x W1, J pre W1 → pre.length < (subL E n j).length → YieldAt Fence.wide (3 - 1) Tryd.prog l #[.int .i64 x] W1 fun e W' => e = .returned (.bool true) ∧ J (pre ++ [x]) W' ∧ Kq wB.heap.size W.heap.size W1 W' := fun pre x W1 h1 h2 => yield_wide (hY pre x W1 h1 h2)
  clear hY
  have HY : Hid (∀ pre x W1, J pre W1 → pre.length < (subL E n j).length → YieldAt Fence.wide (3 - 1) Tryd.prog l #[.int .i64 x] W1 fun e W' => e = .returned (.bool true) ∧ J (pre ++ [x]) W' ∧ Kq wB.heap.size W.heap.size W1 W') := hY'
  clear hY'
  have HBR : Hid (∀ W', Below wB.heap.size wB W' → Br W' E n rb rm N B M) := hBrW
  have HIH : Hid (∀ (j : Nat), j < n → n - j ≤ d → ∀ (bx : Nat) (w : World), Below wB.heap.size wB w → w.heap[bx]? = some (.cells #[.pointer (some ⟨B j, 0, none⟩)] 40 (0, 0)) →
      SeqO Tryd.prog 36 #[.pointer (some ⟨bx, 0, none⟩)] wB.heap.size (fun xs => xs.Perm (ints (subL E n j))) (subL E n j).length w) := ih
  have HOWN : Hid (OwnFrom W.heap.size J) := hOwn
  have HBW : Hid (Below wB.heap.size wB W) := hb0
  have HPOS : Hid (0 < (subL E n j).length) := hpos
  clear ih hBrW hOwn hin hpos hBr hK hB hbx
  refine callsIn_of_wp_marks Tryd.func36 rfl trivial ?_ rfl
  simp only [Tryd.ntmps36, List.size_toArray, List.length_cons, List.length_nil, Nat.reduceAdd, Nat.reduceSub, Array.replicate_succ, Array.replicate_zero, List.push_toArray, List.append_toArray, List.nil_append, List.cons_append]
  gi_wp2
  have hm : Tryd.prog.follows .mixedOrders = true := by kernel_rfl
  have hm2 : Tryd.prog.follows .lateStores = true := by kernel_rfl
  have hbp : (W.alloc (.cells #[.func (.yield l) #[] #[]] 57)).heap[W.heap.size]? = some (.cells #[.func (.yield l) #[] #[]] 57 (0, 0)) := World.alloc_heap_new W _
  have hbb : (W.alloc (.cells #[.func (.yield l) #[] #[]] 57)).heap[bx]? = some (.cells #[.pointer (some ⟨B j, 0, none⟩)] 40 (0, 0)) := (Below.heap_alloc W _ bx (Array.getElem?_eq_some_iff.1 hbxW).1).trans hbxW
  have hb1 : Below wB.heap.size wB (W.alloc (.cells #[.func (.yield l) #[] #[]] 57)) := HBW.out.alloc HBW.out.size _
  have hj1 : J [] (W.alloc (.cells #[.func (.yield l) #[] #[]] 57)) := HOWN.out.alloc _ h0
  have hs1 : (W.alloc (.cells #[.func (.yield l) #[] #[]] 57)).heap.size = W.heap.size + 1 := by simp
  obtain ⟨W1, hW1⟩ : ∃ W1, W.alloc (.cells #[.func (.yield l) #[] #[]] 57) = W1 := ⟨_, rfl⟩
  rw [hW1] at hbp hbb hb1 hj1 hs1 ⊢
  clear hW1
  have hc0 := (HBR.out W1 hb1).num j hj
  have hcp : W1.cell? ⟨W.heap.size, 0, none⟩ = some (.func (.yield l) #[] #[]) := by simp [World.cell?, hbp]
  have hcb : W1.cell? ⟨bx, 0, none⟩ = some (.pointer (some ⟨B j, 0, none⟩)) := by simp [World.cell?, hbb]
  obtain ⟨fn, tmps, assign, body, hy, hR⟩ := HY.out [] (j : Int) W1.drew (HOWN.out _ _ _ none hj1 ⟨rfl, rfl, rfl, Nat.le_refl _, fun _ _ _ => rfl⟩ (fun r e => by cases e)) HPOS.out
  refine wpIn_mono (Q := Exit.then (fun a' W2 => (∃ x7 x8 x9, a' = { tmps := #[.func (.yield l) #[] #[], .pointer (some ⟨bx, 0, none⟩), .pointer (some ⟨W.heap.size, 0, none⟩), undef, undef, undef, .func (.yield l) #[] #[], x7, x8, x9, .int .i64 (j : Int), .bool true, .bool false, undef, undef, undef, undef, undef, undef, undef, undef, undef, undef, undef, undef, undef, undef, undef, undef], defers := [] }) ∧ J [(j : Int)] W2 ∧ Kq wB.heap.size W.heap.size W1 W2) (fun _ _ _ => False)) ?_ ?_
  · gi_region_with_o (refine hR.mono ?_; rintro e W3 ⟨rfl, hJ3, hk3⟩)
    all_goals exact ⟨⟨_, _, _, rfl⟩, hJ3, hk3.undrew⟩
  clear hR hy
  intro e a' W2 h
  have he : e = .normal := by cases e <;> first | rfl | exact h.elim
  subst he
  obtain ⟨⟨x7, x8, x9, rfl⟩, hJ2, hk2⟩ := h
  have hbp2 := hk2.our _ _ hbp (.inr ⟨_, _, rfl, .inl rfl⟩)
  have hbb2 := hk2.our _ _ hbb (.inr ⟨_, _, rfl, .inr rfl⟩)
  have hb2 := hb1.trans hk2.bel
  have hcb2 : W2.cell? ⟨bx, 0, none⟩ = some (.pointer (some ⟨B j, 0, none⟩)) := by simp [World.cell?, hbb2]
  have hs2 := hk2.bel.size
  clear hbp hbb hb1 hj1 hc0 hcp hcb hk2
  by_cases hkd : (E j).kind = 1
  · obtain ⟨hcm, D, hown, hat0, hnz⟩ := (HBR.out W2 hb2).dir j hj hkd
    gi_wp2_with (first
      | (gi_at_range; refine wpListIn_range_own _ rfl _ 58 rfl 9 40 (string_keyed Tryd.underlying9) Tryd.underlying58 rdP (M j) N _ rfl hown ?_; intro W4 hrg4 hg4 hs4)
      | gi_in)
    refine wpIn_loop (I := fun a W5 => ∃ x4 x18 x19 x20 x21 x22 x23 ds, a = { tmps := #[.func (.yield l) #[] #[], .pointer (some ⟨bx, 0, none⟩), .pointer (some ⟨W.heap.size, 0, none⟩), undef, x4, undef, .func (.yield l) #[] #[], x7, x8, x9, .int .i64 (j : Int), .bool true, .bool false, .pointer (some ⟨B j, 0, none⟩), .pointer (some ⟨B j, 0, none⟩), .pointer (some ⟨B j, 1, none⟩), .map (some (M j)), .pointer (some ⟨W2.heap.size, 0, none⟩), x18, x19, x20, x21, x22, x23, undef, undef, undef, undef, undef], defers := ds } ∧ Marks W.heap.size W5 ds ∧ Below wB.heap.size wB W5 ∧ W5.heap[W.heap.size]? = some (.cells #[.func (.yield l) #[] #[]] 57 (0, 0)) ∧ W.heap.size ≤ W5.heap.size ∧
      ∃ left cnt ss pre, W5.ranges Tryd.prog 9 rdP (M j) W2.heap.size N D left cnt ∧ Collected D left ss ∧ pre.Perm (ints (seenL E n j (ss.map (kidB E n j)))) ∧ J pre W5) (fun _ W5 => W5.rangeLeft (M j) W2.heap.size) ?start ?round
    case start =>
      refine ⟨_, _, _, _, _, _, _, [], rfl, trivial, ?_, ?_, by omega, _, _, [], [(j : Int)], hrg4, Collected.start D, ?_, HOWN.out _ _ _ none hJ2 hg4 (fun r e => by cases e)⟩
      · exact hb2.grown hg4 hb2.size (fun j e => by cases e)
      · exact (hg4.block _ (by omega) (by simp)).trans hbp2
      · exact List.Perm.refl _
    case round =>
      rintro a W5 ⟨x4, x18, x19, x20, x21, x22, x23, ds, rfl, hmk, hb5, hbp5, hs5, left, cnt, ss, pre, hrg, hC, hpp, hJ5⟩
      have HMK : Hid (Marks W.heap.size W5 ds) := hmk
      have HPP : Hid (pre.Perm (ints (seenL E n j (ss.map (kidB E n j))))) := hpp
      have HC : Hid (Collected D left ss) := hC
      have HNZ : Hid (∀ x, Maps.has D (.string x) = true → fM E B n (pth E j ++ [47]) x ≠ 0) := hnz
      have HSA : Hid (∀ ks : List Nat, (∀ c, c ∈ ks ↔ Kid E n j c) → ks.Nodup → (seenL E n j ks).Perm (subL E n j)) := fun ks h1 h2 => seen_all hT hj h1 h2
      clear hmk hpp hC
      gi_wp2_with (first
        | (gi_at_next; refine wpListIn_next_ranges _ rfl _ rfl 9 (string_keyed Tryd.underlying9) rdP encStr id (fun key kl hk => by obtain ⟨x, hx, _⟩ := Maps.keyOf_str Tryd.underlying9 hk; exact ⟨x, hx⟩) (fun v _ _ => ⟨v, rfl⟩) (M j) W2.heap.size N _ _ _ rfl hrg ?_ ?_)
        | gi_in)
      · intro hc0 hl0
        gi_wp2
        exact leaves_marks (I := J pre) (fun W D h hC hD => HOWN.out.putObj _ h hC hD rfl) (fun W => results_none rfl _ _ _) (fun W h => ⟨⟨_, rfl⟩, pre, HPP.out.trans (ints_perm (HSA.out _ (kids_all hT.asc HC.out HNZ.out hat0 hl0) (kids_of hT.asc HC.out HNZ.out).1)), h⟩) HMK.out hJ5
      · intro x c kl y1 ps w2 cnt2 hkey hlk hv hat hrg2 hlt hg2 hsz2 hen
        obtain ⟨x', ex, rfl, hxl⟩ := Maps.keyOf_str Tryd.underlying9 hkey
        obtain rfl : x = x' := encStr_inj ex
        obtain ⟨hkid, hkp, hkf⟩ := kid_of hT.asc (B := B) (HNZ.out x (has_true_of_atKey hat))
        have hy1 : y1 = .lit (.int .i64 (fM E B n (pth E j ++ [47]) x : Int)) := (hat _).symm.trans (hat0 x)
        rw [hy1] at hv
        have hcv : c = .pointer (some ⟨B (kidB E n j x), 0, none⟩) := by have := rdP_inv hv; rw [hkf] at this; exact this
        subst hcv
        have HKID : Hid (Kid E n j (kidB E n j x)) := hkid
        have HSZ2 : Hid (w2.heap.size = W5.heap.size) := hsz2
        clear hv hy1 hat0 hkf hkp hkid hsz2
        gi_wp2_with (refine ⟨trivial, ?_⟩; gi_at_call 23; refine (callsIn_wide.2 (inum_any _ _)).mono ?_; rintro e w' ⟨rfl, rfl⟩)
        have hsz2 := HSZ2.out
        have hsB := HBW.out.size
        have hlt5 : W.heap.size < W5.heap.size := (Array.getElem?_eq_some_iff.1 hbp5).1
        have hbw2 : Below wB.heap.size wB w2 := hb5.grown hg2 hb5.size (fun j e => by cases e; omega)
        have hb6 : Below wB.heap.size wB (w2.alloc (.cells #[.pointer (some ⟨B (kidB E n j x), 0, none⟩)] 40)) := hbw2.alloc hbw2.size _
        have hbp6 : (w2.alloc (.cells #[.pointer (some ⟨B (kidB E n j x), 0, none⟩)] 40)).heap[W.heap.size]? = some (.cells #[.func (.yield l) #[] #[]] 57 (0, 0)) := (Below.heap_alloc w2 _ _ (by omega)).trans ((hg2.block _ hlt5 (fun e => by have := Option.some.inj e; omega)).trans hbp5)
        have hbx6 : (w2.alloc (.cells #[.pointer (some ⟨B (kidB E n j x), 0, none⟩)] 40)).heap[w2.heap.size]? = some (.cells #[.pointer (some ⟨B (kidB E n j x), 0, none⟩)] 40 (0, 0)) := World.alloc_heap_new w2 _
        have hj6 : J pre (w2.alloc (.cells #[.pointer (some ⟨B (kidB E n j x), 0, none⟩)] 40)) := HOWN.out.alloc _ (HOWN.out _ _ _ _ hJ5 hg2 (fun r e => by cases e; exact ⟨by omega, by obtain ⟨o, h1, h2⟩ := hrg.iter_walk; exact ⟨o, h1, by cases o <;> first | rfl | simp [Obj.isWalk] at h2⟩⟩))
        have hrg6 := hrg2.alloc (.cells #[.pointer (some ⟨B (kidB E n j x), 0, none⟩)] 40)
        have hmk6 : Marks W.heap.size (w2.alloc (.cells #[.pointer (some ⟨B (kidB E n j x), 0, none⟩)] 40)) ds := HMK.out.to fun D hD _ h => (Below.heap_alloc w2 _ _ (by have := (Array.getElem?_eq_some_iff.1 h).1; omega)).trans ((hg2.block _ (Array.getElem?_eq_some_iff.1 h).1 (fun e => by cases e; obtain ⟨o, h1, h2⟩ := hrg.iter_walk; rw [h] at h1; cases h1; cases h2)).trans h)
        have hs6 : (w2.alloc (.cells #[.pointer (some ⟨B (kidB E n j x), 0, none⟩)] 40)).heap.size = w2.heap.size + 1 := by simp
        have hleft : w2.rangeLeft (M j) W2.heap.size < W5.rangeLeft (M j) W2.heap.size := by rw [hrg2.left_eq, hrg.left_eq]; exact hlt
        have hsW : W.heap.size ≤ (w2.alloc (.cells #[.pointer (some ⟨B (kidB E n j x), 0, none⟩)] 40)).heap.size := by omega
        obtain ⟨W6, hW6⟩ : ∃ W6, w2.alloc (.cells #[.pointer (some ⟨B (kidB E n j x), 0, none⟩)] 40) = W6 := ⟨_, rfl⟩
        rw [hW6] at hb6 hbp6 hbx6 hj6 hrg6 hmk6 hs6 hsW ⊢
        clear hW6 hsz2
        have HMK6 : Hid (Marks W.heap.size W6 ds) := hmk6
        have HRG6 : Hid (W6.ranges Tryd.prog 9 rdP (M j) W2.heap.size N D (fun z => left z && !z.sameKey (.string x)) cnt2) := hrg6
        have HLE : Hid (cnt2 < W5.rangeLeft (M j) W2.heap.size) := by rw [hrg.left_eq]; exact hlt
        have hkd2 := kid_gt hT hj HKID.out
        obtain ⟨hnd, hks⟩ := kids_of (B := B) hT.asc (HC.out.step hlk hat) HNZ.out
        have hlen : pre.length + (subL E n (kidB E n j x)).length ≤ (subL E n j).length := by
          have h1 := seen_le hT hj hks hnd
          rw [List.map_append, List.map_cons, List.map_nil, seen_snoc, List.length_append] at h1
          have h2 := HPP.out.length_eq
          rw [ints_len] at h2
          omega
        refine range_o (by decide) (gf := 36) (lb := #[.pointer (some ⟨w2.heap.size, 0, none⟩)]) rfl (enters_of Tryd.func36 (by kernel_rfl) rfl)
          (HIH.out (kidB E n j x) HKID.out.1 (by omega) w2.heap.size W6 hb6 hbx6) hb6.size (Kq.refl _ _ _) (Nat.le_refl _) rfl
          (fun pre' W' => J (pre ++ pre') W' ∧ Kq wB.heap.size W.heap.size W6 W')
          (fun s A A' row h hg hr => ⟨HOWN.out _ A A' row h.1 hg (fun r e => ⟨by have := (hr r e).1; omega, (hr r e).2⟩), kq_own hb6.size s A A' row h.2 hg hr⟩)
          ⟨by rw [List.append_nil]; exact hj6, Kq.refl _ _ _⟩
          (fun y => { tmps := #[.func (.yield l) #[] #[], .pointer (some ⟨bx, 0, none⟩), .pointer (some ⟨W.heap.size, 0, none⟩), undef, .pointer (some ⟨B (kidB E n j x), 0, none⟩), .int .i64 y, .func (.yield l) #[] #[], x7, x8, x9, .int .i64 (j : Int), .bool true, .bool false, .pointer (some ⟨B j, 0, none⟩), .pointer (some ⟨B j, 0, none⟩), .pointer (some ⟨B j, 1, none⟩), .map (some (M j)), .pointer (some ⟨W2.heap.size, 0, none⟩), .tuple #[.bool true, encStr x, .pointer (some ⟨B (kidB E n j x), 0, none⟩)], .bool true, .tuple #[encStr x, .pointer (some ⟨B (kidB E n j x), 0, none⟩)], .pointer (some ⟨B (kidB E n j x), 0, none⟩), .pointer (some ⟨B (kidB E n j x), 0, none⟩), .func (.func 36) #[] #[.pointer (some ⟨w2.heap.size, 0, none⟩)], .int .i64 y, undef, undef, undef, undef], defers := [] }) ?assign ?body ?done
        case assign =>
          intro l2 y W7 K hK
          gi_wp2
          exact hK
        case body =>
          rintro l2 pre' y W7 ⟨hj7, hk7⟩ hlt7 hn7
          have hbp7 := hk7.our _ _ hbp6 (.inr ⟨_, _, rfl, .inl rfl⟩)
          have hcp7 : W7.cell? ⟨W.heap.size, 0, none⟩ = some (.func (.yield l) #[] #[]) := by simp [World.cell?, hbp7]
          obtain ⟨fn, tmps, assign, body, hy, hR⟩ := HY.out (pre ++ pre') y W7 hj7 (by rw [List.length_append]; omega)
          gi_wp2
          refine RoundIn.mono (R := fun e W' => e = .returned (.bool true) ∧ J (pre ++ pre' ++ [y]) W' ∧ Kq wB.heap.size W.heap.size W7 W') ⟨hR.1, fun c cs _ => hR.2 c cs (room_wide _)⟩ ?_
          rintro e W8 ⟨rfl, hj8, hk8⟩
          gi_wp2
          exact ⟨hk8.from (by omega), hk8.mono (by omega), by have := hk8.bel.size; omega, by rw [← List.append_assoc]; exact hj8, hk7.trans hk8⟩
        case done =>
          rintro D1 xs W8 hD1 hS ⟨hj8, hk8⟩ hD8
          gi_wp2
          refine ⟨⟨_, _, _, _, _, _, _, _, rfl, ⟨⟨D1, rfl, by omega, hD8, fun d' hd' e' => by have := HMK6.out.lt d' hd' D1 e'; omega⟩, HMK6.out.kq hk8⟩, hb6.trans hk8.bel, hk8.our _ _ hbp6 (.inr ⟨_, _, rfl, .inl rfl⟩), by have := hk8.bel.size; omega, _, _, ss ++ [x], pre ++ xs, HRG6.out.of_walks hk8.walks, HC.out.step hlk hat, ?_, hj8⟩, ?_⟩
          · rw [List.map_append, List.map_cons, List.map_nil, seen_snoc, ints_app]
            exact HPP.out.append hS
          · rw [(HRG6.out.of_walks hk8.walks).left_eq]; exact HLE.out
  · have hcm := (HBR.out W2 hb2).leaf j hj hkd
    have HSA : Hid ((ints [j]).Perm (ints (subL E n j))) := ints_perm (seen_all hT hj (ks := []) (fun c => ⟨fun h => (List.not_mem_nil h).elim, fun h => (no_kid hT hj hkd c h).elim⟩) List.nodup_nil)
    have hrn := run_range_nilMap (P := Tryd.prog) W2 58 9 40 Tryd.underlying58
    have hj4 : J [(j : Int)] (W2.alloc (.mapIter none 0 #[] 0)) := HOWN.out.alloc _ hJ2
    have hnx := fun ty => run_next_nilMap (P := Tryd.prog) W2 ty 0 0 #[]
    gi_wp2
    refine wpIn_loop_rounds 1 ?_
    show Code.wpIn _ _ _ _ _ _ _
    gi_wp2
    exact leaves_marks (C := W.heap.size) (I := J [(j : Int)]) (ds := []) (fun W D h hC hD => HOWN.out.putObj _ h hC hD rfl) (fun W => results_none rfl _ _ _) (fun W h => ⟨⟨_, rfl⟩, _, HSA.out, h⟩) trivial hj4

end Go.Proofs.YtjjndaiojilhiaaDoor.nb
