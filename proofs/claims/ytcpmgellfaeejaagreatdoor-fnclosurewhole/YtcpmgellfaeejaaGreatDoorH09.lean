import Derived.Test.YtcpmgellfaeejaaGreatDoorH08
import Derived.Test.YtcpmgellfaeejaaGreatDoorH01
import Derived.Test.YtcpmgellfaeejaaGreatDoorH02
import Derived.Deep.RegionHeld3
namespace Go.Proofs.YtcpmgellfaeejaaGreatDoor.rf
open Go.RowKit Go.Shelf Go.Proofs.YtcpmgellfaeejaaGreatDoor.rt Go.Maps
attribute [local go_sem] Oper.semAt_some
set_option linter.unusedVariables false
set_option linter.unusedSimpArgs false
theorem wordsIn_any (b o N cap : Nat) (w : World) :
  Calls Tryz.prog 114 #[.slice (some ⟨b, o, none⟩) N cap] w fun e w' => e = .returned (.func (.func 147) #[] #[.pointer (some ⟨w.heap.size, 0, none⟩)]) ∧ w' = w.alloc (.cells #[.slice (some ⟨b, o, none⟩) N cap] 25) := by
 go_enter Tryz.func114, Tryz.ntmps114
 go_wp2
 go_ret
 exact ⟨rfl, rfl⟩
def RI (W0 : World) (b2 : Nat) (l : List (List UInt8)) (pre : List ByteArray) (W : World) : Prop :=
 (∃ m D, OwM W b2 m D ∧ m ≤ pre.length ∧ ∀ y, Maps.has D (.string y) = true ↔ ((∃ a ∈ l, a.take 13 = y) ∧ ∃ x ∈ pre, x.data.toList = y)) ∧ W0.grownBy W (some b2)
theorem grown_tr {A B C : World} {r : Option Nat} {b : Nat} (h : A.grownBy B (some b)) (k : B.grownBy C r) (hr : ∀ j, r = some j → A.heap.size ≤ j ∨ j = b) : A.grownBy C (some b) :=
 ⟨k.os.trans h.os, k.tape.trans h.tape, k.output.trans h.output, Nat.le_trans h.size k.size, fun j hj hne => (k.block j (Nat.lt_of_lt_of_le hj h.size) (fun e => by
  rcases hr j e.symm with h1 | h1
  ·omega
  ·exact hne (by rw [h1]))).trans (h.block j hj hne)⟩
theorem RI.grow {W0 : World} {b2 : Nat} {l : List (List UInt8)} {pre : List ByteArray} {W W' : World} {row : Option Nat} (h : RI W0 b2 l pre W) (hb2 : b2 < W0.heap.size) (hg : W.grownBy W' row) (hr : ∀ j, row = some j → W0.heap.size ≤ j) : RI W0 b2 l pre W' := by
 obtain ⟨⟨m, D, h1, h2, h3⟩, h4⟩ := h
 exact ⟨⟨m, D, h1.kept hg (fun e => by have := hr b2 e.symm; omega), h2, h3⟩, grown_tr h4 hg (fun j e => .inl (hr j e))⟩
theorem kc_below {W W' : World} (h : Below W.heap.size W W') : KC W W' := ⟨h.size, fun j cs t f e => (h.block j (Array.getElem?_eq_some_iff.1 e).1).trans e⟩
theorem kc_grown {W W' : World} {b n : Nat} {D : DataW Unit} (hm : OwM W b n D) (h : W.grownBy W' (some b)) : KC W W' := ⟨h.size, fun j cs t f e => (h.block j (Array.getElem?_eq_some_iff.1 e).1 (fun e' => by
 obtain ⟨es, ck, hb, _⟩ := hm
 rw [Option.some.inj e', hb] at e
 cases e)).trans e⟩
theorem kf_grown {W W' : World} {B b : Nat} (h : W.grownBy W' (some b)) (hb : b < B) : KeepsFrom B W W' := ⟨h.size, fun k o hk e _ => (h.block k (Array.getElem?_eq_some_iff.1 e).1 (fun e' => by have := Option.some.inj e'; omega)).trans e⟩
theorem kf_below {W W' : World} (B : Nat) (h : Below W.heap.size W W') : KeepsFrom B W W' := ⟨h.size, fun k o hk e _ => (h.block k (Array.getElem?_eq_some_iff.1 e).1).trans e⟩
theorem grown_bel {A B C : World} {b : Nat} (h : A.grownBy B (some b)) (k : Below B.heap.size B C) : A.grownBy C (some b) := ⟨k.os.trans h.os, k.tape.trans h.tape, k.output.trans h.output, Nat.le_trans h.size k.size, fun j hj hne => (k.block j (Nat.lt_of_lt_of_le hj h.size)).trans (h.block j hj hne)⟩
theorem OwM.bel {W W' : World} {b n : Nat} {D : DataW Unit} (h : OwM W b n D) (k : Below W.heap.size W W') : OwM W' b n D := h.kept (row := none) ⟨k.os, k.tape, k.output, k.size, fun j hj _ => k.block j hj⟩ (by simp)
theorem PW_size {E : Nat → tt.En} {N : Nat} {x : ByteArray} (h : x ∈ PW E N) : x.size = 13 := by
 obtain ⟨k, hk, h⟩ := mem_PW.1 h
 obtain ⟨i, hi, rfl⟩ := mem_pcs.1 h
 simp
 omega
theorem RI.no {W0 : World} {b2 : Nat} {l : List (List UInt8)} {pre : List ByteArray} {x : ByteArray} {W W' : World} (h : RI W0 b2 l pre W) (k : Below W.heap.size W W') (hx : ¬ ∃ a ∈ l, a.take 13 = x.data.toList) : RI W0 b2 l (pre ++ [x]) W' := by
 obtain ⟨⟨m, D, h1, h2, h3⟩, h4⟩ := h
 refine ⟨⟨m, D, h1.bel k, by rw [List.length_append]; omega, fun y => (h3 y).trans ⟨fun ⟨p, z, hz, e⟩ => ⟨p, z, List.mem_append.2 (.inl hz), e⟩, fun ⟨p, z, hz, e⟩ => ⟨p, ?_⟩⟩⟩, grown_bel h4 k⟩
 rcases List.mem_append.1 hz with h | h
 ·exact ⟨z, h, e⟩
 ·rw [List.mem_singleton] at h
  subst h
  rw [e] at hx
  exact absurd p hx
theorem RI.yes {W0 : World} {b2 m : Nat} {D : DataW Unit} {l : List (List UInt8)} {pre : List ByteArray} {x : ByteArray} {W W1 W2 : World} (h1 : OwM W b2 m D) (h2 : m ≤ pre.length) (h3 : ∀ y, Maps.has D (.string y) = true ↔ ((∃ a ∈ l, a.take 13 = y) ∧ ∃ x ∈ pre, x.data.toList = y)) (h4 : W0.grownBy W (some b2)) (k : Below W.heap.size W W1) (ho : OwM W2 b2 (m + 1) (D.put (.string x.data.toList) (.agg []))) (hg : W1.grownBy W2 (some b2)) (hx : ∃ a ∈ l, a.take 13 = x.data.toList) : RI W0 b2 l (pre ++ [x]) W2 := by
 refine ⟨⟨m + 1, _, ho, by simp; omega, fun y => ?_⟩, grown_tr (grown_bel h4 k) hg (fun j e => .inr (Option.some.inj e).symm)⟩
 rw [has_put h1.isMap, h3 y]
 constructor
 ·rintro (⟨p, z, hz, e⟩ | rfl)
  ·exact ⟨p, z, List.mem_append.2 (.inl hz), e⟩
  ·exact ⟨hx, x, by simp, rfl⟩
 ·rintro ⟨p, z, hz, e⟩
  rcases List.mem_append.1 hz with h | h
  ·exact .inl ⟨p, z, h, e⟩
  ·rw [List.mem_singleton] at h
   subst h
   exact .inr e.symm
set_option maxHeartbeats 4000000 in
set_option maxRecDepth 100000 in
theorem refs_any (l : List (List UInt8)) (g c b1 b2 n2 : Nat) (D2 : DataW Unit) (E : Nat → tt.En) (b o N cap : Nat) (w : World) (hbk : sr.Blk w g c l) (hcm : c ≤ maxLen) (hl : l.length ≤ 4000) (hla : ∀ a ∈ l, 15 ≤ a.length ∧ a.length ≤ 1048576) (hW : WM w b1 l) (hM : OwM w b2 n2 D2) (hne : b1 ≠ b2) (hE : tt.EnR w b o N E) (hS : tt.SmE N E) (hN : N ≤ 1048576) (hP : (PW E N).length ≤ 10000000) :
  Calls Tryz.prog 68 #[.agg #[.slice (some ⟨g, 0, none⟩) l.length c, .map (some b1), .map (some b2)], .slice (some ⟨b, o, none⟩) N cap] w fun e w' => (∃ v, e = .returned v ∧ sr.OwnS w.heap.size w' v (l.filter fun a => inB E N (a.take 13))) ∧ w.grownBy w' (some b2) ∧ ∃ n' D', OwM w' b2 n' D' := by
 obtain ⟨n1, D1, hW1, hW2⟩ := hW
 have hb1 := hW1.lt
 have hb2 := hM.lt
 have hgl := hbk.lt
 obtain ⟨Wc, hclr, hMc, hgc⟩ := clear_own (hM.alloc (.cells #[.slice (some ⟨g, 0, none⟩) l.length c, .map (some b1), .map (some b2)] 85))
 have hWcs : w.heap.size + 1 ≤ Wc.heap.size := by have := hgc.size; rwa [World.size_alloc] at this
 have hbx : ∀ j v, (#[.slice (some ⟨g, 0, none⟩) l.length c, .map (some b1), .map (some b2)] : Array Value)[j]? = some v → Wc.cell? ⟨w.heap.size, j, none⟩ = some v := fun j v hv => hgc.cell (a := ⟨w.heap.size, j, none⟩) (by simp [go_sem, hv]) (fun e => by have := Option.some.inj e; simp at this; omega)
 refine (callsIn_wide (n := 3)).1 ?_
 refine callsIn_of_wp_marks Tryz.func68 rfl trivial ?_ rfl
 simp only [Tryz.ntmps68, List.size_toArray, List.length_cons, List.length_nil, Nat.reduceAdd, Nat.reduceSub, Array.replicate_succ, Array.replicate_zero, List.push_toArray, List.append_toArray, List.nil_append, List.cons_append]
 gi_wp2_with (refine ⟨trivial, ?_⟩; gi_at_call 114; refine (callsIn_wide.2 (wordsIn_any b o N cap _)).mono ?_; rintro e w' ⟨rfl, rfl⟩)
 rename_i Q0 K0 hK0
 obtain ⟨W0, hW0⟩ : ∃ W0, Wc.alloc (.cells #[.slice (some ⟨b, o, none⟩) N cap] 25) = W0 := ⟨_, rfl⟩
 have hs0 : W0.heap.size = Wc.heap.size + 1 := by rw [← hW0, World.size_alloc]
 have hb0 : Below Wc.heap.size Wc W0 := by rw [← hW0]; exact (Below.refl _ _).alloc (Nat.le_refl _) _
 have hbw : W0.cell? ⟨Wc.heap.size, 0, none⟩ = some (.slice (some ⟨b, o, none⟩) N cap) := by rw [← hW0]; simp [go_sem]
 rw [hW0]
 clear hW0
 have hwg : w.grownBy W0 (some b2) := by
  refine grown_bel ?_ hb0
  exact ⟨hgc.os, hgc.tape, hgc.output, by have := hgc.size; rw [World.size_alloc] at this; omega, fun k hk hne => (hgc.block k (by rw [World.size_alloc]; omega) hne).trans (Below.heap_alloc _ _ _ hk)⟩
 have hE0 : tt.EnR W0 b o N E := fun i hi => by
  obtain ⟨e0, e1, e2, e3⟩ := hE i hi
  have hk : ∀ j v, w.cell? ⟨b, j, none⟩ = some v → W0.cell? ⟨b, j, none⟩ = some v := fun j v h => hwg.cell h (fun e => by
   have e := Option.some.inj e
   simp only at e
   obtain ⟨es, ck, hbb, _⟩ := hM
   rw [e] at h
   simp [World.cell?, hbb] at h)
  exact ⟨hk _ _ e0, hk _ _ e1, hk _ _ e2, hk _ _ e3⟩
 have hI0 : RI W0 b2 l [] W0 := ⟨⟨0, _, hMc.bel hb0, Nat.zero_le _, fun y => by simp [Maps.has]⟩, ⟨rfl, rfl, rfl, Nat.le_refl _, fun _ _ _ => rfl⟩⟩
 have HBX : Hid (∀ W, W0.grownBy W (some b2) → W.cell? ⟨w.heap.size, 0, none⟩ = some (.slice (some ⟨g, 0, none⟩) l.length c) ∧ W.cell? ⟨w.heap.size, 1, none⟩ = some (.map (some b1)) ∧ W.cell? ⟨w.heap.size, 2, none⟩ = some (.map (some b2))) := fun W h => by
  have hk : ∀ j v, (#[.slice (some ⟨g, 0, none⟩) l.length c, .map (some b1), .map (some b2)] : Array Value)[j]? = some v → W.cell? ⟨w.heap.size, j, none⟩ = some v := fun j v hv => h.cell ((hb0.cell (p := ⟨w.heap.size, j, none⟩) (World.block_lt_of_cell? _ _ (hbx j v hv))).trans (hbx j v hv)) (fun e => by have := Option.some.inj e; simp at this; omega)
  exact ⟨hk 0 _ rfl, hk 1 _ rfl, hk 2 _ rfl⟩
 have HW1 : Hid (∀ W, W0.grownBy W (some b2) → OwM W b1 n1 D1) := fun W h => (hW1.kept hwg (by simpa using hne)).kept h (by simpa using hne)
 have HPS : Hid (∀ x, x ∈ PW E N → x.size = 13) := fun x hx => PW_size hx
 have HPL : Hid ((PW E N).length ≤ 10000000) := hP
 have HW2 : Hid (∀ y, Maps.has D1 (.string y) = true ↔ ∃ a ∈ l, a.take 13 = y) := hW2
 clear hP hW2
 refine range_t (by decide) (gf := 147) (lb := #[.pointer (some ⟨Wc.heap.size, 0, none⟩)]) rfl (enters_of Tryz.func147 (by kernel_rfl) rfl)
  (words_hands 2 Wc.heap.size E b o N cap W0 (by decide) hbw hE0 hS hN) (fun r e => e.elim)
  (fun A X C h1 h2 => h1.trans h2)
  (fun W lk ob o' hl h1 h2 h3 => ⟨by simp, fun j cs t f e => (World.putObj_heap_other (fun e' => by
   subst e'
   rw [h1] at e
   cases e
   cases h2)).trans e⟩) rfl
  (RI W0 b2 l) (fun _ _ => False)
  (fun s W W' row h hg hr => h.grow (by omega) hg (fun j e => (hr j e).1)) (fun s W W' row h hg hr => h)
  (fun s W W' row h hg hr => h.grow (by omega) hg (fun j e => (hr j e).elim)) (fun s W W' row h hg hr => h)
  hI0
  (fun x => { tmps := #[.agg #[.slice (some ⟨g, 0, none⟩) l.length c, .map (some b1), .map (some b2)], .slice (some ⟨b, o, none⟩) N cap, .pointer (some ⟨w.heap.size, 0, none⟩), undef, .slice none 0 0, .string x, undef, undef, undef, .pointer (some ⟨w.heap.size, 2, none⟩), .map (some b2), .slice (some ⟨b, o, none⟩) N cap, .func (.func 147) #[] #[.pointer (some ⟨Wc.heap.size, 0, none⟩)], .string x, undef, undef, undef, undef, undef, undef, undef, undef, undef, undef, undef, undef, undef, undef, undef, undef, undef, undef, undef, undef, undef, undef, undef, undef, undef, undef, undef, undef], defers := [] })
  ?assign ?body ?done ?stop
 case assign =>
  intro lk x W K hK
  gi_wp2
  exact hK
 case stop =>
  intro D pre W hD hp hx hK
  exact hx.elim
 case body =>
  intro lk pre x W hi hp
  have hx13 := HPS.out x (hp.subset (by simp : x ∈ pre ++ [x]))
  have hpl : pre.length + 1 ≤ 10000000 := by
   have := hp.length_le
   rw [List.length_append] at this
   exact Nat.le_trans this HPL.out
  have HRI := Lib.hid hi
  obtain ⟨⟨m, D, d1, d2, d3⟩, hg0⟩ := hi
  obtain ⟨q0, q1, q2⟩ := HBX.out _ hg0
  have HHS : Hid (Calls Tryz.prog 41 #[.map (some b1), .string x] W fun e w' => e = .returned (.bool (Maps.has D1 (.string x.data.toList))) ∧ Below W.heap.size W w') := has_any x (by omega) b1 n1 D1 W (HW1.out W hg0)
  cases hh : Maps.has D1 (.string x.data.toList) with
  | false =>
   rw [hh] at HHS
   have HNX : Hid (∀ W', Below W.heap.size W W' → KeepsFrom W0.heap.size W W' ∧ KC W W' ∧ RI W0 b2 l (pre ++ [x]) W') := fun W' k => ⟨kf_below _ k, kc_below k, HRI.out.no k (fun h => by rw [(HW2.out _).2 h] at hh; cases hh)⟩
   clear hh d1 d2 d3 hg0
   gi_wp2_with (refine ⟨trivial, ?_⟩; gi_at_call 41; refine (CallsIn.inRound lk (callsIn_wide.2 HHS.out)).mono ?_; rintro e w1 ⟨rfl, hb1⟩; have HK1 := Lib.hid (HNX.out _ hb1); clear hb1)
   have hk1 := HK1.out
   rwa [hs0] at hk1
  | true =>
   rw [hh] at HHS
   have HAD : Hid (∀ W1, Below W.heap.size W W1 → Calls Tryz.prog 79 #[.map (some b2), .string x] W1 fun e w' => (∃ v, e = .returned v) ∧ OwM w' b2 (m + 1) (D.put (.string x.data.toList) (.agg [])) ∧ W1.grownBy w' (some b2)) := fun W1 k => add_any x (by omega) b2 m (by omega) D W1 (d1.bel k)
   have HNX : Hid (∀ W1 W2, Below W.heap.size W W1 → OwM W2 b2 (m + 1) (D.put (.string x.data.toList) (.agg [])) → W1.grownBy W2 (some b2) → KeepsFrom W0.heap.size W W2 ∧ KC W W2 ∧ RI W0 b2 l (pre ++ [x]) W2) := fun W1 W2 k ho hg => ⟨(kf_below _ k).trans (kf_grown hg (by omega)), (kc_below k).trans (kc_grown (d1.bel k) hg), RI.yes d1 d2 d3 hg0 k ho hg ((HW2.out _).1 hh)⟩
   have HQ : Hid (∀ W1, Below W.heap.size W W1 → W1.cell? ⟨w.heap.size, 2, none⟩ = some (.map (some b2))) := fun W1 k => (k.cell (p := ⟨w.heap.size, 2, none⟩) (World.block_lt_of_cell? _ _ q2)).trans q2
   clear hh d1 d2 d3 hg0 q2
   gi_wp2_with (first
    | (refine ⟨trivial, ?_⟩; gi_at_call 41; refine (CallsIn.inRound lk (callsIn_wide.2 HHS.out)).mono ?_; rintro e w1 ⟨rfl, hb1⟩; have HB1 := Lib.hid hb1; have q2 := HQ.out _ hb1; clear hb1)
    | (refine ⟨trivial, ?_⟩; gi_at_call 79; refine (CallsIn.inRound lk (callsIn_wide.2 (HAD.out _ HB1.out))).mono ?_; rintro e w2 ⟨⟨v, rfl⟩, ho2, hg2⟩; have HF2 := Lib.hid (HNX.out _ _ HB1.out ho2 hg2); clear ho2 hg2))
   have hk1 := HF2.out
   rwa [hs0] at hk1
 case done =>
  intro Dd W hD hi hK
  refine hK0 _ _ (wpIn_wide.2 ?_)
  clear hK0
  obtain ⟨⟨m, D, d1, d2, d3⟩, hg0⟩ := hi
  obtain ⟨q0, q1, q2⟩ := HBX.out _ hg0
  have HD1 : Hid (OwM W b2 m D) := d1
  have HQ2 : Hid (∀ W1, Below W.heap.size W W1 → W1.cell? ⟨w.heap.size, 2, none⟩ = some (.map (some b2))) := fun W1 k => (k.cell (p := ⟨w.heap.size, 2, none⟩) (World.block_lt_of_cell? _ _ q2)).trans q2
  have hgb : g ≠ b2 := fun e => by
   obtain ⟨cs, hb, _⟩ := hbk.row
   obtain ⟨es, ck, hb', _⟩ := hM
   rw [e, hb'] at hb
   cases hb
  have HBK : Hid (∀ W1, Below W.heap.size W W1 → ∀ i x, l[i]? = some x → W1.cell? ⟨g, i, none⟩ = some (.string ⟨x.toArray⟩)) := fun W1 k i x hx => by
   have h1 := hbk.kept (hwg.block g hgl (fun e => hgb (Option.some.inj e)))
   have h2 := h1.kept (w' := W) (hg0.block g h1.lt (fun e => hgb (Option.some.inj e)))
   have h3 := h2.kept (w' := W1) (k.block g h2.lt)
   obtain ⟨bb, off, cap, e, _, _, hcc⟩ := h3.row' hcm
   cases e
   have := hcc i x hx
   rwa [Nat.zero_add] at this
  have HHS0 : Hid (∀ a ∈ l, Maps.has D (.string (a.take 13)) = inB E N (a.take 13)) := fun a ha => by
   have hl13 : (a.take 13).length = 13 := by rw [List.length_take]; have := (hla a ha).1; omega
   have h1 := d3 (a.take 13)
   rw [← inE_PW hl13, ← inB_iff] at h1
   cases hq : inB E N (a.take 13) with
   | true => exact h1.2 ⟨⟨a, ha, rfl⟩, hq⟩
   | false =>
    cases hq' : Maps.has D (.string (a.take 13)) with
    | false => rfl
    | true => rw [(h1.1 hq').2] at hq; cases hq
  have HLA : Hid (∀ a ∈ l, 15 ≤ a.length ∧ a.length ≤ 1048576) := hla
  have HEND : Hid (∀ (w' : World) (v : Value), Below W.heap.size W w' → sr.OwnS W.heap.size w' v (l.filter fun a => inB E N (a.take 13)) → w'.heap[Dd]? = some (.deferred (some [])) ∧ ((∃ v', Ending.returned v = .returned v' ∧ sr.OwnS w.heap.size (w'.putObj Dd (.deferred none)) v' (l.filter fun a => inB E N (a.take 13))) ∧ w.grownBy (w'.putObj Dd (.deferred none)) (some b2) ∧ ∃ n' D', OwM (w'.putObj Dd (.deferred none)) b2 n' D')) := fun w' v k ho => by
   have hh := (Array.getElem?_eq_some_iff.1 hK).1
   have hd := (k.block Dd hh).trans hK
   have hsz := hwg.size
   have hsz2 := hg0.size
   refine ⟨hd, ⟨v, rfl, ?_, ho.2⟩, grown_tr (grown_bel (grown_tr hwg hg0 (fun j e => .inr (Option.some.inj e).symm)) k) (grownBy_putObj' w' Dd (.deferred none)) (fun j e => .inl (by have := Option.some.inj e; omega)), m, D, (HD1.out.bel k).kept (grownBy_putObj' w' Dd (.deferred none)) (fun e => ?_)⟩
   rotate_left
   ·obtain ⟨es, ck, hb', _⟩ := HD1.out.bel k
    rw [Option.some.inj e, hd] at hb'
    cases hb'
   refine (ho.mono (by omega)).1.kept (grownBy_putObj' w' Dd (.deferred none)) (.inr fun e => ?_)
   rcases ho.1.2 with hn | ⟨g', cap', cur, rfl, hb', hgg, rest⟩
   ·exact ho.2 hn.1
   ·have e' : g' = Dd := Option.some.inj e
    rw [e', hd] at hgg
    cases hgg
  obtain ⟨F, hF⟩ : ∃ F : List UInt8 → Bool, (fun a => inB E N (a.take 13)) = F := ⟨_, rfl⟩
  have HFF : Hid ((fun a => inB E N (a.take 13)) = F) := hF
  have hFa : ∀ a, inB E N (a.take 13) = F a := fun a => by rw [← hF]
  have HHS1 : Hid (∀ a ∈ l, Maps.has D (.string (a.take 13)) = F a) := fun a ha => by rw [← hFa]; exact HHS0.out a ha
  obtain ⟨M, hMM⟩ : ∃ t, l.length = t := ⟨_, rfl⟩
  have HXN : Hid (l.length = M) := hMM
  have hM4 : M ≤ 4000 := by omega
  rw [hMM] at q0
  have HFL : Hid (∀ i, ((l.take i).filter F).length ≤ 4000) := fun i => by
   have h1 := List.length_filter_le F (l.take i)
   rw [List.length_take] at h1
   omega
  clear d1 d2 d3 hg0 hla hbk hM hE hS hN hW1 hclr hMc hgc hbx hwg hE0 hI0 hMM hFa hF HHS0 HPS HPL HW2 HW1 HBX hbw hb0 hl hcm hgb q1
  have hlt : w.heap.size < W.heap.size := World.block_lt_of_cell? _ _ q0
  have hln : ¬ W.heap.size = w.heap.size := by omega
  have hln' : ¬ w.heap.size = W.heap.size := by omega
  have qa : (W.alloc (.cells #[] 9)).cell? ⟨w.heap.size, 0, none⟩ = some (.slice (some ⟨g, 0, none⟩) M c) := (World.cell?_of_block (a := ⟨w.heap.size, 0, none⟩) (Below.heap_alloc _ _ _ hlt)).trans q0
  go_wp2
  go_loopw [6, 26] (fun v y wr => ∃ i : Nat, i ≤ M ∧ y = .int .i64 (i : Int) ∧ sr.OwnS W.heap.size wr v ((l.take i).filter F) ∧ Below W.heap.size W wr) (fun _ y _ => M - (intOf y).toNat)
  case atStart => exact ⟨0, Nat.zero_le _, rfl, ⟨by rw [List.take_zero, List.filter_nil]; exact sr.own_zero W, sr.not_nil _ _ _⟩, (Below.refl _ _).alloc (Nat.le_refl _) _⟩
  case round =>
   obtain ⟨i, hi, rfl, hrow, hbel⟩ := hrel
   have HBE : Hid (Below W.heap.size W wr) := hbel
   have HRW : Hid (sr.OwnS W.heap.size wr u6 ((l.take i).filter F)) := hrow
   clear hrow
   by_cases hil : i < M
   ·have hil' : (i : Int) < (M : Int) := by omega
    have hi0 : (0 : Int) ≤ (i : Int) := by omega
    obtain ⟨x, hx⟩ : ∃ x, l[i]? = some x := ⟨_, List.getElem?_eq_getElem (by rw [HXN.out]; exact hil)⟩
    obtain ⟨hx15, hxl⟩ := HLA.out x (List.mem_of_getElem? hx)
    have c0 := HBK.out _ hbel i x hx
    have p2 := HQ2.out _ hbel
    have hsz : (⟨x.toArray⟩ : ByteArray).size = x.length := by show x.toArray.size = _; simp
    have hext : ((⟨x.toArray⟩ : ByteArray).extract 0 13).data.toList = x.take 13 := by rw [tt.bytes_ext]; simp
    have HHS : Hid (∀ W', Below W.heap.size W W' → Calls Tryz.prog 41 #[.map (some b2), .string ((⟨x.toArray⟩ : ByteArray).extract 0 13)] W' fun e w' => e = .returned (.bool (F x)) ∧ Below W'.heap.size W' w') := fun W' k => by
     have := has_any ((⟨x.toArray⟩ : ByteArray).extract 0 13) (by simp; omega) b2 m D W' (HD1.out.bel k)
     rwa [hext, HHS1.out x (List.mem_of_getElem? hx)] at this
    have HCL : Hid (∀ W' : World, Calls Tryz.prog 83 #[.string ⟨x.toArray⟩] W' fun e w' => e = .returned (.string ⟨x.toArray⟩) ∧ Below W'.heap.size W' w') := fun W' => cl.clone_any _ W' (by omega)
    have htk : l.take (i + 1) = l.take i ++ [x] := by rw [List.take_add_one, hx]; rfl
    have HNX : Hid ((l.take (i + 1)).filter F = (l.take i).filter F ++ [x].filter F) := by show _ = _; rw [htk, List.filter_append]
    obtain ⟨q, hq⟩ : ∃ q, F x = q := ⟨_, rfl⟩
    have HFX : Hid (F x = q) := hq
    rw [hq] at HHS
    obtain ⟨s, hs⟩ : ∃ s : ByteArray, (⟨x.toArray⟩ : ByteArray) = s := ⟨_, rfl⟩
    have HSX : Hid (sr.strL x = .string s) := by show _ = _; rw [← hs]; rfl
    rw [hs] at c0 HHS HCL hsz
    have h13 : (13 : Int) ≤ (s.size : Int) := by omega
    clear hs hsz hext hx hx15 hxl htk hq hbel
    go_wp2_with fail
    go_region_held3 (fun W => W.cell? ⟨w.heap.size, 2, none⟩ = some (.map (some b2)))
     (first | exact p2 | exact HQ2.out _ HB2.out | go_keep)
     (((go_at_call 41; refine (HHS.out _ HBE.out.drew).mono ?_; rintro e w2 ⟨rfl, hb2'⟩; have HB2 : Hid (Below W.heap.size W w2) := HBE.out.drew.trans (hb2'.mono HBE.out.drew.size); have HO2 : Hid (sr.OwnS W.heap.size w2 u6 ((l.take i).filter F)) := sv.OwnS.bel HRW.out ((Below.refl _ wr).drew.trans (hb2'.mono (by simp))); clear hb2')))
    cases q with
    | false =>
     go_wp2_with fail
     go_roundw
     case rel => exact ⟨i + 1, by omega, by go_num, by rw [HNX.out, List.filter_cons_of_neg (by rw [HFX.out]; simp), List.filter_nil, List.append_nil]; exact HO2.out, HB2.out⟩
     case measure => simp [intOf]; omega
    | true =>
     go_wp2_with (go_at_call 83; refine (HCL.out _).mono ?_; rintro e w3 ⟨rfl, hb3⟩; have HB3 : Hid (Below W.heap.size W w3) := HB2.out.trans (hb3.mono HB2.out.size); have HO3 : Hid (sr.OwnS W.heap.size w3 u6 ((l.take i).filter F)) := sv.OwnS.bel HO2.out hb3; clear hb3; refine Hid.out ?_)
     refine Lib.hid ?_
     have hfl := HFL.out i
     have HO3' : Hid (∀ ob, (w3.alloc ob).ownsRow W.heap.size 9 1 u6 ((l.take i).filter F).length (((l.take i).filter F).map sr.strL)) := fun ob => HO3.out.1.alloc _
     have HNE : Hid (∀ j u, ([x].map sr.strL)[j]? = some u → (w3.alloc (.cells #[.string s] 9)).cell? ((⟨w3.heap.size, 0, none⟩ : Addr).add j) = some u) := by
      have := sr.one_at w3 x
      rw [HSX.out] at this
      exact this
     have HS3 : Hid (∀ ob, W.heap.size ≤ (w3.alloc ob).heap.size) := fun ob => by rw [World.size_alloc]; exact Nat.le_trans HB3.out.size (by omega)
     obtain ⟨zs, hzs⟩ : ∃ zs, (l.take i).filter F = zs := ⟨_, rfl⟩
     rw [hzs] at hfl HO3' HNX
     have HOK : Hid (u6 ≠ .slice none 0 0) := HO3.out.2
     clear hzs HRW HO2 HO3
     go_wp2_with (first
      | (at_builtin; refine sr.app_str _ rfl _ _ rfl W.heap.size u6 zs rfl (HO3'.out _) HOK.out ⟨w3.heap.size, 0, none⟩ 1 1 [x] rfl rfl HNE.out (by omega) (HS3.out _) ?_; intro v4 w4 hown4 hv4 hg4; refine Hid.out ?_)
      | go_in)
     refine Lib.hid ?_
     have HB4 : Hid (Below W.heap.size W w4) := (HB3.out.alloc HB3.out.size _).grown hg4 (HS3.out _) (fun k hk => ((HO3'.out (.map #[] 0)).lt k hk).1)
     have HO4 : Hid (sr.OwnS W.heap.size w4 v4 ((l.take (i + 1)).filter F)) := by
      show sr.OwnS _ _ _ _
      rw [HNX.out, List.filter_cons_of_pos (by rw [HFX.out]), List.filter_nil]
      exact ⟨hown4, hv4⟩
     clear hown4 hv4 hg4
     go_wp2
     go_roundw
     case rel => exact ⟨i + 1, by omega, by go_num, HO4.out, HB4.out⟩
     case measure => simp [intOf]; omega
   ·have hil' : ¬ (i : Int) < (M : Int) := by omega
    obtain rfl : i = M := by omega
    clear hbel
    have hfin := HEND.out wr u6 HBE.out (by
     have := HRW.out
     rwa [List.take_of_length_le (by rw [HXN.out]; exact Nat.le_refl _), ← HFF.out] at this)
    have HFIN := Lib.hid hfin
    clear hfin HEND
    go_wp2
    refine ⟨by simp, .inl ⟨_, _, rfl, run_takeDeferred HFIN.out.1, ⟨u6, ?_, HFIN.out.2⟩⟩⟩
    simp [results, Tryz.results68, go_sem]
end Go.Proofs.YtcpmgellfaeejaaGreatDoor.rf

namespace Go.Proofs.YtcpmgellfaeejaaGreatDoor.tt
open Go.ChangeShapes Go.WideShapes Go.ChangeAt Go.RowKit Go.Deep
set_option linter.unusedVariables false
set_option linter.unusedSimpArgs false
set_option maxHeartbeats 8000000 in
set_option maxRecDepth 100000 in
theorem stree_any (E : Nat → En) (b o n cap : Nat) (w : World) (hR : EnR w b o n E) (hS : SmE n E) (hn : n ≤ 1048576) (hcap : n ≤ cap) (hcm : cap ≤ maxLen) :
  Calls Tryz.prog 35 #[.slice (some ⟨b, o, none⟩) n cap] w fun e w' => e = .returned (.bool (treeB E n)) ∧ Below w.heap.size w w' := by
 unfold maxLen at hcm
 by_cases h5 : 500 < n
 ·have h5' : (500 : Int) < (n : Int) := by omega
  have HF : Hid (¬ (n ≤ 500 ∧ Tr E n)) := fun h => by omega
  clear hR hS
  go_enter Tryz.func35, Tryz.ntmps35
  go_wp2
  go_ret
  exact ⟨by rw [treeB_no HF.out]; first | done | rfl, Below.refl _ _⟩
 have h5' : ¬ (500 : Int) < (n : Int) := by omega
 have HER : Hid (EnR w b o n E) := hR
 have HSM : Hid (SmE n E) := hS
 clear hR hS
 go_enter Tryz.func35, Tryz.ntmps35
 go_wp2
 go_loopw [3] (fun x wr => ∃ i : Nat, i ≤ n ∧ x = .int .i64 (i : Int) ∧ Tr E i ∧ Below w.heap.size w wr) (fun x _ => n - (intOf x).toNat)
 case atStart => exact ⟨0, Nat.zero_le _, rfl, Tr.zero E, Below.refl _ _⟩
 case round =>
  obtain ⟨i, hi, rfl, htr, hbel⟩ := hrel
  have HTR : Hid (Tr E i) := htr
  have HBE : Hid (Below w.heap.size w wr) := hbel
  clear htr
  by_cases hil : i < n
  ·have hil' : (i : Int) < (n : Int) := by omega
   have hi0 : (0 : Int) ≤ (i : Int) := by omega
   have hic : (i : Int) ≤ (cap : Int) := by omega
   have hsm := HSM.out i hil
   obtain ⟨P, hP⟩ : ∃ P, (E i).path = P := ⟨_, rfl⟩
   obtain ⟨k, hk⟩ : ∃ k, (E i).kind = k := ⟨_, rfl⟩
   obtain ⟨d, hd⟩ : ∃ d, (E i).data = d := ⟨_, rfl⟩
   obtain ⟨x, hx⟩ : ∃ x, (E i).exec = x := ⟨_, rfl⟩
   have HCI : Hid (∀ w' : World, Below w.heap.size w w' → w'.cell? ⟨b, o + i * 4, none⟩ = some (.string P) ∧ w'.cell? ⟨b, o + i * 4 + 1, none⟩ = some (.int .i64 k) ∧ w'.cell? ⟨b, o + i * 4 + 2, none⟩ = some (.string d) ∧ w'.cell? ⟨b, o + i * 4 + 3, none⟩ = some (.bool x)) := fun w' hb => by
    obtain ⟨q0, q1, q2, q3⟩ := (HER.out i hil).below hb
    rw [hP] at q0
    rw [hk] at q1
    rw [hd] at q2
    rw [hx] at q3
    exact ⟨q0, q1, q2, q3⟩
   have hpi : pth E i = P.data.toList := by unfold pth; rw [hP]
   have HPI : Hid (pth E i = P.data.toList) := hpi
   have HEN : Hid (∀ W, Calls Tryz.prog 73 #[.agg #[.string P, .int .i64 k, .string d, .bool x]] W fun r w' => r = .returned (.bool (eOk (E i))) ∧ Below W.heap.size W w') := fun W => by
    have := entry_any (E i) hsm.1 hsm.2 W
    unfold eV at this
    rwa [hP, hk, hd, hx] at this
   obtain ⟨U, hU⟩ : ∃ U : ByteArray, (⟨(up P.data.toList).toArray⟩ : ByteArray) = U := ⟨_, rfl⟩
   have HUP : Hid (∀ W, Calls Tryz.prog 74 #[.string P] W fun e w' => e = .returned (.string U) ∧ Below W.heap.size W w') := fun W => by
    have := up_any P (by rw [← hP]; exact hsm.1) W
    rwa [hU] at this
   have hUl : U.data.toList = up (pth E i) := by rw [← hU, hpi]
   have HUE : Hid (U.toList.isEmpty = true ↔ up (pth E i) = []) := by
    show _ ↔ _
    rw [ByteArray.toList_eq, hUl]
    simp
   have HDR : Hid (∀ W, Below w.heap.size w W → Calls Tryz.prog 75 #[.slice (some ⟨b, o, none⟩) i cap, .string U] W fun e w' => e = .returned (.bool (dirB E i (up (pth E i)))) ∧ Below W.heap.size W w') := fun W hb => by
    have := dir_any E b o i cap U W (fun j hj => (HER.out j (by omega)).below hb) HTR.out.asc (by omega) (by omega)
    rwa [hUl] at this
   obtain ⟨c0, c1, c2, c3⟩ := HCI.out wr hbel
   clear hbel hP hk hd hx hpi hU hUl hsm
   cases heo : eOk (E i) with
   | false =>
    rw [heo] at HEN
    have HF : Hid (¬ Tr E n) := fun h => by have := h.1 i hil; rw [heo] at this; cases this
    clear heo
    go_wp2_with fail
    refine wp_region_held_drew (S := fun w' => w'.cell? ⟨b, o + i * 4, none⟩ = some (.string P) ∧ w'.cell? ⟨b, o + i * 4 + 1, none⟩ = some (.int .i64 k) ∧ w'.cell? ⟨b, o + i * 4 + 2, none⟩ = some (.string d) ∧ w'.cell? ⟨b, o + i * 4 + 3, none⟩ = some (.bool x)) (by kernel_rfl) (HCI.out _ (HBE.out.drew)) (fun hHeld => ?_)
    refine tq (i := 0) rfl (v := ?v1) ?hy1 ?r1
    case hy1 => (intro w hSw; (try dsimp only at hSw); go_simp; try with_reducible rfl)
    try simp only [aP]
    refine tq (i := 1) rfl (v := ?v2) ?hy2 ?r2
    case hy2 => (intro w hSw; (try dsimp only at hSw); go_simp; try with_reducible rfl)
    try simp only [aP]
    refine tq (i := 2) rfl (v := ?v3) ?hy3 ?r3
    case hy3 => (intro w hSw; (try dsimp only at hSw); go_simp; try with_reducible rfl)
    try simp only [aP]
    refine tq (i := 3) rfl (v := ?v4) ?hy4 ?r4
    case hy4 => (intro w hSw; (try dsimp only at hSw); go_simp; try with_reducible rfl)
    try simp only [aP]
    refine wpAnyH_ready (rs := [4]) (by kernel_rfl) (by simp) ?_
    refine cq rfl (fun K hK => ?_) AllReadyH.nil
    go_simp
    (go_at_call 73; refine (HEN.out _).mono ?_; rintro e w2 ⟨rfl, hl2⟩; have hb2 : Below w.heap.size w w2 := HBE.out.drew.trans (hl2.mono HBE.out.size))
    try go_wp2_with fail
    refine hK.out _ _ (HCI.out _ (hb2)) (fun hHeld => ?_)
    clear hK K
    try simp only [aP]
    refine tq (i := 5) rfl (v := ?v5) ?hy5 ?r5
    case hy5 => (intro w hSw; (try dsimp only at hSw); go_simp; try with_reducible rfl)
    try simp only [aP]
    refine tq (i := 6) rfl (v := ?v6) ?hy6 ?r6
    case hy6 => (intro w hSw; (try dsimp only at hSw); go_simp; try with_reducible rfl)
    try simp only [aP]
    refine sq (i := 7) rfl ?_
    try simp only [aP]
    refine sq (i := 8) rfl ?_
    try simp only [aP]
    refine sq (i := 9) rfl ?_
    try simp only [aP]
    refine sq (i := 10) rfl ?_
    try simp only [aP]
    refine sq (i := 11) rfl ?_
    try simp only [aP]
    refine sq (i := 12) rfl ?_
    try simp only [aP]
    refine sq (i := 13) rfl ?_
    try simp only [aP]
    refine sq (i := 14) rfl ?_
    try simp only [aP]
    refine sq (i := 15) rfl ?_
    try simp only [aP]
    refine sq (i := 16) rfl ?_
    try simp only [aP]
    refine sq (i := 17) rfl ?_
    try simp only [aP]
    refine sq (i := 18) rfl ?_
    try simp only [aP]
    refine sq (i := 19) rfl ?_
    try simp only [aP]
    refine sq (i := 20) rfl ?_
    try simp only [aP]
    refine sq (i := 21) rfl ?_
    try simp only [aP]
    refine sq (i := 22) rfl ?_
    try simp only [aP]
    refine tq (i := 23) rfl (v := ?v7) ?hy7 ?r7
    case hy7 => (intro w hSw; (try dsimp only at hSw); go_simp; try with_reducible rfl)
    try simp only [aP]
    refine wpAnyH_done (by kernel_rfl) ?_ _
    go_wp2_with fail
    go_ret
    exact ⟨by rw [treeB_no (fun h => HF.out h.2)]; first | done | rfl, hb2⟩
   | true =>
    rw [heo] at HEN
    have HEO : Hid (eOk (E i) = true) := heo
    clear heo
    by_cases hi1 : 0 < i
    ·have hi1' : (0 : Int) < (i : Int) := by omega
     obtain ⟨K, hKk⟩ : ∃ K, i = K + 1 := ⟨i - 1, by omega⟩
     have HKk : Hid (i = K + 1) := hKk
     have hK1 : (i : Int) - 1 = (K : Int) := by omega
     have hK2 : (K : Int) < (n : Int) := by omega
     have hK0 : (0 : Int) ≤ (K : Int) := by omega
     have hK3 : IntKind.i64.wrap ((i : Int) - 1) = (K : Int) := by rw [IntKind.wrap_i64]; omega
     have hK4 : IntKind.i64.wrap (K : Int) = (K : Int) := by rw [IntKind.wrap_i64]; omega
     obtain ⟨M, hM⟩ : ∃ M, (E K).path = M := ⟨_, rfl⟩
     have HPK : Hid (pth E K = M.data.toList) := by show _ = _; unfold pth; rw [hM]
     have HCK : Hid (∀ w' : World, Below w.heap.size w w' → w'.cell? ⟨b, o + i * 4, none⟩ = some (.string P) ∧ w'.cell? ⟨b, o + i * 4 + 1, none⟩ = some (.int .i64 k) ∧ w'.cell? ⟨b, o + i * 4 + 2, none⟩ = some (.string d) ∧ w'.cell? ⟨b, o + i * 4 + 3, none⟩ = some (.bool x) ∧ w'.cell? ⟨b, o + K * 4, none⟩ = some (.string M)) := fun w' hb => by
      obtain ⟨q0, q1, q2, q3⟩ := HCI.out w' hb
      have q4 := ((HER.out K (by omega)).below hb).1
      rw [hM] at q4
      exact ⟨q0, q1, q2, q3, q4⟩
     clear hM hKk
     cases hbl : Op.bytesLess M.toList P.toList with
     | true =>
      have HLT : Hid (0 < i → pth E (i - 1) < pth E i) := fun _ => by
       rw [show i - 1 = K from by have := HKk.out; omega, HPK.out, HPI.out]
       have := bl M P
       rw [hbl] at this
       simpa using this.symm
      go_wp2_with fail
      refine wp_region_held_drew (S := fun w' => w'.cell? ⟨b, o + i * 4, none⟩ = some (.string P) ∧ w'.cell? ⟨b, o + i * 4 + 1, none⟩ = some (.int .i64 k) ∧ w'.cell? ⟨b, o + i * 4 + 2, none⟩ = some (.string d) ∧ w'.cell? ⟨b, o + i * 4 + 3, none⟩ = some (.bool x) ∧ w'.cell? ⟨b, o + K * 4, none⟩ = some (.string M)) (by kernel_rfl) (HCK.out _ (HBE.out.drew)) (fun hHeld => ?_)
      refine tq (i := 0) rfl (v := ?v8) ?hy8 ?r8
      case hy8 => (intro w hSw; (try dsimp only at hSw); go_simp; try with_reducible rfl)
      try simp only [aP]
      refine tq (i := 1) rfl (v := ?v9) ?hy9 ?r9
      case hy9 => (intro w hSw; (try dsimp only at hSw); go_simp; try with_reducible rfl)
      try simp only [aP]
      refine tq (i := 2) rfl (v := ?v10) ?hy10 ?r10
      case hy10 => (intro w hSw; (try dsimp only at hSw); go_simp; try with_reducible rfl)
      try simp only [aP]
      refine tq (i := 3) rfl (v := ?v11) ?hy11 ?r11
      case hy11 => (intro w hSw; (try dsimp only at hSw); go_simp; try with_reducible rfl)
      try simp only [aP]
      refine wpAnyH_ready (rs := [4]) (by kernel_rfl) (by simp) ?_
      refine cq rfl (fun K hK => ?_) AllReadyH.nil
      go_simp
      (go_at_call 73; refine (HEN.out _).mono ?_; rintro e w2 ⟨rfl, hl2⟩; have hb2 : Below w.heap.size w w2 := HBE.out.drew.trans (hl2.mono HBE.out.size))
      try go_wp2_with fail
      refine hK.out _ _ (HCK.out _ (hb2)) (fun hHeld => ?_)
      clear hK K
      try simp only [aP]
      refine tq (i := 5) rfl (v := ?v12) ?hy12 ?r12
      case hy12 => (intro w hSw; (try dsimp only at hSw); go_simp; try with_reducible rfl)
      try simp only [aP]
      refine tq (i := 6) rfl (v := ?v13) ?hy13 ?r13
      case hy13 => (intro w hSw; (try dsimp only at hSw); go_simp; try with_reducible rfl)
      try simp only [aP]
      refine tq (i := 7) rfl (v := ?v14) ?hy14 ?r14
      case hy14 => (intro w hSw; (try dsimp only at hSw); go_simp; try with_reducible rfl)
      try simp only [aP]
      refine tq (i := 8) rfl (v := ?v15) ?hy15 ?r15
      case hy15 => (intro w hSw; (try dsimp only at hSw); go_simp; try with_reducible rfl)
      try simp only [aP]
      refine tq (i := 9) rfl (v := ?v16) ?hy16 ?r16
      case hy16 => (intro w hSw; (try dsimp only at hSw); go_simp; try with_reducible rfl)
      try simp only [aP]
      refine tq (i := 10) rfl (v := ?v17) ?hy17 ?r17
      case hy17 => (intro w hSw; (try dsimp only at hSw); go_simp; try with_reducible rfl)
      try simp only [aP]
      refine tq (i := 11) rfl (v := ?v18) ?hy18 ?r18
      case hy18 => (intro w hSw; (try dsimp only at hSw); go_simp; try with_reducible rfl)
      try simp only [aP]
      refine tq (i := 12) rfl (v := ?v19) ?hy19 ?r19
      case hy19 => (intro w hSw; (try dsimp only at hSw); go_simp; try with_reducible rfl)
      try simp only [aP]
      refine tq (i := 13) rfl (v := ?v20) ?hy20 ?r20
      case hy20 => (intro w hSw; (try dsimp only at hSw); go_simp; try with_reducible rfl)
      try simp only [aP]
      refine tq (i := 14) rfl (v := ?v21) ?hy21 ?r21
      case hy21 => (intro w hSw; (try dsimp only at hSw); go_simp; try with_reducible rfl)
      try simp only [aP]
      refine tq (i := 15) rfl (v := ?v22) ?hy22 ?r22
      case hy22 => (intro w hSw; (try dsimp only at hSw); go_simp; try with_reducible rfl)
      try simp only [aP]
      refine tq (i := 16) rfl (v := ?v23) ?hy23 ?r23
      case hy23 => (intro w hSw; (try dsimp only at hSw); go_simp; try with_reducible rfl)
      try simp only [aP]
      refine tq (i := 17) rfl (v := ?v24) ?hy24 ?r24
      case hy24 => (intro w hSw; (try dsimp only at hSw); go_simp; try with_reducible rfl)
      try simp only [aP]
      refine tq (i := 18) rfl (v := ?v25) ?hy25 ?r25
      case hy25 => (intro w hSw; (try dsimp only at hSw); go_simp; try with_reducible rfl)
      try simp only [aP]
      refine tq (i := 19) rfl (v := ?v26) ?hy26 ?r26
      case hy26 => (intro w hSw; (try dsimp only at hSw); go_simp; try with_reducible rfl)
      try simp only [aP]
      refine tq (i := 20) rfl (v := ?v27) ?hy27 ?r27
      case hy27 => (intro w hSw; (try dsimp only at hSw); go_simp; try with_reducible rfl)
      try simp only [aP]
      refine tq (i := 21) rfl (v := ?v28) ?hy28 ?r28
      case hy28 => (intro w hSw; (try dsimp only at hSw); go_simp; try with_reducible rfl)
      try simp only [aP]
      refine tq (i := 22) rfl (v := ?v29) ?hy29 ?r29
      case hy29 => (intro w hSw; (try dsimp only at hSw); go_simp; try with_reducible rfl)
      try simp only [aP]
      refine tq (i := 23) rfl (v := ?v30) ?hy30 ?r30
      case hy30 => (intro w hSw; (try dsimp only at hSw); go_simp; try with_reducible rfl)
      try simp only [aP]
      refine wpAnyH_done (by kernel_rfl) ?_ _
      obtain ⟨z0, -, -, -⟩ := HCI.out _ hb2
      go_wp2_with (go_at_call 74; refine (HUP.out _).mono ?_; rintro e w3 ⟨rfl, hl3⟩; have hb3 : Below w.heap.size w w3 := hb2.trans (hl3.mono hb2.size); refine Hid.out ?_)
      refine Lib.hid ?_
      cases hue : U.toList.isEmpty with
      | true =>
       have HN : Hid (Tr E (i + 1)) := HTR.out.next HEO.out HLT.out (fun h => absurd (HUE.out.1 hue) h)
       go_wp2
       go_roundw
       case rel => exact ⟨i + 1, by omega, by go_num, HN.out, hb3⟩
       case measure => simp [intOf] <;> omega
      | false =>
       have HNE : Hid (up (pth E i) ≠ []) := fun h => by have := HUE.out.2 h; rw [hue] at this; cases this
       have HDI : Hid (Calls Tryz.prog 75 #[.slice (some ⟨b, o, none⟩) i cap, .string U] w3 fun e w' => e = .returned (.bool (dirB E i (up (pth E i)))) ∧ Below w3.heap.size w3 w') := HDR.out w3 hb3
       cases hdb : dirB E i (up (pth E i)) with
       | false =>
        rw [hdb] at HDI
        have HF : Hid (¬ Tr E n) := fun h => by
         rw [dirB_yes (h.2.2 i hil HNE.out)] at hdb
         cases hdb
        clear hdb
        go_wp2_with (go_at_call 75; refine HDI.out.mono ?_; rintro e w4 ⟨rfl, hl4⟩; have hb4 : Below w.heap.size w w4 := hb3.trans (hl4.mono hb3.size))
        go_ret
        exact ⟨by rw [treeB_no (fun h => HF.out h.2)]; first | done | rfl, hb4⟩
       | true =>
        rw [hdb] at HDI
        have HN : Hid (Tr E (i + 1)) := HTR.out.next HEO.out HLT.out (fun _ => dirB_iff.1 hdb)
        clear hdb
        go_wp2_with (go_at_call 75; refine HDI.out.mono ?_; rintro e w4 ⟨rfl, hl4⟩; have hb4 : Below w.heap.size w w4 := hb3.trans (hl4.mono hb3.size))
        go_roundw
        case rel => exact ⟨i + 1, by omega, by go_num, HN.out, hb4⟩
        case measure => simp [intOf] <;> omega
     | false =>
      have HF : Hid (¬ Tr E n) := fun h => by
       have h2 := h.2.1 K (by have := HKk.out; omega)
       rw [show K + 1 = i from HKk.out.symm, HPK.out, HPI.out] at h2
       have := bl M P
       rw [hbl] at this
       simp at this
       exact absurd h2 (List.not_lt.2 this)
      go_wp2_with fail
      refine wp_region_held_drew (S := fun w' => w'.cell? ⟨b, o + i * 4, none⟩ = some (.string P) ∧ w'.cell? ⟨b, o + i * 4 + 1, none⟩ = some (.int .i64 k) ∧ w'.cell? ⟨b, o + i * 4 + 2, none⟩ = some (.string d) ∧ w'.cell? ⟨b, o + i * 4 + 3, none⟩ = some (.bool x) ∧ w'.cell? ⟨b, o + K * 4, none⟩ = some (.string M)) (by kernel_rfl) (HCK.out _ (HBE.out.drew)) (fun hHeld => ?_)
      refine tq (i := 0) rfl (v := ?v31) ?hy31 ?r31
      case hy31 => (intro w hSw; (try dsimp only at hSw); go_simp; try with_reducible rfl)
      try simp only [aP]
      refine tq (i := 1) rfl (v := ?v32) ?hy32 ?r32
      case hy32 => (intro w hSw; (try dsimp only at hSw); go_simp; try with_reducible rfl)
      try simp only [aP]
      refine tq (i := 2) rfl (v := ?v33) ?hy33 ?r33
      case hy33 => (intro w hSw; (try dsimp only at hSw); go_simp; try with_reducible rfl)
      try simp only [aP]
      refine tq (i := 3) rfl (v := ?v34) ?hy34 ?r34
      case hy34 => (intro w hSw; (try dsimp only at hSw); go_simp; try with_reducible rfl)
      try simp only [aP]
      refine wpAnyH_ready (rs := [4]) (by kernel_rfl) (by simp) ?_
      refine cq rfl (fun K hK => ?_) AllReadyH.nil
      go_simp
      (go_at_call 73; refine (HEN.out _).mono ?_; rintro e w2 ⟨rfl, hl2⟩; have hb2 : Below w.heap.size w w2 := HBE.out.drew.trans (hl2.mono HBE.out.size))
      try go_wp2_with fail
      refine hK.out _ _ (HCK.out _ (hb2)) (fun hHeld => ?_)
      clear hK K
      try simp only [aP]
      refine tq (i := 5) rfl (v := ?v35) ?hy35 ?r35
      case hy35 => (intro w hSw; (try dsimp only at hSw); go_simp; try with_reducible rfl)
      try simp only [aP]
      refine tq (i := 6) rfl (v := ?v36) ?hy36 ?r36
      case hy36 => (intro w hSw; (try dsimp only at hSw); go_simp; try with_reducible rfl)
      try simp only [aP]
      refine tq (i := 7) rfl (v := ?v37) ?hy37 ?r37
      case hy37 => (intro w hSw; (try dsimp only at hSw); go_simp; try with_reducible rfl)
      try simp only [aP]
      refine tq (i := 8) rfl (v := ?v38) ?hy38 ?r38
      case hy38 => (intro w hSw; (try dsimp only at hSw); go_simp; try with_reducible rfl)
      try simp only [aP]
      refine tq (i := 9) rfl (v := ?v39) ?hy39 ?r39
      case hy39 => (intro w hSw; (try dsimp only at hSw); go_simp; try with_reducible rfl)
      try simp only [aP]
      refine tq (i := 10) rfl (v := ?v40) ?hy40 ?r40
      case hy40 => (intro w hSw; (try dsimp only at hSw); go_simp; try with_reducible rfl)
      try simp only [aP]
      refine tq (i := 11) rfl (v := ?v41) ?hy41 ?r41
      case hy41 => (intro w hSw; (try dsimp only at hSw); go_simp; try with_reducible rfl)
      try simp only [aP]
      refine tq (i := 12) rfl (v := ?v42) ?hy42 ?r42
      case hy42 => (intro w hSw; (try dsimp only at hSw); go_simp; try with_reducible rfl)
      try simp only [aP]
      refine tq (i := 13) rfl (v := ?v43) ?hy43 ?r43
      case hy43 => (intro w hSw; (try dsimp only at hSw); go_simp; try with_reducible rfl)
      try simp only [aP]
      refine tq (i := 14) rfl (v := ?v44) ?hy44 ?r44
      case hy44 => (intro w hSw; (try dsimp only at hSw); go_simp; try with_reducible rfl)
      try simp only [aP]
      refine tq (i := 15) rfl (v := ?v45) ?hy45 ?r45
      case hy45 => (intro w hSw; (try dsimp only at hSw); go_simp; try with_reducible rfl)
      try simp only [aP]
      refine tq (i := 16) rfl (v := ?v46) ?hy46 ?r46
      case hy46 => (intro w hSw; (try dsimp only at hSw); go_simp; try with_reducible rfl)
      try simp only [aP]
      refine tq (i := 17) rfl (v := ?v47) ?hy47 ?r47
      case hy47 => (intro w hSw; (try dsimp only at hSw); go_simp; try with_reducible rfl)
      try simp only [aP]
      refine tq (i := 18) rfl (v := ?v48) ?hy48 ?r48
      case hy48 => (intro w hSw; (try dsimp only at hSw); go_simp; try with_reducible rfl)
      try simp only [aP]
      refine tq (i := 19) rfl (v := ?v49) ?hy49 ?r49
      case hy49 => (intro w hSw; (try dsimp only at hSw); go_simp; try with_reducible rfl)
      try simp only [aP]
      refine tq (i := 20) rfl (v := ?v50) ?hy50 ?r50
      case hy50 => (intro w hSw; (try dsimp only at hSw); go_simp; try with_reducible rfl)
      try simp only [aP]
      refine tq (i := 21) rfl (v := ?v51) ?hy51 ?r51
      case hy51 => (intro w hSw; (try dsimp only at hSw); go_simp; try with_reducible rfl)
      try simp only [aP]
      refine tq (i := 22) rfl (v := ?v52) ?hy52 ?r52
      case hy52 => (intro w hSw; (try dsimp only at hSw); go_simp; try with_reducible rfl)
      try simp only [aP]
      refine tq (i := 23) rfl (v := ?v53) ?hy53 ?r53
      case hy53 => (intro w hSw; (try dsimp only at hSw); go_simp; try with_reducible rfl)
      try simp only [aP]
      refine wpAnyH_done (by kernel_rfl) ?_ _
      go_wp2_with fail
      go_ret
      exact ⟨by rw [treeB_no (fun h => HF.out h.2)]; first | done | rfl, hb2⟩
    ·have hi1' : ¬ (0 : Int) < (i : Int) := by omega
     have HLT : Hid (0 < i → pth E (i - 1) < pth E i) := fun h => absurd h hi1
     go_wp2_with fail
     refine wp_region_held_drew (S := fun w' => w'.cell? ⟨b, o + i * 4, none⟩ = some (.string P) ∧ w'.cell? ⟨b, o + i * 4 + 1, none⟩ = some (.int .i64 k) ∧ w'.cell? ⟨b, o + i * 4 + 2, none⟩ = some (.string d) ∧ w'.cell? ⟨b, o + i * 4 + 3, none⟩ = some (.bool x)) (by kernel_rfl) (HCI.out _ (HBE.out.drew)) (fun hHeld => ?_)
     refine tq (i := 0) rfl (v := ?v54) ?hy54 ?r54
     case hy54 => (intro w hSw; (try dsimp only at hSw); go_simp; try with_reducible rfl)
     try simp only [aP]
     refine tq (i := 1) rfl (v := ?v55) ?hy55 ?r55
     case hy55 => (intro w hSw; (try dsimp only at hSw); go_simp; try with_reducible rfl)
     try simp only [aP]
     refine tq (i := 2) rfl (v := ?v56) ?hy56 ?r56
     case hy56 => (intro w hSw; (try dsimp only at hSw); go_simp; try with_reducible rfl)
     try simp only [aP]
     refine tq (i := 3) rfl (v := ?v57) ?hy57 ?r57
     case hy57 => (intro w hSw; (try dsimp only at hSw); go_simp; try with_reducible rfl)
     try simp only [aP]
     refine wpAnyH_ready (rs := [4]) (by kernel_rfl) (by simp) ?_
     refine cq rfl (fun K hK => ?_) AllReadyH.nil
     go_simp
     (go_at_call 73; refine (HEN.out _).mono ?_; rintro e w2 ⟨rfl, hl2⟩; have hb2 : Below w.heap.size w w2 := HBE.out.drew.trans (hl2.mono HBE.out.size))
     try go_wp2_with fail
     refine hK.out _ _ (HCI.out _ (hb2)) (fun hHeld => ?_)
     clear hK K
     try simp only [aP]
     refine tq (i := 5) rfl (v := ?v58) ?hy58 ?r58
     case hy58 => (intro w hSw; (try dsimp only at hSw); go_simp; try with_reducible rfl)
     try simp only [aP]
     refine tq (i := 6) rfl (v := ?v59) ?hy59 ?r59
     case hy59 => (intro w hSw; (try dsimp only at hSw); go_simp; try with_reducible rfl)
     try simp only [aP]
     refine tq (i := 7) rfl (v := ?v60) ?hy60 ?r60
     case hy60 => (intro w hSw; (try dsimp only at hSw); go_simp; try with_reducible rfl)
     try simp only [aP]
     refine tq (i := 8) rfl (v := ?v61) ?hy61 ?r61
     case hy61 => (intro w hSw; (try dsimp only at hSw); go_simp; try with_reducible rfl)
     try simp only [aP]
     refine tq (i := 9) rfl (v := ?v62) ?hy62 ?r62
     case hy62 => (intro w hSw; (try dsimp only at hSw); go_simp; try with_reducible rfl)
     try simp only [aP]
     refine sq (i := 10) rfl ?_
     try simp only [aP]
     refine sq (i := 11) rfl ?_
     try simp only [aP]
     refine sq (i := 12) rfl ?_
     try simp only [aP]
     refine sq (i := 13) rfl ?_
     try simp only [aP]
     refine sq (i := 14) rfl ?_
     try simp only [aP]
     refine sq (i := 15) rfl ?_
     try simp only [aP]
     refine sq (i := 16) rfl ?_
     try simp only [aP]
     refine sq (i := 17) rfl ?_
     try simp only [aP]
     refine sq (i := 18) rfl ?_
     try simp only [aP]
     refine sq (i := 19) rfl ?_
     try simp only [aP]
     refine sq (i := 20) rfl ?_
     try simp only [aP]
     refine sq (i := 21) rfl ?_
     try simp only [aP]
     refine tq (i := 22) rfl (v := ?v63) ?hy63 ?r63
     case hy63 => (intro w hSw; (try dsimp only at hSw); go_simp; try with_reducible rfl)
     try simp only [aP]
     refine tq (i := 23) rfl (v := ?v64) ?hy64 ?r64
     case hy64 => (intro w hSw; (try dsimp only at hSw); go_simp; try with_reducible rfl)
     try simp only [aP]
     refine wpAnyH_done (by kernel_rfl) ?_ _
     obtain ⟨z0, -, -, -⟩ := HCI.out _ hb2
     go_wp2_with (go_at_call 74; refine (HUP.out _).mono ?_; rintro e w3 ⟨rfl, hl3⟩; have hb3 : Below w.heap.size w w3 := hb2.trans (hl3.mono hb2.size); refine Hid.out ?_)
     refine Lib.hid ?_
     cases hue : U.toList.isEmpty with
     | true =>
      have HN : Hid (Tr E (i + 1)) := HTR.out.next HEO.out HLT.out (fun h => absurd (HUE.out.1 hue) h)
      go_wp2
      go_roundw
      case rel => exact ⟨i + 1, by omega, by go_num, HN.out, hb3⟩
      case measure => simp [intOf] <;> omega
     | false =>
      have HNE : Hid (up (pth E i) ≠ []) := fun h => by have := HUE.out.2 h; rw [hue] at this; cases this
      have HDI : Hid (Calls Tryz.prog 75 #[.slice (some ⟨b, o, none⟩) i cap, .string U] w3 fun e w' => e = .returned (.bool (dirB E i (up (pth E i)))) ∧ Below w3.heap.size w3 w') := HDR.out w3 hb3
      cases hdb : dirB E i (up (pth E i)) with
      | false =>
       rw [hdb] at HDI
       have HF : Hid (¬ Tr E n) := fun h => by
        rw [dirB_yes (h.2.2 i hil HNE.out)] at hdb
        cases hdb
       clear hdb
       go_wp2_with (go_at_call 75; refine HDI.out.mono ?_; rintro e w4 ⟨rfl, hl4⟩; have hb4 : Below w.heap.size w w4 := hb3.trans (hl4.mono hb3.size))
       go_ret
       exact ⟨by rw [treeB_no (fun h => HF.out h.2)]; first | done | rfl, hb4⟩
      | true =>
       rw [hdb] at HDI
       have HN : Hid (Tr E (i + 1)) := HTR.out.next HEO.out HLT.out (fun _ => dirB_iff.1 hdb)
       clear hdb
       go_wp2_with (go_at_call 75; refine HDI.out.mono ?_; rintro e w4 ⟨rfl, hl4⟩; have hb4 : Below w.heap.size w w4 := hb3.trans (hl4.mono hb3.size))
       go_roundw
       case rel => exact ⟨i + 1, by omega, by go_num, HN.out, hb4⟩
       case measure => simp [intOf] <;> omega
  ·have hil' : ¬ (i : Int) < (n : Int) := by omega
   obtain rfl : i = n := by omega
   clear hbel
   go_wp2
   go_ret
   exact ⟨by rw [treeB_yes (by omega) HTR.out]; first | done | rfl, HBE.out⟩
end Go.Proofs.YtcpmgellfaeejaaGreatDoor.tt
