import Derived.Test.YtkmhaemcpakobaaGreatDoorG20
import Derived.Test.YtkmhaemcpakobaaGreatDoorG17
import Derived.Test.YtkmhaemcpakobaaGreatDoorG06
import Derived.Test.YtkmhaemcpakobaaGreatDoorG19
import Derived.Lib.Hide
import Derived.Handy
import Derived.Deep.RegionHeld3
import Derived.Deep.QuietTactic
import Derived.Test.YtkmhaemcpakobaaGreatDoorG11
import Derived.Test.YtkmhaemcpakobaaGreatDoorG18
namespace Go.Proofs.YtkmhaemcpakobaaGreatDoor.rf
open Go.RowKit Go.Shelf Go.Proofs.YtkmhaemcpakobaaGreatDoor.rt Go.Maps
attribute [local go_sem] Oper.semAt_some
set_option linter.unusedVariables false
set_option linter.unusedSimpArgs false

/-! ### References: the program's refs -/

theorem wordsIn_any (b o N cap : Nat) (w : World) :
    Calls Tryz.prog 104 #[.slice (some ⟨b, o, none⟩) N cap] w fun e w' => e = .returned (.func (.func 134) #[] #[.pointer (some ⟨w.heap.size, 0, none⟩)]) ∧ w' = w.alloc (.cells #[.slice (some ⟨b, o, none⟩) N cap] 49) := by
  go_enter Tryz.func104, Tryz.ntmps104
  go_wp2
  go_ret
  exact ⟨rfl, rfl⟩

/-- What stands while the words are looked at. -/
def RI (W0 : World) (b2 : Nat) (l : List (List UInt8)) (pre : List ByteArray) (W : World) : Prop :=
  (∃ m D, OwM W b2 m D ∧ m ≤ pre.length ∧ ∀ y, Maps.has D (.string y) = true ↔ ((∃ a ∈ l, a.take 13 = y) ∧ ∃ x ∈ pre, x.data.toList = y)) ∧ W0.grownBy W (some b2)

theorem grown_tr {A B C : World} {r : Option Nat} {b : Nat} (h : A.grownBy B (some b)) (k : B.grownBy C r) (hr : ∀ j, r = some j → A.heap.size ≤ j ∨ j = b) : A.grownBy C (some b) :=
  ⟨k.os.trans h.os, k.tape.trans h.tape, k.output.trans h.output, Nat.le_trans h.size k.size, fun j hj hne => (k.block j (Nat.lt_of_lt_of_le hj h.size) (fun e => by
    rcases hr j e.symm with h1 | h1
    · omega
    · exact hne (by rw [h1]))).trans (h.block j hj hne)⟩

theorem RI.grow {W0 : World} {b2 : Nat} {l : List (List UInt8)} {pre : List ByteArray} {W W' : World} {row : Option Nat} (h : RI W0 b2 l pre W) (hb2 : b2 < W0.heap.size) (hg : W.grownBy W' row) (hr : ∀ j, row = some j → W0.heap.size ≤ j) : RI W0 b2 l pre W' := by
  obtain ⟨⟨m, D, h1, h2, h3⟩, h4⟩ := h
  exact ⟨⟨m, D, h1.kept hg (fun e => by have := hr b2 e.symm; omega), h2, h3⟩, grown_tr h4 hg (fun j e => .inl (hr j e))⟩

theorem kc_below {W W' : World} (h : Below W.heap.size W W') : KC W W' := ⟨h.size, fun j cs t f e => (h.block j (Array.getElem?_eq_some_iff.1 e).1).trans e⟩
theorem kc_grown {W W' : World} {b n : Nat} {D : DataW Unit} (hm : OwM W b n D) (h : W.grownBy W' (some b)) : KC W W' := ⟨h.size, fun j cs t f e => (h.block j (Array.getElem?_eq_some_iff.1 e).1 (fun e' => by
  obtain ⟨es, ck, hb, _⟩ := hm
  rw [Option.some.inj e', hb] at e
  cases e)).trans e⟩

theorem kf_grown {W W' : World} {B b : Nat} (h : W.grownBy W' (some b)) (hb : b < B) : KeepsFrom B W W' := ⟨h.size, fun k o hk e _ => (h.block k (Array.getElem?_eq_some_iff.1 e).1 (fun e' => by have := Option.some.inj e'; omega)).trans e⟩
theorem kf_below {W W' : World} (B : Nat) (h : Below W.heap.size W W') : KeepsFrom B W W' := ⟨h.size, fun k o hk e _ => (h.block k (Array.getElem?_eq_some_iff.1 e).1).trans e⟩
theorem grown_bel {A B C : World} {b : Nat} (h : A.grownBy B (some b)) (k : Below B.heap.size B C) : A.grownBy C (some b) := ⟨k.os.trans h.os, k.tape.trans h.tape, k.output.trans h.output, Nat.le_trans h.size k.size, fun j hj hne => (k.block j (Nat.lt_of_lt_of_le hj h.size)).trans (h.block j hj hne)⟩
theorem OwM.bel {W W' : World} {b n : Nat} {D : DataW Unit} (h : OwM W b n D) (k : Below W.heap.size W W') : OwM W' b n D := h.kept (row := none) ⟨k.os, k.tape, k.output, k.size, fun j hj _ => k.block j hj⟩ (by simp)
theorem PW_size {E : Nat → tt.En} {N : Nat} {x : ByteArray} (h : x ∈ PW E N) : x.size = 13 := by
  obtain ⟨k, hk, h⟩ := mem_PW.1 h
  obtain ⟨i, hi, rfl⟩ := mem_pcs.1 h
  simp
  omega
/-- One word more, which is none of those looked for. -/
theorem RI.no {W0 : World} {b2 : Nat} {l : List (List UInt8)} {pre : List ByteArray} {x : ByteArray} {W W' : World} (h : RI W0 b2 l pre W) (k : Below W.heap.size W W') (hx : ¬ ∃ a ∈ l, a.take 13 = x.data.toList) : RI W0 b2 l (pre ++ [x]) W' := by
  obtain ⟨⟨m, D, h1, h2, h3⟩, h4⟩ := h
  refine ⟨⟨m, D, h1.bel k, by rw [List.length_append]; omega, fun y => (h3 y).trans ⟨fun ⟨p, z, hz, e⟩ => ⟨p, z, List.mem_append.2 (.inl hz), e⟩, fun ⟨p, z, hz, e⟩ => ⟨p, ?_⟩⟩⟩, grown_bel h4 k⟩
  rcases List.mem_append.1 hz with h | h
  · exact ⟨z, h, e⟩
  · rw [List.mem_singleton] at h
    subst h
    rw [e] at hx
    exact absurd p hx
/-- One word more that is looked for. -/
theorem RI.yes {W0 : World} {b2 m : Nat} {D : DataW Unit} {l : List (List UInt8)} {pre : List ByteArray} {x : ByteArray} {W W1 W2 : World} (h1 : OwM W b2 m D) (h2 : m ≤ pre.length) (h3 : ∀ y, Maps.has D (.string y) = true ↔ ((∃ a ∈ l, a.take 13 = y) ∧ ∃ x ∈ pre, x.data.toList = y)) (h4 : W0.grownBy W (some b2)) (k : Below W.heap.size W W1) (ho : OwM W2 b2 (m + 1) (D.put (.string x.data.toList) (.agg []))) (hg : W1.grownBy W2 (some b2)) (hx : ∃ a ∈ l, a.take 13 = x.data.toList) : RI W0 b2 l (pre ++ [x]) W2 := by
  refine ⟨⟨m + 1, _, ho, by simp; omega, fun y => ?_⟩, grown_tr (grown_bel h4 k) hg (fun j e => .inr (Option.some.inj e).symm)⟩
  rw [has_put h1.isMap, h3 y]
  constructor
  · rintro (⟨p, z, hz, e⟩ | rfl)
    · exact ⟨p, z, List.mem_append.2 (.inl hz), e⟩
    · exact ⟨hx, x, by simp, rfl⟩
  · rintro ⟨p, z, hz, e⟩
    rcases List.mem_append.1 hz with h | h
    · exact .inl ⟨p, z, h, e⟩
    · rw [List.mem_singleton] at h
      subst h
      exact .inr e.symm

set_option maxHeartbeats 4000000 in
set_option maxRecDepth 100000 in
theorem refs_any (l : List (List UInt8)) (g c b1 b2 n2 : Nat) (D2 : DataW Unit) (E : Nat → tt.En) (b o N cap : Nat) (w : World) (hbk : sr.Blk w g c l) (hcm : c ≤ maxLen) (hl : l.length ≤ 4000) (hla : ∀ a ∈ l, 15 ≤ a.length ∧ a.length ≤ 1048576) (hW : WM w b1 l) (hM : OwM w b2 n2 D2) (hne : b1 ≠ b2) (hE : tt.EnR w b o N E) (hS : tt.SmE N E) (hN : N ≤ 1048576) (hP : (PW E N).length ≤ 10000000) :
    Calls Tryz.prog 77 #[.agg #[.slice (some ⟨g, 0, none⟩) l.length c, .map (some b1), .map (some b2)], .slice (some ⟨b, o, none⟩) N cap] w fun e w' => (∃ v, e = .returned v ∧ sr.OwnS w.heap.size w' v (l.filter fun a => inB E N (a.take 13))) ∧ w.grownBy w' (some b2) ∧ ∃ n' D', OwM w' b2 n' D' := by
  obtain ⟨n1, D1, hW1, hW2⟩ := hW
  have hb1 := hW1.lt
  have hb2 := hM.lt
  have hgl := hbk.lt
  obtain ⟨Wc, hclr, hMc, hgc⟩ := clear_own (hM.alloc (.cells #[.slice (some ⟨g, 0, none⟩) l.length c, .map (some b1), .map (some b2)] 118))
  have hWcs : w.heap.size + 1 ≤ Wc.heap.size := by have := hgc.size; rwa [World.size_alloc] at this
  have hbx : ∀ j v, (#[.slice (some ⟨g, 0, none⟩) l.length c, .map (some b1), .map (some b2)] : Array Value)[j]? = some v → Wc.cell? ⟨w.heap.size, j, none⟩ = some v := fun j v hv => hgc.cell (a := ⟨w.heap.size, j, none⟩) (by simp [go_sem, hv]) (fun e => by have := Option.some.inj e; simp at this; omega)
  refine (callsIn_wide (n := 3)).1 ?_
  refine callsIn_of_wp_marks Tryz.func77 rfl trivial ?_ rfl
  simp only [Tryz.ntmps77, List.size_toArray, List.length_cons, List.length_nil, Nat.reduceAdd, Nat.reduceSub, Array.replicate_succ, Array.replicate_zero, List.push_toArray, List.append_toArray, List.nil_append, List.cons_append]
  gi_wp2_with (refine ⟨trivial, ?_⟩; gi_at_call 104; refine (callsIn_wide.2 (wordsIn_any b o N cap _)).mono ?_; rintro e w' ⟨rfl, rfl⟩)
  rename_i Q0 K0 hK0
  obtain ⟨W0, hW0⟩ : ∃ W0, Wc.alloc (.cells #[.slice (some ⟨b, o, none⟩) N cap] 49) = W0 := ⟨_, rfl⟩
  have hs0 : W0.heap.size = Wc.heap.size + 1 := by rw [← hW0, World.size_alloc]
  have hb0 : Below Wc.heap.size Wc W0 := by rw [← hW0]; exact (Below.refl _ _).alloc (Nat.le_refl _) _
  have hbw : W0.cell? ⟨Wc.heap.size, 0, none⟩ = some (.slice (some ⟨b, o, none⟩) N cap) := by rw [← hW0]; simp [go_sem]
  rw [hW0]
  clear hW0
  have hwg : w.grownBy W0 (some b2) := by
    refine grown_bel ?_ hb0
    exact ⟨hgc.os, hgc.tape, hgc.output, by have := hgc.size; rw [World.size_alloc] at this; omega, fun k hk hne => (hgc.block k (by rw [World.size_alloc]; omega) hne).trans (Below.heap_alloc _ _ _ hk)⟩
  have hE0 : tt.EnR W0 b o N E := fun i hi => by
    obtain ⟨e0, e1, e2, e3⟩ := hE i hi
    have hk : ∀ j v, w.cell? ⟨b, j, none⟩ = some v → W0.cell? ⟨b, j, none⟩ = some v := fun j v h => hwg.cell h (fun e => by
      have e := Option.some.inj e
      simp only at e
      obtain ⟨es, ck, hbb, _⟩ := hM
      rw [e] at h
      simp [World.cell?, hbb] at h)
    exact ⟨hk _ _ e0, hk _ _ e1, hk _ _ e2, hk _ _ e3⟩
  have hI0 : RI W0 b2 l [] W0 := ⟨⟨0, _, hMc.bel hb0, Nat.zero_le _, fun y => by simp [Maps.has]⟩, ⟨rfl, rfl, rfl, Nat.le_refl _, fun _ _ _ => rfl⟩⟩
  have HBX : Hid (∀ W, W0.grownBy W (some b2) → W.cell? ⟨w.heap.size, 0, none⟩ = some (.slice (some ⟨g, 0, none⟩) l.length c) ∧ W.cell? ⟨w.heap.size, 1, none⟩ = some (.map (some b1)) ∧ W.cell? ⟨w.heap.size, 2, none⟩ = some (.map (some b2))) := fun W h => by
    have hk : ∀ j v, (#[.slice (some ⟨g, 0, none⟩) l.length c, .map (some b1), .map (some b2)] : Array Value)[j]? = some v → W.cell? ⟨w.heap.size, j, none⟩ = some v := fun j v hv => h.cell ((hb0.cell (p := ⟨w.heap.size, j, none⟩) (World.block_lt_of_cell? _ _ (hbx j v hv))).trans (hbx j v hv)) (fun e => by have := Option.some.inj e; simp at this; omega)
    exact ⟨hk 0 _ rfl, hk 1 _ rfl, hk 2 _ rfl⟩
  have HW1 : Hid (∀ W, W0.grownBy W (some b2) → OwM W b1 n1 D1) := fun W h => (hW1.kept hwg (by simpa using hne)).kept h (by simpa using hne)
  have HPS : Hid (∀ x, x ∈ PW E N → x.size = 13) := fun x hx => PW_size hx
  have HPL : Hid ((PW E N).length ≤ 10000000) := hP
  have HW2 : Hid (∀ y, Maps.has D1 (.string y) = true ↔ ∃ a ∈ l, a.take 13 = y) := hW2
  clear hP hW2
  refine range_t (by decide) (gf := 134) (lb := #[.pointer (some ⟨Wc.heap.size, 0, none⟩)]) rfl (enters_of Tryz.func134 (by kernel_rfl) rfl)
    (words_hands 2 Wc.heap.size E b o N cap W0 (by decide) hbw hE0 hS hN) (fun r e => e.elim)
    (fun A X C h1 h2 => h1.trans h2)
    (fun W lk ob o' hl h1 h2 h3 => ⟨by simp, fun j cs t f e => (World.putObj_heap_other (fun e' => by
      subst e'
      rw [h1] at e
      cases e
      cases h2)).trans e⟩) rfl
    (RI W0 b2 l) (fun _ _ => False)
    (fun s W W' row h hg hr => h.grow (by omega) hg (fun j e => (hr j e).1)) (fun s W W' row h hg hr => h)
    (fun s W W' row h hg hr => h.grow (by omega) hg (fun j e => (hr j e).elim)) (fun s W W' row h hg hr => h)
    hI0
    (fun x => { tmps := #[.agg #[.slice (some ⟨g, 0, none⟩) l.length c, .map (some b1), .map (some b2)], .slice (some ⟨b, o, none⟩) N cap, .pointer (some ⟨w.heap.size, 0, none⟩), undef, .slice none 0 0, .string x, undef, undef, undef, .pointer (some ⟨w.heap.size, 2, none⟩), .map (some b2), .slice (some ⟨b, o, none⟩) N cap, .func (.func 134) #[] #[.pointer (some ⟨Wc.heap.size, 0, none⟩)], .string x, undef, undef, undef, undef, undef, undef, undef, undef, undef, undef, undef, undef, undef, undef, undef, undef, undef, undef, undef, undef, undef, undef, undef, undef, undef, undef, undef, undef], defers := [] })
    ?assign ?body ?done ?stop
  case assign =>
    intro lk x W K hK
    gi_wp2
    exact hK
  case stop =>
    intro D pre W hD hp hx hK
    exact hx.elim
  case body =>
    intro lk pre x W hi hp
    have hx13 := HPS.out x (hp.subset (by simp : x ∈ pre ++ [x]))
    have hpl : pre.length + 1 ≤ 10000000 := by
      have := hp.length_le
      rw [List.length_append] at this
      exact Nat.le_trans this HPL.out
    have HRI := Lib.hid hi
    obtain ⟨⟨m, D, d1, d2, d3⟩, hg0⟩ := hi
    obtain ⟨q0, q1, q2⟩ := HBX.out _ hg0
    have HHS : Hid (Calls Tryz.prog 105 #[.map (some b1), .string x] W fun e w' => e = .returned (.bool (Maps.has D1 (.string x.data.toList))) ∧ Below W.heap.size W w') := has_any x (by omega) b1 n1 D1 W (HW1.out W hg0)
    cases hh : Maps.has D1 (.string x.data.toList) with
    | false =>
      rw [hh] at HHS
      have HNX : Hid (∀ W', Below W.heap.size W W' → KeepsFrom W0.heap.size W W' ∧ KC W W' ∧ RI W0 b2 l (pre ++ [x]) W') := fun W' k => ⟨kf_below _ k, kc_below k, HRI.out.no k (fun h => by rw [(HW2.out _).2 h] at hh; cases hh)⟩
      clear hh d1 d2 d3 hg0
      gi_wp2_with (refine ⟨trivial, ?_⟩; gi_at_call 105; refine (CallsIn.inRound lk (callsIn_wide.2 HHS.out)).mono ?_; rintro e w1 ⟨rfl, hb1⟩; have HK1 := Lib.hid (HNX.out _ hb1); clear hb1)
      have hk1 := HK1.out
      rwa [hs0] at hk1
    | true =>
      rw [hh] at HHS
      have HAD : Hid (∀ W1, Below W.heap.size W W1 → Calls Tryz.prog 103 #[.map (some b2), .string x] W1 fun e w' => (∃ v, e = .returned v) ∧ OwM w' b2 (m + 1) (D.put (.string x.data.toList) (.agg [])) ∧ W1.grownBy w' (some b2)) := fun W1 k => add_any x (by omega) b2 m (by omega) D W1 (d1.bel k)
      have HNX : Hid (∀ W1 W2, Below W.heap.size W W1 → OwM W2 b2 (m + 1) (D.put (.string x.data.toList) (.agg [])) → W1.grownBy W2 (some b2) → KeepsFrom W0.heap.size W W2 ∧ KC W W2 ∧ RI W0 b2 l (pre ++ [x]) W2) := fun W1 W2 k ho hg => ⟨(kf_below _ k).trans (kf_grown hg (by omega)), (kc_below k).trans (kc_grown (d1.bel k) hg), RI.yes d1 d2 d3 hg0 k ho hg ((HW2.out _).1 hh)⟩
      have HQ : Hid (∀ W1, Below W.heap.size W W1 → W1.cell? ⟨w.heap.size, 2, none⟩ = some (.map (some b2))) := fun W1 k => (k.cell (p := ⟨w.heap.size, 2, none⟩) (World.block_lt_of_cell? _ _ q2)).trans q2
      clear hh d1 d2 d3 hg0 q2
      gi_wp2_with (first
        | (refine ⟨trivial, ?_⟩; gi_at_call 105; refine (CallsIn.inRound lk (callsIn_wide.2 HHS.out)).mono ?_; rintro e w1 ⟨rfl, hb1⟩; have HB1 := Lib.hid hb1; have q2 := HQ.out _ hb1; clear hb1)
        | (refine ⟨trivial, ?_⟩; gi_at_call 103; refine (CallsIn.inRound lk (callsIn_wide.2 (HAD.out _ HB1.out))).mono ?_; rintro e w2 ⟨⟨v, rfl⟩, ho2, hg2⟩; have HF2 := Lib.hid (HNX.out _ _ HB1.out ho2 hg2); clear ho2 hg2))
      have hk1 := HF2.out
      rwa [hs0] at hk1
  case done =>
    intro Dd W hD hi hK
    refine hK0 _ _ (wpIn_wide.2 ?_)
    clear hK0
    obtain ⟨⟨m, D, d1, d2, d3⟩, hg0⟩ := hi
    obtain ⟨q0, q1, q2⟩ := HBX.out _ hg0
    have HD1 : Hid (OwM W b2 m D) := d1
    have HQ2 : Hid (∀ W1, Below W.heap.size W W1 → W1.cell? ⟨w.heap.size, 2, none⟩ = some (.map (some b2))) := fun W1 k => (k.cell (p := ⟨w.heap.size, 2, none⟩) (World.block_lt_of_cell? _ _ q2)).trans q2
    have hgb : g ≠ b2 := fun e => by
      obtain ⟨cs, hb, _⟩ := hbk.row
      obtain ⟨es, ck, hb', _⟩ := hM
      rw [e, hb'] at hb
      cases hb
    have HBK : Hid (∀ W1, Below W.heap.size W W1 → ∀ i x, l[i]? = some x → W1.cell? ⟨g, i, none⟩ = some (.string ⟨x.toArray⟩)) := fun W1 k i x hx => by
      have h1 := hbk.kept (hwg.block g hgl (fun e => hgb (Option.some.inj e)))
      have h2 := h1.kept (w' := W) (hg0.block g h1.lt (fun e => hgb (Option.some.inj e)))
      have h3 := h2.kept (w' := W1) (k.block g h2.lt)
      obtain ⟨bb, off, cap, e, _, _, hcc⟩ := h3.row' hcm
      cases e
      have := hcc i x hx
      rwa [Nat.zero_add] at this
    have HHS0 : Hid (∀ a ∈ l, Maps.has D (.string (a.take 13)) = inB E N (a.take 13)) := fun a ha => by
      have hl13 : (a.take 13).length = 13 := by rw [List.length_take]; have := (hla a ha).1; omega
      have h1 := d3 (a.take 13)
      rw [← inE_PW hl13, ← inB_iff] at h1
      cases hq : inB E N (a.take 13) with
      | true => exact h1.2 ⟨⟨a, ha, rfl⟩, hq⟩
      | false =>
        cases hq' : Maps.has D (.string (a.take 13)) with
        | false => rfl
        | true => rw [(h1.1 hq').2] at hq; cases hq
    have HLA : Hid (∀ a ∈ l, 15 ≤ a.length ∧ a.length ≤ 1048576) := hla
    have HEND : Hid (∀ (w' : World) (v : Value), Below W.heap.size W w' → sr.OwnS W.heap.size w' v (l.filter fun a => inB E N (a.take 13)) → w'.heap[Dd]? = some (.deferred (some [])) ∧ ((∃ v', Ending.returned v = .returned v' ∧ sr.OwnS w.heap.size (w'.putObj Dd (.deferred none)) v' (l.filter fun a => inB E N (a.take 13))) ∧ w.grownBy (w'.putObj Dd (.deferred none)) (some b2) ∧ ∃ n' D', OwM (w'.putObj Dd (.deferred none)) b2 n' D')) := fun w' v k ho => by
      have hh := (Array.getElem?_eq_some_iff.1 hK).1
      have hd := (k.block Dd hh).trans hK
      have hsz := hwg.size
      have hsz2 := hg0.size
      refine ⟨hd, ⟨v, rfl, ?_, ho.2⟩, grown_tr (grown_bel (grown_tr hwg hg0 (fun j e => .inr (Option.some.inj e).symm)) k) (grownBy_putObj' w' Dd (.deferred none)) (fun j e => .inl (by have := Option.some.inj e; omega)), m, D, (HD1.out.bel k).kept (grownBy_putObj' w' Dd (.deferred none)) (fun e => ?_)⟩
      rotate_left
      · obtain ⟨es, ck, hb', _⟩ := HD1.out.bel k
        rw [Option.some.inj e, hd] at hb'
        cases hb'
      refine (ho.mono (by omega)).1.kept (grownBy_putObj' w' Dd (.deferred none)) (.inr fun e => ?_)
      rcases ho.1.2 with hn | ⟨g', cap', cur, rfl, hb', hgg, rest⟩
      · exact ho.2 hn.1
      · have e' : g' = Dd := Option.some.inj e
        rw [e', hd] at hgg
        cases hgg
    obtain ⟨F, hF⟩ : ∃ F : List UInt8 → Bool, (fun a => inB E N (a.take 13)) = F := ⟨_, rfl⟩
    have HFF : Hid ((fun a => inB E N (a.take 13)) = F) := hF
    have hFa : ∀ a, inB E N (a.take 13) = F a := fun a => by rw [← hF]
    have HHS1 : Hid (∀ a ∈ l, Maps.has D (.string (a.take 13)) = F a) := fun a ha => by rw [← hFa]; exact HHS0.out a ha
    obtain ⟨M, hMM⟩ : ∃ t, l.length = t := ⟨_, rfl⟩
    have HXN : Hid (l.length = M) := hMM
    have hM4 : M ≤ 4000 := by omega
    rw [hMM] at q0
    have HFL : Hid (∀ i, ((l.take i).filter F).length ≤ 4000) := fun i => by
      have h1 := List.length_filter_le F (l.take i)
      rw [List.length_take] at h1
      omega
    clear d1 d2 d3 hg0 hla hbk hM hE hS hN hW1 hclr hMc hgc hbx hwg hE0 hI0 hMM hFa hF HHS0 HPS HPL HW2 HW1 HBX hbw hb0 hl hcm hgb q1
    have hlt : w.heap.size < W.heap.size := World.block_lt_of_cell? _ _ q0
    have hln : ¬ W.heap.size = w.heap.size := by omega
    have hln' : ¬ w.heap.size = W.heap.size := by omega
    have qa : (W.alloc (.cells #[] 9)).cell? ⟨w.heap.size, 0, none⟩ = some (.slice (some ⟨g, 0, none⟩) M c) := (World.cell?_of_block (a := ⟨w.heap.size, 0, none⟩) (Below.heap_alloc _ _ _ hlt)).trans q0
    go_wp2
    go_loopw [6, 26] (fun v y wr => ∃ i : Nat, i ≤ M ∧ y = .int .i64 (i : Int) ∧ sr.OwnS W.heap.size wr v ((l.take i).filter F) ∧ Below W.heap.size W wr) (fun _ y _ => M - (intOf y).toNat)
    case atStart => exact ⟨0, Nat.zero_le _, rfl, ⟨by rw [List.take_zero, List.filter_nil]; exact sr.own_zero W, sr.not_nil _ _ _⟩, (Below.refl _ _).alloc (Nat.le_refl _) _⟩
    case round =>
      obtain ⟨i, hi, rfl, hrow, hbel⟩ := hrel
      have HBE : Hid (Below W.heap.size W wr) := hbel
      have HRW : Hid (sr.OwnS W.heap.size wr u6 ((l.take i).filter F)) := hrow
      clear hrow
      by_cases hil : i < M
      · have hil' : (i : Int) < (M : Int) := by omega
        have hi0 : (0 : Int) ≤ (i : Int) := by omega
        obtain ⟨x, hx⟩ : ∃ x, l[i]? = some x := ⟨_, List.getElem?_eq_getElem (by rw [HXN.out]; exact hil)⟩
        obtain ⟨hx15, hxl⟩ := HLA.out x (List.mem_of_getElem? hx)
        have c0 := HBK.out _ hbel i x hx
        have p2 := HQ2.out _ hbel
        have hsz : (⟨x.toArray⟩ : ByteArray).size = x.length := by show x.toArray.size = _; simp
        have hext : ((⟨x.toArray⟩ : ByteArray).extract 0 13).data.toList = x.take 13 := by rw [tt.bytes_ext]; simp
        have HHS : Hid (∀ W', Below W.heap.size W W' → Calls Tryz.prog 105 #[.map (some b2), .string ((⟨x.toArray⟩ : ByteArray).extract 0 13)] W' fun e w' => e = .returned (.bool (F x)) ∧ Below W'.heap.size W' w') := fun W' k => by
          have := has_any ((⟨x.toArray⟩ : ByteArray).extract 0 13) (by simp; omega) b2 m D W' (HD1.out.bel k)
          rwa [hext, HHS1.out x (List.mem_of_getElem? hx)] at this
        have HCL : Hid (∀ W' : World, Calls Tryz.prog 87 #[.string ⟨x.toArray⟩] W' fun e w' => e = .returned (.string ⟨x.toArray⟩) ∧ Below W'.heap.size W' w') := fun W' => cl.clone_any _ W' (by omega)
        have htk : l.take (i + 1) = l.take i ++ [x] := by rw [List.take_add_one, hx]; rfl
        have HNX : Hid ((l.take (i + 1)).filter F = (l.take i).filter F ++ [x].filter F) := by show _ = _; rw [htk, List.filter_append]
        obtain ⟨q, hq⟩ : ∃ q, F x = q := ⟨_, rfl⟩
        have HFX : Hid (F x = q) := hq
        rw [hq] at HHS
        obtain ⟨s, hs⟩ : ∃ s : ByteArray, (⟨x.toArray⟩ : ByteArray) = s := ⟨_, rfl⟩
        have HSX : Hid (sr.strL x = .string s) := by show _ = _; rw [← hs]; rfl
        rw [hs] at c0 HHS HCL hsz
        have h13 : (13 : Int) ≤ (s.size : Int) := by omega
        clear hs hsz hext hx hx15 hxl htk hq hbel
        go_wp2_with fail
        go_region_held3 (fun W => W.cell? ⟨w.heap.size, 2, none⟩ = some (.map (some b2)))
          (first | exact p2 | exact HQ2.out _ HB2.out | go_keep)
          (((go_at_call 105; refine (HHS.out _ HBE.out.drew).mono ?_; rintro e w2 ⟨rfl, hb2'⟩; have HB2 : Hid (Below W.heap.size W w2) := HBE.out.drew.trans (hb2'.mono HBE.out.drew.size); have HO2 : Hid (sr.OwnS W.heap.size w2 u6 ((l.take i).filter F)) := sv.OwnS.bel HRW.out ((Below.refl _ wr).drew.trans (hb2'.mono (by simp))); clear hb2')))
        cases q with
        | false =>
          go_wp2_with fail
          go_roundw
          case rel => exact ⟨i + 1, by omega, by go_num, by rw [HNX.out, List.filter_cons_of_neg (by rw [HFX.out]; simp), List.filter_nil, List.append_nil]; exact HO2.out, HB2.out⟩
          case measure => simp [intOf]; omega
        | true =>
          go_wp2_with (go_at_call 87; refine (HCL.out _).mono ?_; rintro e w3 ⟨rfl, hb3⟩; have HB3 : Hid (Below W.heap.size W w3) := HB2.out.trans (hb3.mono HB2.out.size); have HO3 : Hid (sr.OwnS W.heap.size w3 u6 ((l.take i).filter F)) := sv.OwnS.bel HO2.out hb3; clear hb3; refine Hid.out ?_)
          refine Lib.hid ?_
          have hfl := HFL.out i
          have HO3' : Hid (∀ ob, (w3.alloc ob).ownsRow W.heap.size 9 1 u6 ((l.take i).filter F).length (((l.take i).filter F).map sr.strL)) := fun ob => HO3.out.1.alloc _
          have HNE : Hid (∀ j u, ([x].map sr.strL)[j]? = some u → (w3.alloc (.cells #[.string s] 9)).cell? ((⟨w3.heap.size, 0, none⟩ : Addr).add j) = some u) := by
            have := sr.one_at w3 x
            rw [HSX.out] at this
            exact this
          have HS3 : Hid (∀ ob, W.heap.size ≤ (w3.alloc ob).heap.size) := fun ob => by rw [World.size_alloc]; exact Nat.le_trans HB3.out.size (by omega)
          obtain ⟨zs, hzs⟩ : ∃ zs, (l.take i).filter F = zs := ⟨_, rfl⟩
          rw [hzs] at hfl HO3' HNX
          have HOK : Hid (u6 ≠ .slice none 0 0) := HO3.out.2
          clear hzs HRW HO2 HO3
          go_wp2_with (first
            | (at_builtin; refine sr.app_str _ rfl _ _ rfl W.heap.size u6 zs rfl (HO3'.out _) HOK.out ⟨w3.heap.size, 0, none⟩ 1 1 [x] rfl rfl HNE.out (by omega) (HS3.out _) ?_; intro v4 w4 hown4 hv4 hg4; refine Hid.out ?_)
            | go_in)
          refine Lib.hid ?_
          have HB4 : Hid (Below W.heap.size W w4) := (HB3.out.alloc HB3.out.size _).grown hg4 (HS3.out _) (fun k hk => ((HO3'.out (.map #[] 0)).lt k hk).1)
          have HO4 : Hid (sr.OwnS W.heap.size w4 v4 ((l.take (i + 1)).filter F)) := by
            show sr.OwnS _ _ _ _
            rw [HNX.out, List.filter_cons_of_pos (by rw [HFX.out]), List.filter_nil]
            exact ⟨hown4, hv4⟩
          clear hown4 hv4 hg4
          go_wp2
          go_roundw
          case rel => exact ⟨i + 1, by omega, by go_num, HO4.out, HB4.out⟩
          case measure => simp [intOf]; omega
      · have hil' : ¬ (i : Int) < (M : Int) := by omega
        obtain rfl : i = M := by omega
        clear hbel
        have hfin := HEND.out wr u6 HBE.out (by
          have := HRW.out
          rwa [List.take_of_length_le (by rw [HXN.out]; exact Nat.le_refl _), ← HFF.out] at this)
        have HFIN := Lib.hid hfin
        clear hfin HEND
        go_wp2
        refine ⟨by simp, .inl ⟨_, _, rfl, run_takeDeferred HFIN.out.1, ⟨u6, ?_, HFIN.out.2⟩⟩⟩
        simp [results, Tryz.results77, go_sem]

end Go.Proofs.YtkmhaemcpakobaaGreatDoor.rf

namespace Go.Proofs.YtkmhaemcpakobaaGreatDoor.rf
open Go.ChangeShapes Go.WideShapes Go.ChangeAt Go.RowKit Go.Deep Go.Shelf Go.Sort Go.Maps
set_option linter.unusedVariables false
set_option linter.unusedSimpArgs false

/-! ### References: both RefsIn -/

theorem tree_is {E : Nat → tt.En} {n : Nat} (h : tt.treeB E n = true) : n ≤ 500 ∧ tt.Tr E n := by unfold tt.treeB at h; exact (@decide_eq_true_iff _ (Classical.propDecidable _)).1 h
theorem PW_len {E : Nat → tt.En} {B : Nat} : ∀ {N : Nat}, (∀ i, i < N → (E i).data.size ≤ B) → (PW E N).length ≤ N * B
  | 0, _ => by simp [PW]
  | N + 1, h => by
    have h1 := PW_len (E := E) (B := B) (N := N) (fun i hi => h i (by omega))
    have h2 := h N (by omega)
    rw [PW, List.length_append, pcs_len, Nat.add_mul]
    omega
theorem eOk_data {e : tt.En} (h : tt.eOk e = true) : e.data.size ≤ 20000 := by
  unfold tt.eOk tt.cOk at h
  simp only [Bool.and_eq_true, decide_eq_true_eq] at h
  exact h.2.1
/-- What both answer. -/
noncomputable def rfA (E : Nat → tt.En) (n : Nat) (xs : List (List UInt8)) : List (List UInt8) := if tt.treeB E n = true ∧ xs.length ≤ 2000 then rfs E n xs else []

theorem nil_row (w : World) : sr.OwnS w.heap.size (w.alloc (.cells #[] 9)) (.slice (some ⟨w.heap.size, 0, none⟩) 0 0) [] := ⟨sr.own_zero w, sr.not_nil _ _ _⟩

set_option maxHeartbeats 4000000 in
set_option maxRecDepth 100000 in
theorem irefs_any (E : Nat → tt.En) (b n cap : Nat) (xs : List (List UInt8)) (hx : ∀ x ∈ xs, x.length ≤ 1048576) (va : Option Addr) (xc : Nat) (w : World) (hR : tt.EnR w b 0 n E) (hS : tt.SmE n E) (hn : n ≤ 1048576) (hm : tt.ML w) (hC : tt.AtC E) (hX : sr.StrR w (.slice va xs.length xc) xs) (hxl : xs.length ≤ 1048576) (hT : wd.TabB w) :
    Calls Tryz.prog 47 #[.slice (some ⟨b, 0, none⟩) n cap, .slice va xs.length xc] w fun e w' => (∃ v, e = .returned v ∧ sr.OwnS w.heap.size w' v (rfA E n xs)) ∧ Below w.heap.size w w' := by
  have HT : Hid (Calls Tryz.prog 75 #[.slice (some ⟨b, 0, none⟩) n cap] w fun e w' => e = .returned (.bool (tt.treeB E n)) ∧ Below w.heap.size w w') := tt.itree_any E b 0 n cap w hR hS hn hm hC
  obtain ⟨q, hq⟩ : ∃ q, tt.treeB E n = q := ⟨_, rfl⟩
  rw [hq] at HT
  cases q with
  | false =>
    have HA : Hid (rfA E n xs = []) := by show _ = _; unfold rfA; rw [if_neg]; rw [hq]; simp
    rw [HA.out]
    clear hq hR hS hm hC hX hx
    go_enter Tryz.func47, Tryz.ntmps47
    go_wp2_with (go_at_call 75; refine HT.out.mono ?_; rintro e w1 ⟨rfl, hl1⟩)
    go_ret
    exact ⟨⟨_, rfl, (nil_row w1).mono hl1.size⟩, hl1.alloc hl1.size _⟩
  | true =>
    by_cases hlen : xs.length ≤ 2000
    · have hlen' : ¬ (2000 : Int) < (xs.length : Int) := by omega
      have HA : Hid (rfA E n xs = rfs E n xs) := by show _ = _; unfold rfA; rw [if_pos ⟨hq, hlen⟩]
      have HLK : Hid (∀ W, Below w.heap.size w W → Calls Tryz.prog 76 #[.slice va xs.length xc] W fun e w' => LkR W w' e (sr.adr xs) ∧ Below W.heap.size W w') := fun W k => lookoutFor_any xs hx _ W (hX.below k) (by omega) (hT.below k)
      obtain ⟨h500, htr⟩ := tree_is hq
      have hPW : (PW E n).length ≤ 10000000 := by
        have h1 := PW_len (E := E) (B := 20000) (N := n) (fun i hi => eOk_data (htr.1 i hi))
        have h2 : n * 20000 ≤ 500 * 20000 := Nat.mul_le_mul_right _ h500
        omega
      have hal := sr.adr_len xs
      have hla : ∀ a ∈ sr.adr xs, 15 ≤ a.length ∧ a.length ≤ 1048576 := fun a ha => by
        unfold sr.adr at ha
        rw [sr.fold_mem, List.mem_filter] at ha
        rcases ha with h | ⟨h1, h2⟩
        · cases h
        · exact ⟨adr_long h2, hx a h1⟩
      have HRF : Hid (∀ W g c b1 b2, Below w.heap.size w W → c ≤ maxLen → b1 ≠ b2 → sr.Blk W g c (sr.adr xs) → WM W b1 (sr.adr xs) → OwM W b2 0 (.map []) → Calls Tryz.prog 77 #[.agg #[.slice (some ⟨g, 0, none⟩) (sr.adr xs).length c, .map (some b1), .map (some b2)], .slice (some ⟨b, 0, none⟩) n cap] W fun e w' => (∃ v, e = .returned v ∧ sr.OwnS W.heap.size w' v (rfs E n xs)) ∧ W.grownBy w' (some b2)) := fun W g c b1 b2 k h1 h2 h3 h4 h5 => (refs_any (sr.adr xs) g c b1 b2 0 _ E b 0 n cap W h3 h1 (by omega) hla h4 h5 h2 (hR.below k) hS hn hPW).mono fun e w' ⟨g1, g2, _⟩ => ⟨g1, g2⟩
      rw [HA.out]
      obtain ⟨m, hmm⟩ : ∃ m, xs.length = m := ⟨_, rfl⟩
      rw [hmm] at hlen' HLK ⊢
      clear hq hR hS hm hC hX hx hPW hla htr hal hlen hxl hmm hT
      go_enter Tryz.func47, Tryz.ntmps47
      go_wp2_with (first
        | (go_at_call 75; refine HT.out.mono ?_; rintro e w1 ⟨rfl, hl1⟩; have HL1 := Lib.hid hl1; clear hl1)
        | (go_at_call 76; refine (HLK.out _ HL1.out).mono ?_; rintro e w2 ⟨⟨g, c, b1, b2, rfl, hg, hb1, hb2, hne, hcm, hbk, hwm, hom⟩, hl2⟩; have HL2 := Lib.hid hl2; have HBK := Lib.hid hbk; have HWM := Lib.hid hwm; have HOM := Lib.hid hom; clear hl2 hbk hwm hom)
        | (go_at_call 77; refine (HRF.out _ _ _ _ _ (HL1.out.trans (HL2.out.mono HL1.out.size)) hcm hne HBK.out HWM.out HOM.out).mono ?_; rintro e w3 ⟨⟨v, rfl, ho3⟩, hg3⟩; have HO3 := Lib.hid ho3; have HG3 := Lib.hid hg3; clear ho3 hg3))
      go_ret
      have hB : Below w.heap.size w w2 := HL1.out.trans (HL2.out.mono HL1.out.size)
      exact ⟨⟨_, rfl, HO3.out.mono hB.size⟩, hB.grown HG3.out hB.size (fun k hk => by have := Option.some.inj hk; have := HL1.out.size; omega)⟩
    · have hlen' : (2000 : Int) < (xs.length : Int) := by omega
      have HA : Hid (rfA E n xs = []) := by show _ = _; unfold rfA; rw [if_neg (fun h => hlen h.2)]
      rw [HA.out]
      clear hq hR hS hm hC hX hx
      go_enter Tryz.func47, Tryz.ntmps47
      go_wp2_with (go_at_call 75; refine HT.out.mono ?_; rintro e w1 ⟨rfl, hl1⟩)
      go_ret
      exact ⟨⟨_, rfl, (nil_row w1).mono hl1.size⟩, hl1.alloc hl1.size _⟩

end Go.Proofs.YtkmhaemcpakobaaGreatDoor.rf

namespace Go.Proofs.YtkmhaemcpakobaaGreatDoor.so
open Go.ChangeShapes Go.WideShapes Go.ChangeAt Go.RowKit Go.Deep
set_option linter.unusedVariables false
set_option linter.unusedSimpArgs false

/-! ### Stores: texts held equal -/

def eqT (l : List ByteArray) (zs : List (List UInt8)) : Bool := decide (l.map (fun x => x.data.toList) = zs)
theorem eqT_len {l : List ByteArray} {zs : List (List UInt8)} (h : l.length ≠ zs.length) : eqT l zs = false := decide_eq_false fun e => h (by rw [← e]; simp)
theorem eqT_at {l : List ByteArray} {zs : List (List UInt8)} {i : Nat} {x : ByteArray} {z : List UInt8} (hx : l[i]? = some x) (hz : zs[i]? = some z) (h : x.data.toList ≠ z) : eqT l zs = false := decide_eq_false fun e => h (by
  rw [← e, List.getElem?_map, hx] at hz
  exact Option.some.inj hz)
theorem eqT_all {l : List ByteArray} {zs : List (List UInt8)} (hl : l.length = zs.length) (h : ∀ j x z, j < l.length → l[j]? = some x → zs[j]? = some z → x.data.toList = z) : eqT l zs = true := decide_eq_true (by
  apply List.ext_getElem (by simpa using hl)
  intro j h1 h2
  rw [List.getElem_map]
  exact h j _ _ (by simpa using h1) (List.getElem?_eq_getElem (by simpa using h1)) (List.getElem?_eq_getElem h2))

set_option maxHeartbeats 2000000 in
set_option maxRecDepth 100000 in
theorem equal_any (a1 : Option Addr) (c1 : Nat) (l : List ByteArray) (zs : List (List UInt8)) (v2 : Value) (w : World) (h1 : ty.SrcS none w a1 l) (hl : l.length ≤ 1048576) (h2 : sr.StrR w v2 zs) :
    Calls Tryz.prog 46 #[.slice a1 l.length c1, v2] w fun e w' => e = .returned (.bool (eqT l zs)) ∧ Below w.heap.size w w' := by
  obtain ⟨b2, o2, cp, rfl, hle, hm, hc2⟩ := h2
  have H1 : Hid (ty.SrcS none w a1 l) := h1
  have H2 : Hid (∀ i x, zs[i]? = some x → w.cell? ⟨b2, o2 + i, none⟩ = some (sr.strL x)) := hc2
  by_cases hlen : l.length = zs.length
  · obtain ⟨n, hn⟩ : ∃ n, l.length = n := ⟨_, rfl⟩
    have HN : Hid (l.length = n) := hn
    have HZ : Hid (zs.length = n) := hlen.symm.trans hn
    have HAL : Hid ((∀ j x z, j < n → l[j]? = some x → zs[j]? = some z → x.data.toList = z) → eqT l zs = true) := fun h => eqT_all hlen (by rw [hn]; exact h)
    rw [← hlen, hn]
    rw [hn] at hl
    obtain ⟨V, hV⟩ : ∃ V, eqT l zs = V := ⟨_, rfl⟩
    have HV : Hid (eqT l zs = V) := hV
    rw [hV]
    clear h1 hc2 hlen hn hV hle hm
    go_enter Tryz.func46, Tryz.ntmps46
    go_wp2
    go_loopw [13] (fun y wr => ∃ k : Nat, k ≤ n ∧ y = .int .i64 (k : Int) ∧ (∀ j x z, j < k → l[j]? = some x → zs[j]? = some z → x.data.toList = z) ∧ Below w.heap.size w wr) (fun y _ => n - (intOf y).toNat)
    case atStart => exact ⟨0, Nat.zero_le _, rfl, fun j x z h => by omega, Below.refl _ _⟩
    case round =>
      obtain ⟨k, hk, rfl, hall, hbel⟩ := hrel
      have HA : Hid (∀ j x z, j < k → l[j]? = some x → zs[j]? = some z → x.data.toList = z) := hall
      have HBE : Hid (Below w.heap.size w wr) := hbel
      clear hall
      by_cases hkn : k < n
      · have hkn' : (k : Int) < (n : Int) := by omega
        have hk0 : (0 : Int) ≤ (k : Int) := by omega
        obtain ⟨x, hx⟩ : ∃ x, l[k]? = some x := ⟨_, List.getElem?_eq_getElem (by rw [HN.out]; exact hkn)⟩
        obtain ⟨z, hz⟩ : ∃ z, zs[k]? = some z := ⟨_, List.getElem?_eq_getElem (by rw [HZ.out]; exact hkn)⟩
        rcases H1.out with ⟨_, h⟩ | ⟨b, o, rfl, _, hc⟩
        · rw [h] at hx; simp at hx
        have g1 := (hbel.cell (p := ⟨b, _, none⟩) (World.block_lt_of_cell? _ _ (hc k x hx))).trans (hc k x hx)
        have g2 := (hbel.cell (p := ⟨b2, _, none⟩) (World.block_lt_of_cell? _ _ (H2.out k z hz))).trans (H2.out k z hz)
        have hst : sr.strL z = .string ⟨z.toArray⟩ := rfl
        rw [hst] at g2
        obtain ⟨s, hs⟩ : ∃ s : ByteArray, (⟨z.toArray⟩ : ByteArray) = s := ⟨_, rfl⟩
        have HS : Hid (s.toList = z) := by show _ = _; rw [← hs, ByteArray.toList_eq]
        rw [hs] at g2
        have HX : Hid (x.toList = x.data.toList) := ByteArray.toList_eq x
        have HLX : Hid (l[k]? = some x ∧ zs[k]? = some z) := ⟨hx, hz⟩
        clear hs hst hx hz hc hbel
        by_cases he : x.toList = s.toList
        · have heq : (x.toList == s.toList) = true := by rw [he, beq_self_eq_true]
          have HN2 : Hid (∀ j x z, j < k + 1 → l[j]? = some x → zs[j]? = some z → x.data.toList = z) := fun j x' z' hj hx' hz' => by
            rcases Nat.lt_or_ge j k with h | h
            · exact HA.out j x' z' h hx' hz'
            · obtain rfl : j = k := by omega
              rw [HLX.out.1] at hx'
              rw [HLX.out.2] at hz'
              cases hx'
              cases hz'
              rw [← HX.out, ← HS.out]
              exact he
          clear he
          go_wp2
          go_quiet (fail)
          go_wp2
          go_roundw
          case rel => exact ⟨k + 1, by omega, by go_num, HN2.out, by first | exact below_drewN HBE.out _ | exact HBE.out.drew | exact HBE.out⟩
          case measure => simp [intOf]; omega
        · have heq : (x.toList == s.toList) = false := beq_eq_false_iff_ne.2 he
          have HF : Hid (V = false) := by
            show _ = _
            rw [← HV.out]
            exact eqT_at HLX.out.1 HLX.out.2 (by rw [← HX.out, ← HS.out]; exact he)
          go_wp2
          go_quiet (fail)
          go_wp2
          go_ret
          exact ⟨by rw [HF.out]; rfl, by first | exact below_drewN HBE.out _ | exact HBE.out.drew | exact HBE.out⟩
      · have hkn' : ¬ (k : Int) < (n : Int) := by omega
        obtain rfl : k = n := by omega
        have HT : Hid (V = true) := HV.out.symm.trans (HAL.out HA.out)
        clear hbel
        go_wp2
        go_ret
        exact ⟨by rw [HT.out]; rfl, HBE.out⟩
  · have hlen' : ¬ (l.length : Int) = (zs.length : Int) := by omega
    rw [eqT_len hlen]
    clear h1 hc2
    go_enter Tryz.func46, Tryz.ntmps46
    go_wp2
    go_ret
    exact ⟨rfl, Below.refl _ _⟩

set_option maxHeartbeats 2000000 in
set_option maxRecDepth 100000 in
theorem same_texts (a1 : Option Addr) (c1 : Nat) (l : List ByteArray) (zs : List (List UInt8)) (v2 : Value) (w : World) (h1 : ty.SrcS none w a1 l) (hl : l.length ≤ 1048576) (h2 : sr.StrR w v2 zs) :
    Calls Tryz.prog 19 #[.slice a1 l.length c1, v2] w fun e w' => e = .returned (.bool (eqT l zs)) ∧ Below w.heap.size w w' := by
  obtain ⟨b2, o2, cp, rfl, hle, hm, hc2⟩ := h2
  have H1 : Hid (ty.SrcS none w a1 l) := h1
  have H2 : Hid (∀ i x, zs[i]? = some x → w.cell? ⟨b2, o2 + i, none⟩ = some (sr.strL x)) := hc2
  by_cases hlen : l.length = zs.length
  · obtain ⟨n, hn⟩ : ∃ n, l.length = n := ⟨_, rfl⟩
    have HN : Hid (l.length = n) := hn
    have HZ : Hid (zs.length = n) := hlen.symm.trans hn
    have HAL : Hid ((∀ j x z, j < n → l[j]? = some x → zs[j]? = some z → x.data.toList = z) → eqT l zs = true) := fun h => eqT_all hlen (by rw [hn]; exact h)
    rw [← hlen, hn]
    rw [hn] at hl
    obtain ⟨V, hV⟩ : ∃ V, eqT l zs = V := ⟨_, rfl⟩
    have HV : Hid (eqT l zs = V) := hV
    rw [hV]
    clear h1 hc2 hlen hn hV hle hm
    go_enter Tryz.func19, Tryz.ntmps19
    go_wp2
    go_loopw [5] (fun y wr => ∃ k : Nat, k ≤ n ∧ y = .int .i64 (k : Int) ∧ (∀ j x z, j < k → l[j]? = some x → zs[j]? = some z → x.data.toList = z) ∧ Below w.heap.size w wr) (fun y _ => n - (intOf y).toNat)
    case atStart => exact ⟨0, Nat.zero_le _, rfl, fun j x z h => by omega, Below.refl _ _⟩
    case round =>
      obtain ⟨k, hk, rfl, hall, hbel⟩ := hrel
      have HA : Hid (∀ j x z, j < k → l[j]? = some x → zs[j]? = some z → x.data.toList = z) := hall
      have HBE : Hid (Below w.heap.size w wr) := hbel
      clear hall
      by_cases hkn : k < n
      · have hkn' : (k : Int) < (n : Int) := by omega
        have hk0 : (0 : Int) ≤ (k : Int) := by omega
        obtain ⟨x, hx⟩ : ∃ x, l[k]? = some x := ⟨_, List.getElem?_eq_getElem (by rw [HN.out]; exact hkn)⟩
        obtain ⟨z, hz⟩ : ∃ z, zs[k]? = some z := ⟨_, List.getElem?_eq_getElem (by rw [HZ.out]; exact hkn)⟩
        rcases H1.out with ⟨_, h⟩ | ⟨b, o, rfl, _, hc⟩
        · rw [h] at hx; simp at hx
        have g1 := (hbel.cell (p := ⟨b, _, none⟩) (World.block_lt_of_cell? _ _ (hc k x hx))).trans (hc k x hx)
        have g2 := (hbel.cell (p := ⟨b2, _, none⟩) (World.block_lt_of_cell? _ _ (H2.out k z hz))).trans (H2.out k z hz)
        have hst : sr.strL z = .string ⟨z.toArray⟩ := rfl
        rw [hst] at g2
        obtain ⟨s, hs⟩ : ∃ s : ByteArray, (⟨z.toArray⟩ : ByteArray) = s := ⟨_, rfl⟩
        have HS : Hid (s.toList = z) := by show _ = _; rw [← hs, ByteArray.toList_eq]
        rw [hs] at g2
        have HX : Hid (x.toList = x.data.toList) := ByteArray.toList_eq x
        have HLX : Hid (l[k]? = some x ∧ zs[k]? = some z) := ⟨hx, hz⟩
        clear hs hst hx hz hc hbel
        by_cases he : x.toList = s.toList
        · have heq : (x.toList == s.toList) = true := by rw [he, beq_self_eq_true]
          have HN2 : Hid (∀ j x z, j < k + 1 → l[j]? = some x → zs[j]? = some z → x.data.toList = z) := fun j x' z' hj hx' hz' => by
            rcases Nat.lt_or_ge j k with h | h
            · exact HA.out j x' z' h hx' hz'
            · obtain rfl : j = k := by omega
              rw [HLX.out.1] at hx'
              rw [HLX.out.2] at hz'
              cases hx'
              cases hz'
              rw [← HX.out, ← HS.out]
              exact he
          clear he
          go_wp2
          go_quiet (fail)
          go_wp2
          go_roundw
          case rel => exact ⟨k + 1, by omega, by go_num, HN2.out, by first | exact below_drewN HBE.out _ | exact HBE.out.drew | exact HBE.out⟩
          case measure => simp [intOf]; omega
        · have heq : (x.toList == s.toList) = false := beq_eq_false_iff_ne.2 he
          have HF : Hid (V = false) := by
            show _ = _
            rw [← HV.out]
            exact eqT_at HLX.out.1 HLX.out.2 (by rw [← HX.out, ← HS.out]; exact he)
          go_wp2
          go_quiet (fail)
          go_wp2
          go_ret
          exact ⟨by rw [HF.out]; rfl, by first | exact below_drewN HBE.out _ | exact HBE.out.drew | exact HBE.out⟩
      · have hkn' : ¬ (k : Int) < (n : Int) := by omega
        obtain rfl : k = n := by omega
        have HT : Hid (V = true) := HV.out.symm.trans (HAL.out HA.out)
        clear hbel
        go_wp2
        go_ret
        exact ⟨by rw [HT.out]; rfl, HBE.out⟩
  · have hlen' : ¬ (l.length : Int) = (zs.length : Int) := by omega
    rw [eqT_len hlen]
    clear h1 hc2
    go_enter Tryz.func19, Tryz.ntmps19
    go_wp2
    go_ret
    exact ⟨rfl, Below.refl _ _⟩

end Go.Proofs.YtkmhaemcpakobaaGreatDoor.so

namespace Go.Proofs.YtkmhaemcpakobaaGreatDoor.ac
open Go.ChangeShapes Go.WideShapes Go.ChangeAt Go.RowKit Go.Deep
set_option linter.unusedVariables false
set_option linter.unusedSimpArgs false

/-! ### What Accept answers -/

noncomputable def gT (l : List UInt8) : Bool := @decide (∃ E n, up.Good l E n) (Classical.propDecidable _)
noncomputable def eqR (E : Nat → tt.En) (n : Nat) (rs : List (List UInt8)) : Bool := so.eqT ((rf.rfs E n rs).map mt.BA) rs
noncomputable def gR (l : List UInt8) (rs : List (List UInt8)) : Bool := @decide (∃ E n, up.Good l E n ∧ eqR E n rs = true) (Classical.propDecidable _)
theorem gT_yes {l : List UInt8} {E : Nat → tt.En} {n : Nat} (h : up.Good l E n) : gT l = true := by unfold gT; exact @decide_eq_true _ (Classical.propDecidable _) ⟨E, n, h⟩
theorem gT_no {l : List UInt8} (h : ∀ E n, ¬ up.Good l E n) : gT l = false := by unfold gT; exact @decide_eq_false _ (Classical.propDecidable _) (fun ⟨E, n, g⟩ => h E n g)
theorem rfs_congr {X E : Nat → tt.En} {n : Nat} (xs : List (List UInt8)) (h : ∀ k, k < n → X k = E k) : rf.rfs X n xs = rf.rfs E n xs := by
  have hI : ∀ p, rf.inB X n p = rf.inB E n p := fun p => by
    have : rf.InE X n p ↔ rf.InE E n p := ⟨fun ⟨k, hk, ho⟩ => ⟨k, hk, by rw [← h k hk]; exact ho⟩, fun ⟨k, hk, ho⟩ => ⟨k, hk, by rw [h k hk]; exact ho⟩⟩
    rw [Bool.eq_iff_iff, rf.inB_iff, rf.inB_iff]
    exact this
  unfold rf.rfs
  congr 1
  funext a
  exact hI _
theorem gR_is {l : List UInt8} {X : Nat → tt.En} {n : Nat} (rs : List (List UInt8)) (h : up.Good l X n) (hu : ∀ E m, up.Good l E m → n = m ∧ ∀ k, k < m → X k = E k) : gR l rs = eqR X n rs := by
  unfold gR
  cases hq : eqR X n rs with
  | true => exact @decide_eq_true _ (Classical.propDecidable _) ⟨X, n, h, hq⟩
  | false =>
    refine @decide_eq_false _ (Classical.propDecidable _) fun ⟨E, m, hg, he⟩ => ?_
    obtain ⟨rfl, hk⟩ := hu E m hg
    unfold eqR at hq he
    rw [rfs_congr rs hk] at hq
    rw [he] at hq
    cases hq

def toL (l : List ByteArray) : List (List UInt8) := l.map fun x => x.data.toList
theorem toL_len (l : List ByteArray) : (toL l).length = l.length := by simp [toL]
noncomputable def hdL (M : mt.Mf) : List UInt8 := mt.headL M.path M.sum M.z M.l M.l.length
open Classical in
noncomputable def acM (M : mt.Mf) (path : ByteArray) (ks : List ty.Tr) (l : List UInt8) : Int :=
  if M.path = path then if trB M.key (sV (hdL M)) M.sig ks = true then if (l.length : Int) = M.z then if M.sum = wd.wordA (sV l) then if gT l = true then if gR l (toL M.l) = true then 0 else 7 else 6 else 5 else 4 else 3 else 2
noncomputable def acV (s path : ByteArray) (ks : List ty.Tr) (l : List UInt8) : Int := if mt.rdB s.data.toList = true then acM (mt.rdM s.data.toList) path ks l else 1
theorem acV_no {s path : ByteArray} {ks : List ty.Tr} {l : List UInt8} (h : mt.rdB s.data.toList = false) : acV s path ks l = 1 := by unfold acV; rw [h]; rfl
theorem acV_yes {s path : ByteArray} {ks : List ty.Tr} {l : List UInt8} (h : mt.rdB s.data.toList = true) : acV s path ks l = acM (mt.rdM s.data.toList) path ks l := by unfold acV; rw [if_pos h]
theorem acM_2 {M : mt.Mf} {path : ByteArray} {ks : List ty.Tr} {l : List UInt8} (h : M.path ≠ path) : acM M path ks l = 2 := by unfold acM; rw [if_neg h]
theorem acM_3 {M : mt.Mf} {path : ByteArray} {ks : List ty.Tr} {l : List UInt8} (h : M.path = path) (h2 : trB M.key (sV (hdL M)) M.sig ks = false) : acM M path ks l = 3 := by unfold acM; rw [if_pos h, if_neg (by rw [h2]; simp)]
theorem acM_4 {M : mt.Mf} {path : ByteArray} {ks : List ty.Tr} {l : List UInt8} (h : M.path = path) (h2 : trB M.key (sV (hdL M)) M.sig ks = true) (h3 : (l.length : Int) ≠ M.z) : acM M path ks l = 4 := by unfold acM; rw [if_pos h, if_pos h2, if_neg h3]
theorem acM_5 {M : mt.Mf} {path : ByteArray} {ks : List ty.Tr} {l : List UInt8} (h : M.path = path) (h2 : trB M.key (sV (hdL M)) M.sig ks = true) (h3 : (l.length : Int) = M.z) (h4 : M.sum ≠ wd.wordA (sV l)) : acM M path ks l = 5 := by unfold acM; rw [if_pos h, if_pos h2, if_pos h3, if_neg h4]
theorem acM_6 {M : mt.Mf} {path : ByteArray} {ks : List ty.Tr} {l : List UInt8} (h : M.path = path) (h2 : trB M.key (sV (hdL M)) M.sig ks = true) (h3 : (l.length : Int) = M.z) (h4 : M.sum = wd.wordA (sV l)) (h5 : gT l = false) : acM M path ks l = 6 := by unfold acM; rw [if_pos h, if_pos h2, if_pos h3, if_pos h4, if_neg (by rw [h5]; simp)]
theorem acM_7 {M : mt.Mf} {path : ByteArray} {ks : List ty.Tr} {l : List UInt8} (h : M.path = path) (h2 : trB M.key (sV (hdL M)) M.sig ks = true) (h3 : (l.length : Int) = M.z) (h4 : M.sum = wd.wordA (sV l)) (h5 : gT l = true) (h6 : gR l (toL M.l) = false) : acM M path ks l = 7 := by unfold acM; rw [if_pos h, if_pos h2, if_pos h3, if_pos h4, if_pos h5, if_neg (by rw [h6]; simp)]
theorem acM_0 {M : mt.Mf} {path : ByteArray} {ks : List ty.Tr} {l : List UInt8} (h : M.path = path) (h2 : trB M.key (sV (hdL M)) M.sig ks = true) (h3 : (l.length : Int) = M.z) (h4 : M.sum = wd.wordA (sV l)) (h5 : gT l = true) (h6 : gR l (toL M.l) = true) : acM M path ks l = 0 := by unfold acM; rw [if_pos h, if_pos h2, if_pos h3, if_pos h4, if_pos h5, if_pos h6]

theorem name_le {s : ByteArray} (h : nm.nameB s = true) : s.size ≤ 60 := by
  unfold nm.nameB at h
  simp only [Bool.and_eq_true, decide_eq_true_eq] at h
  exact h.1.1.2
theorem aok_le {s : ByteArray} (h : wd.aokB s = true) : s.size ≤ 74 := by
  unfold wd.aokB at h
  simp only [Bool.and_eq_true, decide_eq_true_eq] at h
  have := name_le h.2.2.2
  simp at this
  omega
/-- What a manifest that is read has of sizes. -/
structure MOk (M : mt.Mf) : Prop where
  hok : mt.hokB M.path M.sum M.z M.l M.l.length = true
  name : nm.nameB M.key = true
  path : M.path.size ≤ 1048576
  sum : M.sum.size ≤ 1048576
  key : M.key.size ≤ 1048576
  refs : ∀ i, i < M.l.length → (st.atS M.l i).size ≤ 1048576
  few : M.l.length ≤ 300
  z0 : 0 ≤ M.z
  z1 : M.z ≤ 1000000
  sig : M.sig < 18446744073709551616
theorem mok_of {s : ByteArray} (h : mt.rdB s.data.toList = true) : MOk (mt.rdM s.data.toList) := by
  obtain ⟨M, hM⟩ : ∃ M, mt.Good s.data.toList M := by
    unfold mt.rdB at h
    exact (@decide_eq_true_iff _ (Classical.propDecidable _)).1 h
  rw [(mt.rd_yes hM).1]
  obtain ⟨p1, p2, p3⟩ := mt.hok_parts hM.hok
  have hh := hM.hok
  unfold mt.hokB mt.rfB mt.adA at hh
  simp only [Bool.and_eq_true, List.all_eq_true, List.mem_range] at hh
  refine ⟨hM.hok, hM.name, by have := aok_le hh.2.1; omega, ?_, by have := name_le hM.name; omega, fun i hi => by have := aok_le (hh.2.2.2.2.1 i hi); omega, p1, p2, p3, hM.sig⟩
  have h1 := hh.1
  unfold wd.rwB at h1
  simp only [Bool.and_eq_true, decide_eq_true_eq] at h1
  omega
end Go.Proofs.YtkmhaemcpakobaaGreatDoor.ac

namespace Go.Proofs.YtkmhaemcpakobaaGreatDoor
theorem tq {P : Program} {ops : Array Oper} {Q : Exit → Act → World → Prop} {md : Region.Mode} {S : World → Prop} {i : Nat} {oi : Oper} {v : Value} {fuel : Nat} {listed : Array Bool} {a : Act} {w : World} (hi : ops.toList[i]? = some oi)
    (hy : ∀ w, S w → (execOp a.eval oi).run P w = .ok (.value v) w) (h : wpAnyH P md ops Q S fuel (listed.setIfInBounds i true) (a.put oi.dst v) w)
    (hs : Region.noSelect ops = true := by kernel_rfl) (hf : Region.free md ops listed i = true := by kernel_rfl) (hr : (Region.ready md ops listed).contains i = true := by kernel_rfl)
    (hQ : ∀ c a w, Q (.panic c) (a.put oi.dst v) w → Q (.panic c) a w := by exact fun _ _ _ h => h) (hw : Region.wanted oi (yielded ops a.tmps) = true := by rfl) (hS : S w := by assumption) : wpAnyH P md ops Q S (fuel + 1) listed a w :=
  wpAnyH_take ((Array.getElem?_toList).symm.trans hi) hs hf hr hQ (Or.inl ⟨hw, hy⟩) hS h
theorem uq {P : Program} {ops : Array Oper} {Q : Exit → Act → World → Prop} {md : Region.Mode} {S : World → Prop} {i : Nat} {oi : Oper} {v : Value} {fuel : Nat} {listed : Array Bool} {a : Act} {w : World} (hi : ops.toList[i]? = some oi)
    (h : wpAnyH P md ops Q S fuel (listed.setIfInBounds i true) (a.put oi.dst v) w) (hy : ∀ w, S w → (execOp a.eval oi).run P w = .ok (.value v) w := by (intro w hSw; (try dsimp only at hSw); go_simp; try with_reducible rfl))
    (hs : Region.noSelect ops = true := by kernel_rfl) (hf : Region.free md ops listed i = true := by kernel_rfl) (hr : (Region.ready md ops listed).contains i = true := by kernel_rfl)
    (hQ : ∀ c a w, Q (.panic c) (a.put oi.dst v) w → Q (.panic c) a w := by exact fun _ _ _ h => h) (hw : Region.wanted oi (yielded ops a.tmps) = true := by rfl) (hS : S w := by assumption) : wpAnyH P md ops Q S (fuel + 1) listed a w :=
  wpAnyH_take ((Array.getElem?_toList).symm.trans hi) hs hf hr hQ (Or.inl ⟨hw, hy⟩) hS h
theorem sq {P : Program} {ops : Array Oper} {Q : Exit → Act → World → Prop} {md : Region.Mode} {S : World → Prop} {i : Nat} {oi : Oper} {fuel : Nat} {listed : Array Bool} {a : Act} {w : World} (hi : ops.toList[i]? = some oi)
    (h : wpAnyH P md ops Q S fuel (listed.setIfInBounds i true) (a.put oi.dst undef) w)
    (hs : Region.noSelect ops = true := by kernel_rfl) (hf : Region.free md ops listed i = true := by kernel_rfl) (hr : (Region.ready md ops listed).contains i = true := by kernel_rfl)
    (hQ : ∀ c a w, Q (.panic c) (a.put oi.dst undef) w → Q (.panic c) a w := by exact fun _ _ _ h => h) (hw : Region.wanted oi (yielded ops a.tmps) = false := by rfl) (hS : S w := by assumption) : wpAnyH P md ops Q S (fuel + 1) listed a w :=
  wpAnyH_take ((Array.getElem?_toList).symm.trans hi) hs hf hr hQ (Or.inr ⟨hw, rfl⟩) hS h
theorem cq {P : Program} {ops : Array Oper} {Q : Exit → Act → World → Prop} {md : Region.Mode} {S : World → Prop} {fuel : Nat} {listed : Array Bool} {a : Act} {w : World} {i : Nat} {o : Oper} {rs : List Nat} (ho : ops.toList[i]? = some o)
    (h : ∀ K' : Act → World → Prop, Shut (∀ a w, S w → (S w → wpAnyH P md ops Q S fuel (listed.setIfInBounds i true) a w) → K' a w) → if Region.wanted o (yielded ops a.tmps) = true then Oper.wp P o a w K' Q else K' (a.put o.dst undef) w)
    (hs : AllReadyH P md ops Q S fuel listed a w rs) : AllReadyH P md ops Q S fuel listed a w (i :: rs) := AllReadyH.cons ((Array.getElem?_toList).symm.trans ho) h hs
theorem aP : (∀ (a : Act) (i : Tmp) (v : Value), a.put (some i) v = { a with tmps := a.tmps.setIfInBounds i v }) ∧ (∀ (a : Act) (v : Value), a.put none v = a) ∧ (∀ {α : Type} (l : List α) (i : Nat) (x : α), l.toArray.setIfInBounds i x = (l.set i x).toArray) ∧ (∀ {α : Type} (x y : α) (l : List α), (x :: l).set 0 y = y :: l) ∧ (∀ {α : Type} (x : α) (l : List α) (i : Nat) (y : α), (x :: l).set (i + 1) y = x :: l.set i y) :=
  ⟨fun _ _ _ => rfl, fun _ _ => rfl, fun _ _ _ => by simp, fun _ _ _ => rfl, fun _ _ _ _ => rfl⟩
theorem wq {P : Program} {ops : Array Oper} {Q : Exit → Act → World → Prop} {S : World → Prop} {id : Nat} {a : Act} {w : World} (n : Nat) (hm : P.follows .mixedOrders = true) (hS : S w.drew)
    (h : S w.drew → wpAnyH P .any ops Q S n (Array.replicate n false) a w.drew) (hn : ops.size = n := by kernel_rfl) : (Code.region id ops true).wp P Q a w := by
  subst hn
  exact wp_region_held_drew hm hS h
theorem un {P : Program} {ops : Array Oper} {Q : Exit → Act → World → Prop} {md : Region.Mode} {S : World → Prop} (n : Nat) {oi : Oper} {v : Value} {fuel : Nat} {listed : Array Bool} {a : Act} {w : World} (hi : ops.toList[n - (fuel + 1)]? = some oi)
    (h : wpAnyH P md ops Q S fuel (listed.setIfInBounds (n - (fuel + 1)) true) (a.put oi.dst v) w) (hw : Region.wanted oi (yielded ops a.tmps) = true := by rfl) (hy : ∀ w, S w → (execOp a.eval oi).run P w = .ok (.value v) w := by (intro w hSw; (try dsimp only at hSw); go_simp; try with_reducible rfl))
    (hs : Region.noSelect ops = true := by kernel_rfl) (hf : Region.free md ops listed (n - (fuel + 1)) = true := by kernel_rfl) (hr : (Region.ready md ops listed).contains (n - (fuel + 1)) = true := by kernel_rfl)
    (hQ : ∀ c a w, Q (.panic c) (a.put oi.dst v) w → Q (.panic c) a w := by exact fun _ _ _ h => h) (hS : S w := by assumption) : wpAnyH P md ops Q S (fuel + 1) listed a w :=
  wpAnyH_take ((Array.getElem?_toList).symm.trans hi) hs hf hr hQ (Or.inl ⟨hw, hy⟩) hS h
theorem sn {P : Program} {ops : Array Oper} {Q : Exit → Act → World → Prop} {md : Region.Mode} {S : World → Prop} (n : Nat) {oi : Oper} {fuel : Nat} {listed : Array Bool} {a : Act} {w : World} (hi : ops.toList[n - (fuel + 1)]? = some oi)
    (h : wpAnyH P md ops Q S fuel (listed.setIfInBounds (n - (fuel + 1)) true) (a.put oi.dst undef) w) (hw : Region.wanted oi (yielded ops a.tmps) = false := by rfl)
    (hs : Region.noSelect ops = true := by kernel_rfl) (hf : Region.free md ops listed (n - (fuel + 1)) = true := by kernel_rfl) (hr : (Region.ready md ops listed).contains (n - (fuel + 1)) = true := by kernel_rfl)
    (hQ : ∀ c a w, Q (.panic c) (a.put oi.dst undef) w → Q (.panic c) a w := by exact fun _ _ _ h => h) (hS : S w := by assumption) : wpAnyH P md ops Q S (fuel + 1) listed a w :=
  wpAnyH_take ((Array.getElem?_toList).symm.trans hi) hs hf hr hQ (Or.inr ⟨hw, rfl⟩) hS h
theorem rq {P : Program} {ops : Array Oper} {Q : Exit → Act → World → Prop} {md : Region.Mode} {S : World → Prop} {fuel : Nat} {listed : Array Bool} {a : Act} {w : World} (i : Nat) {o : Oper} (ho : ops.toList[i]? = some o)
    (h : ∀ K' : Act → World → Prop, Shut (∀ a w, S w → (S w → wpAnyH P md ops Q S fuel (listed.setIfInBounds i true) a w) → K' a w) → if Region.wanted o (yielded ops a.tmps) = true then Oper.wp P o a w K' Q else K' (a.put o.dst undef) w)
    (hr : Region.ready md ops listed = [i] := by kernel_rfl) : wpAnyH P md ops Q S (fuel + 1) listed a w := wpAnyH_ready hr (by simp) (AllReadyH.cons ((Array.getElem?_toList).symm.trans ho) h AllReadyH.nil)
theorem dq {P : Program} {ops : Array Oper} {Q : Exit → Act → World → Prop} {md : Region.Mode} {S : World → Prop} {fuel : Nat} {listed : Array Bool} {a : Act} {w : World} (h : Q .normal a w) (hr : Region.ready md ops listed = [] := by kernel_rfl) : wpAnyH P md ops Q S fuel listed a w := wpAnyH_done hr h _
end Go.Proofs.YtkmhaemcpakobaaGreatDoor
