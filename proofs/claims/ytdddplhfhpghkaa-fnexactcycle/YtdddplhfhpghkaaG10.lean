import Derived.Test.YtdddplhfhpghkaaG09
import Derived.Deep.Cut
import Derived.Deep.CutBlock
import Derived.Deep.CutRange
import Derived.Deep.LoopGhost
import Derived.Test.YtdddplhfhpghkaaRows
import Derived.Test.YtdddplhfhpghkaaG01
import Derived.Conc.LoneSelect
import Derived.Lib.Hide
namespace Go.Proofs.Ytdddplhfhpghkaa.hp
open Go.ChangeShapes Go.WideShapes Go.ChangeAt Go.RowKit Go.Deep Go.Maps
set_option linter.unusedVariables false
set_option linter.unusedSimpArgs false

theorem Oth.then {X Y : Nat → Prop} {a b c : World} (h : Oth X a b) (k : Oth Y b c) (hy : ∀ i, i < a.heap.size → Y i → X i) : Oth X a c :=
  ⟨k.os.trans h.os, k.tape.trans h.tape, k.output.trans h.output, Nat.le_trans h.size k.size, fun i hi hx => (k.block i (Nat.lt_of_lt_of_le hi h.size) fun h2 => hx (hy i hi h2)).trans (h.block i hi hx)⟩
theorem Oth.grown {X : Nat → Prop} {a b c : World} (h : Oth X a b) {r : Option Nat} (k : b.grownBy c r) (hy : ∀ i, i < a.heap.size → r = some i → X i) : Oth X a c :=
  ⟨k.os.trans h.os, k.tape.trans h.tape, k.output.trans h.output, Nat.le_trans h.size k.size, fun i hi hx => (k.block i (Nat.lt_of_lt_of_le hi h.size) fun h2 => hx (hy i hi h2.symm)).trans (h.block i hi hx)⟩

/-- An append whose run is known, as an operation in a row. -/
theorem app_h {w w3 : World} {ops : Array Oper} {rest : List Oper} {o : Oper} {a : Act} {Q : Exit → Act → World → Prop} (hgd : o.guard = none) (s y : Operand) (t ty : TypeId) (v x v6 : Value) (ho : o.op = .call { callee := .builtin .append, args := #[s, y], argTypes := #[t, t] }) (hty : o.type = ty)
    (hs : a.eval s = v) (hx : a.eval y = x) (hr : (Builtin.append_ #[t, t] ty #[v, x]).run Try.prog w = .ok v6 w3) (k : wpList Try.prog ops Q rest (a.put o.dst v6) w3) : wpList Try.prog ops Q (o :: rest) a w := by
  refine wpList_plain hgd fun K hK => ?_
  unfold Oper.wp execOp
  rw [← hty] at hr
  simp only [ho, resolve, invoke, builtin, Sem.run_bind, Sem.run_pure, Result.andThen_ok, List.map_toArray, List.map_cons, List.map_nil, hs, hx, hr]
  exact hK _ _ k

/-- Where a heap's slice stands behind a field. -/
structure Ho (M S : Nat) (F : Nat → Value) (v : Value) (l : List Nat) (w : World) : Prop where
  row : w.rowIs S 108 5 fun k => if k = 4 then v else F k
  hv : Hv M w v l
  lt : S < M
  le : M ≤ w.heap.size

/-- The first step of a push: append, store. -/
theorem push_first {M S : Nat} {F : Nat → Value} {v : Value} {l : List Nat} {w : World} (h : Ho M S F v l w) (x : Nat) (hl : l.length ≤ 1000) :
    ∃ g cap w3, (Builtin.append_ #[106, 106] 106 #[v, .slice (some ⟨w.heap.size, 0, none⟩) 1 1]).run Try.prog (w.alloc (.cells #[.int .i64 (x : Int)] 3)) = .ok (.slice (some ⟨g, 0, none⟩) (l.length + 1) cap) w3 ∧
      w3.cell? ⟨S, 4, none⟩ = some v ∧ w3.frozen? ⟨S, 4, none⟩ = false ∧ (w3.setCell ⟨S, 4, none⟩ (.slice (some ⟨g, 0, none⟩) (l.length + 1) cap)).rowIs S 108 5 (fun k => if k = 4 then .slice (some ⟨g, 0, none⟩) (l.length + 1) cap else F k) ∧
      Rw M (w3.setCell ⟨S, 4, none⟩ (.slice (some ⟨g, 0, none⟩) (l.length + 1) cap)) g cap (l ++ [x]) ∧ Oth (fun k => k = S ∨ v.ownBlock = some k) w (w3.setCell ⟨S, 4, none⟩ (.slice (some ⟨g, 0, none⟩) (l.length + 1) cap)) ∧ (v.ownBlock = some g ∨ w.heap.size ≤ g) := by
  obtain ⟨i0, hi, hzz⟩ := Option.map_eq_some_iff.1 fi.infoI
  simp only [Prod.mk.injEq] at hzz
  obtain ⟨hz0, hz1, hz2⟩ := hzz
  have hown := h.hv.own
  obtain ⟨v', w', hr, h1, h2, h3, h4⟩ := run_append_own_at (P := Try.prog) (w.alloc (.cells #[.int .i64 (x : Int)] 3)) M 106 106 3 i0 _ 1 8 Try.underlying106 hi hz0 hz1 hz2 rfl (by omega) v l.length (fi.nV l) (hown.alloc _) ⟨w.heap.size, 0, none⟩ 1 1 (fi.nV [x]) (by simp [fi.nV]) (fa.new_one w x) (fi.nV_one _) (by unfold maxLen; omega) (by omega) (by have := h.le; simp; omega)
  have hne : some S ≠ v.ownBlock := fun e => by have := (hown.lt S e.symm).1; have := h.lt; omega
  have hrow : w'.rowIs S 108 5 (fun k => if k = 4 then v else F k) := (h.row.alloc _).of_block (h2.block S (h.row.alloc _).lt hne)
  have hHv : Hv M w' v' (l ++ [x]) := Hv.of_own (by rw [List.length_append]; unfold fi.nV; rw [List.map_append]; exact h1)
  obtain ⟨g, cap, rfl, hRw⟩ := hHv.some (by simp)
  rw [List.length_append] at hr h4
  simp only [List.length_cons, List.length_nil, Nat.zero_add] at hr h4
  have hgS : g ≠ S := fun e => by have := hRw.new; have := h.lt; omega
  refine ⟨g, cap, w', hr, hrow.cell (i := 4) (by decide), hrow.frozen 4, (hrow.set 4 _).congr fun k hk => ?_, hRw.kept (ty.blk_oth hgS), ?_, ?_⟩
  · by_cases e : k = 4
    · simp only [if_pos e]
    · simp only [if_neg e]
  · refine Oth.set (X := fun k => k = S ∨ v.ownBlock = some k) ?_ (.inl rfl) _
    refine Oth.grown (b := w.alloc (.cells #[.int .i64 (x : Int)] 3)) (Oth.of_below ((Below.refl _ _).alloc (Nat.le_refl _) _)) h2 fun i hi e => .inr e
  · rcases h4 with e | e
    · exact .inl e.symm
    · refine .inr ?_
      have := Option.some.inj e
      simp at this
      omega

set_option maxRecDepth 100000 in
set_option maxHeartbeats 4000000 in
theorem push_any (M S : Nat) (F : Nat → Value) (v : Value) (l : List Nat) (x : Nat) (w : World) (h : Ho M S F v l w) (hh : Hp l) (hl : l.length < 1000) :
    Calls Try.prog 88 #[.pointer (some ⟨S, 4, none⟩), .int .i64 (x : Int)] w fun e w' => e = .returned (.tuple #[]) ∧ ∃ v' l', Ho M S F v' l' w' ∧ l'.Perm (x :: l) ∧ Hp l' ∧ Oth (fun k => k = S ∨ v.ownBlock = some k) w w' ∧ (v'.ownBlock = v.ownBlock ∨ ∀ g, v'.ownBlock = some g → w.heap.size ≤ g) := by
  obtain ⟨g, cap, w3, hap, c4, f4, hrow, hRw, hoth, hfr⟩ := push_first h x (by omega)
  have cS : w.cell? ⟨S, 4, none⟩ = some v := h.row.cell (i := 4) (by decide)
  have HSM := Lib.hid h.lt
  have HSZ := Lib.hid h.le
  obtain ⟨W3, hW3⟩ : ∃ W, W = w3.setCell ⟨S, 4, none⟩ (.slice (some ⟨g, 0, none⟩) (l.length + 1) cap) := ⟨_, rfl⟩
  rw [← hW3] at hrow hRw hoth
  have HW3 := Lib.hid hW3
  have HUP : Hid (Up (l ++ [x]) l.length) := Up.init hh x
  have HPM : Hid ((l ++ [x]).Perm (x :: l)) := List.perm_append_singleton _ _
  have HFR := Lib.hid hfr
  have HRO := Lib.hid hrow
  have HRW := Lib.hid hRw
  have HOT := Lib.hid hoth
  obtain ⟨n, hn⟩ : ∃ n, l.length = n := ⟨_, rfl⟩
  have HLN : Hid (l.length = n) := hn
  rw [hn] at hap hl HUP HW3 HRO
  have hwr : IntKind.i64.wrap ((n : Int) + 1) = (n : Int) + 1 := by rw [IntKind.wrap_i64]; omega
  have cW : ∀ W : World, W.rowIs S 108 5 (fun k => if k = 4 then .slice (some ⟨g, 0, none⟩) (n + 1) cap else F k) → W.cell? ⟨S, 4, none⟩ = some (.slice (some ⟨g, 0, none⟩) (n + 1) cap) := fun W h => h.cell (i := 4) (by decide)
  have HCW := Lib.hid cW
  have c5 := HCW.out W3 HRO.out
  have HAP := Lib.hid hap
  clear h hh hn hrow hRw hoth hfr hW3 cW hap
  go_enter Try.func88, Try.ntmps88
  go_upto_region 2 with (at_builtin; refine app_h rfl _ _ _ _ _ _ _ rfl rfl rfl rfl HAP.out ?_; refine Hid.out ?_)
  refine Lib.hid ?_
  have hwn : IntKind.i64.wrap ((n : Int) + 1 - 1) = (n : Int) := by rw [IntKind.wrap_i64]; omega
  have HOX : Hid (∀ (W W' : World), Oth (fun k => k = S ∨ v.ownBlock = some k) w W → Oth (fun k => k = g) W W' → Oth (fun k => k = S ∨ v.ownBlock = some k) w W') := fun W W' h1 h2 => h1.then h2 fun i hi e => by
    subst e
    rcases HFR.out with h | h
    · exact .inr h
    · omega
  have HFX : Hid ((Value.slice (some ⟨g, 0, none⟩) (n + 1) cap).ownBlock = v.ownBlock ∨ ∀ g', (Value.slice (some ⟨g, 0, none⟩) (n + 1) cap).ownBlock = some g' → w.heap.size ≤ g') := by
    rcases HFR.out with h | h
    · exact .inl h.symm
    · exact .inr fun g' e => by have h3 : g = g' := Option.some.inj e; omega
  go_upto_region 1 with fail
  rw [← HW3.out]
  go_upto_region 2 with fail
  clear c4 cS f4 c5
  go_loopw [4, 5] (fun p _ wr => ∃ (k : Nat) (l' : List Nat), p = .int .i64 (k : Int) ∧ k ≤ n ∧ l'.length = n + 1 ∧ Up l' k ∧ l'.Perm (x :: l) ∧ (wr.rowIs S 108 5 fun k => if k = 4 then .slice (some ⟨g, 0, none⟩) (n + 1) cap else F k) ∧ Rw M wr g cap l' ∧ Oth (fun k => k = S ∨ v.ownBlock = some k) w wr) (fun p _ _ => (intOf p).toNat)
  case atStart => exact ⟨n, l ++ [x], rfl, Nat.le_refl _, by rw [List.length_append, HLN.out]; rfl, HUP.out, HPM.out, HRO.out, HRW.out, HOT.out⟩
  case round =>
    obtain ⟨k, l', rfl, hk, hlen, hup, hpm, hro, hrw, hot⟩ := hrel
    have HUP := Lib.hid hup
    have HPM := Lib.hid hpm
    have HRO := Lib.hid hro
    have HRW := Lib.hid hrw
    have HOT := Lib.hid hot
    have HLE := Lib.hid hlen
    clear hup hpm hro hrw hot hlen
    by_cases hk0 : k = 0
    · subst hk0
      go_wp2
      go_end0
      exact ⟨rfl, _, l', ⟨HRO.out, .inr ⟨g, cap, by rw [HLE.out], HRW.out⟩, HSM.out, Nat.le_trans HSZ.out HOT.out.size⟩, HPM.out, HUP.out.done (.inl rfl), HOT.out, HFX.out⟩
    · have hk1 : (0 : Int) < (k : Int) := by omega
      have hw1 : IntKind.i64.wrap ((k : Int) - 1) = (k : Int) - 1 := by rw [IntKind.wrap_i64]; omega
      go_upto_region 4 with fail
      obtain ⟨q, hqd⟩ : ∃ q, (k - 1) / 2 = q := ⟨_, rfl⟩
      rw [show ((k : Int) - 1) / 2 = (q : Int) by omega]
      have hqk : q < k := by omega
      obtain ⟨wd, hwd⟩ : ∃ z, wr.drew = z := ⟨_, rfl⟩
      have HROd : Hid (wd.rowIs S 108 5 fun k => if k = 4 then .slice (some ⟨g, 0, none⟩) (n + 1) cap else F k) := by show World.rowIs _ _ _ _ _; rw [← hwd]; exact HRO.out
      have HRWd : Hid (Rw M wd g cap l') := by show Rw _ _ _ _ _; rw [← hwd]; exact HRW.out.kept rfl
      have HOTd : Hid (Oth (fun k => k = S ∨ v.ownBlock = some k) w wd) := by show Oth _ _ _; rw [← hwd]; exact HOT.out.drew
      have cS := HCW.out wd HROd.out
      have ck := HRWd.out.cell (k := k) (by rw [HLE.out]; omega)
      have cq := HRWd.out.cell (k := q) (by rw [HLE.out]; omega)
      have hk2 : (k : Int) < (n : Int) + 1 := by omega
      have hq2 : (q : Int) < (n : Int) + 1 := by omega
      have hk3 : (0 : Int) ≤ (k : Int) := by omega
      have hq3 : (0 : Int) ≤ (q : Int) := by omega
      refine wq 13 (S := fun z => z = wd) (by kernel_rfl) hwd fun hHeld => ?_
      rw [hwd]
      rw [hwd] at hHeld
      clear hwd
      iterate 13 (refine un 13 rfl ?_; try simp only [aP])
      refine dq ?_
      by_cases hle : gt l' q ≤ gt l' k
      · have hle' : (gt l' q : Int) ≤ (gt l' k : Int) := by omega
        have HDO : Hid (Hp l') := HUP.out.done (.inr (by rw [hqd]; exact hle))
        clear hqd
        go_wp2
        first | go_end0 | refine bodyPost_ret (results_none rfl _ _ _) rfl ?_
        exact ⟨rfl, _, l', ⟨HROd.out, .inr ⟨g, cap, by rw [HLE.out], HRWd.out⟩, HSM.out, Nat.le_trans HSZ.out HOTd.out.size⟩, HPM.out, HDO.out, HOTd.out, HFX.out⟩
      · have hle' : ¬ (gt l' q : Int) ≤ (gt l' k : Int) := by omega
        have HST : Hid (Up (swp l' k q) q) := by have := HUP.out.step (by omega) (by rw [hqd]; omega); rw [hqd] at this; exact this
        have HSW := Lib.hid (swap_any M g cap l' k q wd HRWd.out (by rw [HLE.out]; omega) (by rw [HLE.out]; omega) (by rw [HLE.out]; omega))
        have HPS : Hid ((swp l' k q).Perm (x :: l)) := (swp_perm (by rw [HLE.out]; omega) (by rw [HLE.out]; omega)).trans HPM.out
        rw [HLE.out] at HSW
        have HLS : Hid ((swp l' k q).length = n + 1) := by show _ = _; rw [swp_len, HLE.out]
        clear hqd ck cq
        go_wp2_with (go_at_call 97; refine HSW.out.mono ?_; rintro e w5 ⟨rfl, h51, h52⟩; refine Hid.out ?_)
        refine Lib.hid ?_
        have HR5 : Hid (w5.rowIs S 108 5 fun k => if k = 4 then .slice (some ⟨g, 0, none⟩) (n + 1) cap else F k) := HROd.out.of_block (h52.block S HROd.out.lt (by have := HRW.out.new; have := HSM.out; omega))
        have HO5 := Lib.hid (HOX.out wd w5 HOTd.out h52)
        have HW5 := Lib.hid h51
        clear h51 h52 cS
        go_wp2
        go_roundw
        case rel => exact ⟨q, swp l' k q, rfl, by omega, HLS.out, HST.out, HPS.out, HR5.out, HW5.out, HO5.out⟩
        case measure => simp [intOf]; omega
end Go.Proofs.Ytdddplhfhpghkaa.hp

namespace Go.Proofs.Ytdddplhfhpghkaa.hp
open Go.ChangeShapes Go.WideShapes Go.ChangeAt Go.RowKit Go.Deep Go.Maps
set_option linter.unusedVariables false
set_option linter.unusedSimpArgs false

/-- The least so far among a place and those below it. -/
structure Lst (l : List Nat) (p m b : Nat) : Prop where
  lo : 2 * p + 1 ≤ b
  hi : b ≤ 2 * p + 3
  is : m = p ∨ (2 * p + 1 ≤ m ∧ m < b ∧ m < l.length ∧ gt l m < gt l p)
  le : gt l m ≤ gt l p
  all : ∀ k, 2 * p + 1 ≤ k → k < b → k < l.length → gt l m ≤ gt l k
theorem Lst.zero (l : List Nat) (p : Nat) : Lst l p p (2 * p + 1) := ⟨Nat.le_refl _, by omega, .inl rfl, Nat.le_refl _, fun k h1 h2 => by omega⟩
theorem Lst.yes {l : List Nat} {p m b : Nat} (h : Lst l p m b) (hb : b ≤ 2 * p + 2) (hl : b < l.length) (hlt : gt l b < gt l m) : Lst l p b (b + 1) :=
  ⟨by have := h.lo; omega, by omega, .inr ⟨h.lo, by omega, hl, by have := h.le; omega⟩, by have := h.le; omega, fun k h1 h2 h3 => by
    by_cases e : k = b
    · subst e; exact Nat.le_refl _
    · have := h.all k h1 (by omega) h3; omega⟩
theorem Lst.no {l : List Nat} {p m b : Nat} (h : Lst l p m b) (hb : b ≤ 2 * p + 2) (hl : b < l.length) (hlt : ¬ gt l b < gt l m) : Lst l p m (b + 1) :=
  ⟨by have := h.lo; omega, by omega, by rcases h.is with e | ⟨h1, h2, h3, h4⟩; exact .inl e; exact .inr ⟨h1, by omega, h3, h4⟩, h.le, fun k h1 h2 h3 => by
    by_cases e : k = b
    · subst e; omega
    · exact h.all k h1 (by omega) h3⟩
theorem Lst.end {l : List Nat} {p m b : Nat} (h : Lst l p m b) (hb : ¬ (b ≤ 2 * p + 2 ∧ b < l.length)) (hd : Dn l p) : (m = p → Hp l) ∧ (m ≠ p → Dn (swp l p m) m ∧ m < l.length ∧ p < m) := by
  have hall : ∀ k, 0 < k → k < l.length → (k - 1) / 2 = p → gt l m ≤ gt l k := fun k k0 hk e => by
    refine h.all k (by omega) ?_ hk
    have := h.hi
    omega
  refine ⟨fun e => ?_, fun e => ?_⟩
  · subst e
    exact hd.done (fun hk => hall _ (by omega) hk (by omega)) (fun hk => hall _ (by omega) hk (by omega))
  · rcases h.is with e2 | ⟨h1, h2, h3, h4⟩
    · exact absurd e2 e
    · have := h.hi
      exact ⟨hd.step h3 (by omega) (by omega) h4 hall, h3, by omega⟩

set_option maxRecDepth 100000 in
set_option maxHeartbeats 4000000 in
theorem sink_any (M g cap : Nat) (l : List Nat) (w : World) (h : Rw M w g cap l) (hd : Dn l 0) (hl : l.length ≤ 1000) :
    Calls Try.prog 98 #[.slice (some ⟨g, 0, none⟩) l.length cap] w fun e w' => e = .returned (.tuple #[]) ∧ ∃ l', l'.Perm l ∧ Hp l' ∧ Rw M w' g cap l' ∧ Oth (fun k => k = g) w w' := by
  have HRW0 := Lib.hid h
  have HDN0 := Lib.hid hd
  obtain ⟨n, hn⟩ : ∃ n, l.length = n := ⟨_, rfl⟩
  have HLN : Hid (l.length = n) := hn
  rw [hn] at hl ⊢
  clear h hd hn
  go_enter Try.func98, Try.ntmps98
  go_upto_region 1 with fail
  go_loopw [2, 3, 4] (fun p _ _ wr => ∃ (k : Nat) (l' : List Nat), p = .int .i64 (k : Int) ∧ k ≤ n ∧ l'.length = n ∧ Dn l' k ∧ l'.Perm l ∧ Rw M wr g cap l' ∧ Oth (fun k => k = g) w wr) (fun p _ _ _ => n + 1 - (intOf p).toNat)
  case atStart => exact ⟨0, l, rfl, Nat.zero_le _, HLN.out, HDN0.out, List.Perm.refl _, HRW0.out, Oth.refl _ _⟩
  case round =>
    obtain ⟨p, l', rfl, hp, hlen, hdn, hpm, hrw, hot⟩ := hrel
    have HDN := Lib.hid hdn
    have HPM := Lib.hid hpm
    have HRW := Lib.hid hrw
    have HOT := Lib.hid hot
    have HLE := Lib.hid hlen
    clear hdn hpm hrw hot hlen HRW0 HDN0
    have hw1 : IntKind.i64.wrap (2 * (p : Int)) = 2 * (p : Int) := by rw [IntKind.wrap_i64]; omega
    have hw2 : IntKind.i64.wrap (2 * (p : Int) + 1) = 2 * (p : Int) + 1 := by rw [IntKind.wrap_i64]; omega
    have hw3 : IntKind.i64.wrap (2 * (p : Int) + 2) = 2 * (p : Int) + 2 := by rw [IntKind.wrap_i64]; omega
    go_upto_region 3 with fail
    rw [show 2 * (p : Int) + 1 = ((2 * p + 1 : Nat) : Int) by omega]
    go_loopw [3, 4] (fun mv bv wq => ∃ (m b : Nat), mv = .int .i64 (m : Int) ∧ bv = .int .i64 (b : Int) ∧ Lst l' p m b ∧ Rw M wq g cap l' ∧ Oth (fun k => k = g) w wq) (fun _ bv _ => 2 * p + 4 - (intOf bv).toNat)
    case atStart => exact ⟨p, 2 * p + 1, rfl, rfl, Lst.zero l' p, HRW.out, HOT.out⟩
    case round =>
      obtain ⟨m, b, rfl, rfl, hls, hrwi, hoti⟩ := hrel
      have HLS := Lib.hid hls
      have HRWi := Lib.hid hrwi
      have HOTi := Lib.hid hoti
      have hb3 := hls.hi
      have hmn0 : m ≤ n := by
        rcases hls.is with e | ⟨_, _, h3, _⟩
        · omega
        · rw [HLE.out] at h3; omega
      clear hls hrwi hoti HRW HOT
      by_cases hb1 : b ≤ 2 * p + 2
      · have hb1' : (b : Int) ≤ 2 * (p : Int) + 2 := by omega
        by_cases hb2 : b < n
        · have hb2' : (b : Int) < (n : Int) := by omega
          have hwb : IntKind.i64.wrap ((b : Int) + 1) = (b : Int) + 1 := by rw [IntKind.wrap_i64]; omega
          go_upto_region 5 with fail
          obtain ⟨wd, hwd⟩ : ∃ z, wr.drew = z := ⟨_, rfl⟩
          have HRWd : Hid (Rw M wd g cap l') := by show Rw _ _ _ _ _; rw [← hwd]; exact HRWi.out.kept rfl
          have HOTd : Hid (Oth (fun k => k = g) w wd) := by show Oth _ _ _; rw [← hwd]; exact HOTi.out.drew
          have hmn1 : m < n := by
            have := HLS.out.lo
            rcases HLS.out.is with e | ⟨_, _, h3, _⟩
            · omega
            · rw [HLE.out] at h3; exact h3
          have cb := HRWd.out.cell (k := b) (by rw [HLE.out]; omega)
          have cm := HRWd.out.cell (k := m) (by rw [HLE.out]; omega)
          have hb4 : (0 : Int) ≤ (b : Int) := by omega
          have hm3 : (m : Int) < (n : Int) := by omega
          have hm4 : (0 : Int) ≤ (m : Int) := by omega
          refine wq 9 (S := fun z => z = wd) (by kernel_rfl) hwd fun hHeld => ?_
          rw [hwd]
          rw [hwd] at hHeld
          clear hwd
          iterate 9 (refine un 9 rfl ?_; try simp only [aP])
          refine dq ?_
          by_cases hlt : gt l' b < gt l' m
          · have hlt' : (gt l' b : Int) < (gt l' m : Int) := by omega
            have HL2 := Lib.hid (HLS.out.yes hb1 (by rw [HLE.out]; exact hb2) hlt)
            clear cb cm
            go_wp2
            go_roundw
            case rel => exact ⟨b, b + 1, rfl, by go_num, HL2.out, HRWd.out, HOTd.out⟩
            case measure => simp [intOf]; omega
          · have hlt' : ¬ (gt l' b : Int) < (gt l' m : Int) := by omega
            have HL2 := Lib.hid (HLS.out.no hb1 (by rw [HLE.out]; exact hb2) hlt)
            clear cb cm
            go_wp2
            go_roundw
            case rel => exact ⟨m, b + 1, rfl, by go_num, HL2.out, HRWd.out, HOTd.out⟩
            case measure => simp [intOf]; omega
        · have hb2' : ¬ (b : Int) < (n : Int) := by omega
          have HEN := Lib.hid (HLS.out.end (by rw [HLE.out]; omega) HDN.out)
          by_cases hmp : m = p
          · subst hmp
            have HPD := Lib.hid (HEN.out.1 rfl)
            clear HEN
            go_wp2
            first | go_end0 | refine bodyPost_ret (results_none rfl _ _ _) rfl ?_
            exact ⟨rfl, l', HPM.out, HPD.out, HRWi.out, HOTi.out⟩
          · have hmp' : ¬ (m : Int) = (p : Int) := by omega
            have HST := Lib.hid (HEN.out.2 hmp)
            have hmn : m < n := by have := HST.out.2.1; rw [HLE.out] at this; exact this
            have hpm2 : p < m := HST.out.2.2
            have HSW := Lib.hid (swap_any M g cap l' p m wr HRWi.out (by rw [HLE.out]; omega) (by rw [HLE.out]; omega) (by rw [HLE.out]; omega))
            rw [HLE.out] at HSW
            have HPS : Hid ((swp l' p m).Perm l) := (swp_perm (by rw [HLE.out]; omega) (by rw [HLE.out]; omega)).trans HPM.out
            clear HEN
            go_wp2_with (go_at_call 97; refine HSW.out.mono ?_; rintro e w5 ⟨rfl, h51, h52⟩; refine Hid.out ?_)
            refine Lib.hid ?_
            have HW5 := Lib.hid h51
            have HO5 := Lib.hid (HOTi.out.trans h52)
            clear h51 h52
            go_wp2
            go_roundw
            case rel => exact ⟨m, swp l' p m, rfl, by omega, by rw [swp_len]; exact HLE.out, HST.out.1, HPS.out, HW5.out, HO5.out⟩
            case measure => simp [intOf]; omega
      · have hb1' : ¬ (b : Int) ≤ 2 * (p : Int) + 2 := by omega
        have HEN := Lib.hid (HLS.out.end (by rw [HLE.out]; omega) HDN.out)
        by_cases hmp : m = p
        · subst hmp
          have HPD := Lib.hid (HEN.out.1 rfl)
          clear HEN
          go_wp2
          first | go_end0 | refine bodyPost_ret (results_none rfl _ _ _) rfl ?_
          exact ⟨rfl, l', HPM.out, HPD.out, HRWi.out, HOTi.out⟩
        · have hmp' : ¬ (m : Int) = (p : Int) := by omega
          have HST := Lib.hid (HEN.out.2 hmp)
          have hmn : m < n := by have := HST.out.2.1; rw [HLE.out] at this; exact this
          have hpm2 : p < m := HST.out.2.2
          have HSW := Lib.hid (swap_any M g cap l' p m wr HRWi.out (by rw [HLE.out]; omega) (by rw [HLE.out]; omega) (by rw [HLE.out]; omega))
          rw [HLE.out] at HSW
          have HPS : Hid ((swp l' p m).Perm l) := (swp_perm (by rw [HLE.out]; omega) (by rw [HLE.out]; omega)).trans HPM.out
          clear HEN
          go_wp2_with (go_at_call 97; refine HSW.out.mono ?_; rintro e w5 ⟨rfl, h51, h52⟩; refine Hid.out ?_)
          refine Lib.hid ?_
          have HW5 := Lib.hid h51
          have HO5 := Lib.hid (HOTi.out.trans h52)
          clear h51 h52
          go_wp2
          go_roundw
          case rel => exact ⟨m, swp l' p m, rfl, by omega, by rw [swp_len]; exact HLE.out, HST.out.1, HPS.out, HW5.out, HO5.out⟩
          case measure => simp [intOf]; omega

end Go.Proofs.Ytdddplhfhpghkaa.hp

namespace Go.Proofs.Ytdddplhfhpghkaa.hp
open Go.ChangeShapes Go.WideShapes Go.ChangeAt Go.RowKit Go.Deep Go.Maps
set_option linter.unusedVariables false
set_option linter.unusedSimpArgs false

set_option maxRecDepth 100000 in
set_option maxHeartbeats 4000000 in
/-- Nothing is there. -/
theorem pop_none (M S : Nat) (F : Nat → Value) (v : Value) (w : World) (h : Ho M S F v [] w) :
    Calls Try.prog 89 #[.pointer (some ⟨S, 4, none⟩)] w fun e w' => e = .returned (.tuple #[.int .i64 0, .bool false]) ∧ w' = w := by
  obtain ⟨a, cap, rfl⟩ := h.hv.len
  have cS : w.cell? ⟨S, 4, none⟩ = some (.slice a 0 cap) := h.row.cell (i := 4) (by decide)
  clear h
  go_enter Try.func89, Try.ntmps89
  go_wp2
  go_ret2
  exact ⟨rfl, rfl⟩

set_option maxRecDepth 100000 in
set_option maxHeartbeats 4000000 in
theorem pop_any (M S : Nat) (F : Nat → Value) (v : Value) (l : List Nat) (w : World) (h : Ho M S F v l w) (hh : Hp l) (h0 : 0 < l.length) (hl : l.length ≤ 1000) :
    Calls Try.prog 89 #[.pointer (some ⟨S, 4, none⟩)] w fun e w' => e = .returned (.tuple #[.int .i64 (gt l 0 : Int), .bool true]) ∧ ∃ v' l', Ho M S F v' l' w' ∧ l.Perm (gt l 0 :: l') ∧ Hp l' ∧ Oth (fun k => k = S ∨ v.ownBlock = some k) w w' ∧ v'.ownBlock = v.ownBlock := by
  obtain ⟨g, cap, rfl, hrw⟩ := h.hv.some h0
  have hcl := hrw.le
  have HSM := Lib.hid h.lt
  have HSZ := Lib.hid h.le
  have HRO := Lib.hid h.row
  have HNW := Lib.hid hrw.new
  obtain ⟨m, hm⟩ : ∃ m, l.length = m + 1 := ⟨l.length - 1, by omega⟩
  have HM := Lib.hid hm
  have cS : w.cell? ⟨S, 4, none⟩ = some (.slice (some ⟨g, 0, none⟩) l.length cap) := h.row.cell (i := 4) (by decide)
  have HSW := Lib.hid (swap_any M g cap l 0 m w hrw (by omega) (by omega) (by omega))
  have HDN := Lib.hid (Dn.init hh hm)
  have HPM := Lib.hid (pop_perm hm)
  have HLT : Hid (((swp l 0 m).take m).length = m) := by show _ = _; rw [List.length_take, swp_len, hm]; omega
  have HGM : Hid (gt (swp l 0 m) m = gt l 0) := by show _ = _; rw [swp_gt (by omega) (by omega), if_pos rfl]
  have HLS : Hid ((swp l 0 m).length = m + 1) := by show _ = _; rw [swp_len, hm]
  have hw0 : IntKind.i64.wrap ((m : Int) + 1 - 1) = (m : Int) := by rw [IntKind.wrap_i64]; omega
  have hne : ((m : Int) + 1 == 0) = false := by rw [beq_eq_false_iff_ne]; omega
  rw [hm] at hl HSW cS hcl HRO
  simp only [Int.ofNat_zero, Int.natCast_zero] at HSW
  rw [hm]
  clear h hh h0 hm hrw
  go_enter Try.func89, Try.ntmps89
  go_wp2_with (go_at_call 97; refine HSW.out.mono ?_; rintro e w5 ⟨rfl, h51, h52⟩; refine Hid.out ?_)
  refine Lib.hid ?_
  have hgS : S ≠ g := by have := HNW.out; have := HSM.out; omega
  have HR5 : Hid (w5.rowIs S 108 5 fun k => if k = 4 then .slice (some ⟨g, 0, none⟩) (m + 1) cap else F k) := HRO.out.of_block (h52.block S HRO.out.lt hgS)
  have c5 : w5.cell? ⟨S, 4, none⟩ = some (.slice (some ⟨g, 0, none⟩) (m + 1) cap) := HR5.out.cell (i := 4) (by decide)
  have f5 := HR5.out.frozen 4
  have cm : w5.cell? ⟨g, m, none⟩ = some (.int .i64 (gt l 0 : Int)) := by have := h51.cell (k := m) (by rw [HLS.out]; omega); rw [HGM.out] at this; exact this
  obtain ⟨W6, hW6⟩ : ∃ W, W = w5.setCell ⟨S, 4, none⟩ (.slice (some ⟨g, 0, none⟩) m cap) := ⟨_, rfl⟩
  have HW6 := Lib.hid hW6
  have HR6 : Hid (W6.rowIs S 108 5 fun k => if k = 4 then .slice (some ⟨g, 0, none⟩) m cap else F k) := by
    show World.rowIs _ _ _ _ _
    rw [hW6]
    refine (HR5.out.set 4 _).congr fun k hk => ?_
    by_cases e : k = 4
    · simp only [if_pos e]
    · simp only [if_neg e]
  have HX6 : Hid (Rw M W6 g cap ((swp l 0 m).take m)) := by
    show Rw _ _ _ _ _
    rw [hW6]
    exact (h51.take m).kept (ty.blk_oth (Ne.symm hgS))
  have HO6 : Hid (Oth (fun k => k = S ∨ some g = some k) w W6) := by
    show Oth _ _ _
    rw [hW6]
    exact (Oth.set (X := fun k => k = S ∨ some g = some k) (h52.mono fun k _ e => .inr (by rw [e])) (.inl rfl) _)
  have c6 : W6.cell? ⟨S, 4, none⟩ = some (.slice (some ⟨g, 0, none⟩) m cap) := HR6.out.cell (i := 4) (by decide)
  have HSK := Lib.hid (sink_any M g cap _ W6 HX6.out HDN.out (by rw [HLT.out]; omega))
  rw [HLT.out] at HSK
  have hm2 : (m : Int) < (m : Int) + 1 := by omega
  have hm3 : (0 : Int) ≤ (m : Int) := by omega
  have hm4 : (m : Int) ≤ (cap : Int) := by omega
  clear hW6 h51 h52 cS
  go_upto_region 8 with fail
  rw [← HW6.out]
  clear c5 f5 cm
  go_wp2_with (go_at_call 98; refine HSK.out.mono ?_; rintro e w7 ⟨rfl, l7, h71, h72, h73, h74⟩; refine Hid.out ?_)
  refine Lib.hid ?_
  have HLL : Hid (l7.length = m) := by show _ = _; rw [h71.length_eq, HLT.out]
  have HR7 : Hid (w7.rowIs S 108 5 fun k => if k = 4 then .slice (some ⟨g, 0, none⟩) m cap else F k) := HR6.out.of_block (h74.block S HR6.out.lt hgS)
  have HO7 : Hid (Oth (fun k => k = S ∨ some g = some k) w w7) := HO6.out.then h74 fun i _ e => .inr (by rw [e])
  have HEN : Hid (∃ v' l', Ho M S F v' l' w7 ∧ l.Perm (gt l 0 :: l') ∧ Hp l' ∧ Oth (fun k => k = S ∨ (Value.slice (some ⟨g, 0, none⟩) (m + 1) cap).ownBlock = some k) w w7 ∧ v'.ownBlock = (Value.slice (some ⟨g, 0, none⟩) (m + 1) cap).ownBlock) :=
    ⟨_, l7, ⟨HR7.out, .inr ⟨g, cap, by rw [HLL.out], h73⟩, HSM.out, Nat.le_trans HSZ.out HO7.out.size⟩, HPM.out.trans (h71.symm.cons _), h72, HO7.out, rfl⟩
  clear h71 h72 h73 h74
  go_wp2
  go_ret2
  exact ⟨rfl, HEN.out⟩
end Go.Proofs.Ytdddplhfhpghkaa.hp

namespace Go.Proofs.Ytdddplhfhpghkaa.cn
open Go.Conc Go.RowKit
set_option linter.unusedVariables false

/-! ### A walk that bears sends and selects: in a frame that is no early one -/

def wpN (P : Program) (c : Code) (Q : Exit → Act → World → Prop) (a : Act) (w : World) : Prop :=
  ∀ (b : Frame), b.kind ≠ .early → ∀ (k : List Item) (cs : List Frame),
    ∃ e a' w', Q e a' w' ∧ Arrives P (lone (b.at a (.code c :: k)) cs w) b k cs e a' w'

section
variable {P : Program} {Q : Exit → Act → World → Prop} {a : Act} {w : World}
theorem wpN_of {c : Code} (h : c.wp P Q a w) : wpN P c Q a w := fun b _ k cs => h b k cs
theorem wpN_skip (h : Q .normal a w) : wpN P .skip Q a w := wpN_of (wp_skip h)

theorem wpN_seq {x y : Code} (h : wpN P x (Exit.then (wpN P y Q) Q) a w) : wpN P (Code.seq x y) Q a w := by
  intro b hb k cs
  obtain ⟨e, a₁, w₁, hq, harr⟩ := h b hb (.code y :: k) cs
  cases e with
  | normal =>
    obtain ⟨e₂, a₂, w₂, hq₂, harr₂⟩ := hq b hb k cs
    exact ⟨e₂, a₂, w₂, hq₂, .of_steps (.head step_seq harr) harr₂⟩
  | exit id => exact ⟨_, a₁, w₁, hq, .of_steps (.one step_seq) (.pass (x := .code y) rfl (fun _ _ => .inl (by simp)) harr)⟩
  | goto l => exact ⟨_, a₁, w₁, hq, .of_steps (.one step_seq) (.pass (x := .code y) rfl (fun _ _ => .inl (by simp)) harr)⟩
  | ret => exact ⟨_, a₁, w₁, hq, .of_steps (.one step_seq) (.pass (x := .code y) rfl (fun _ _ => .inl (by simp)) harr)⟩
  | panic ch => exact ⟨_, a₁, w₁, hq, .of_steps (.one step_seq) (.pass (x := .code y) rfl (fun _ _ => .inl (by simp)) harr)⟩
  | outgrown => exact ⟨_, a₁, w₁, hq, .of_steps (.one step_seq) (.pass (x := .code y) rfl (fun _ _ => .inl (by simp)) harr)⟩

/-- First a piece that does not speak. -/
theorem wpN_seq_k {x y : Code} (h : ∀ K : Act → World → Prop, (∀ a w, wpN P y Q a w → K a w) → x.wp P (Exit.then K Q) a w) : wpN P (Code.seq x y) Q a w :=
  wpN_seq (wpN_of (h _ fun _ _ h => h))

theorem wpN_cond {c : Operand} {x y : Code} {t : Bool} (hc : a.eval c = .bool t) (h : wpN P (if t then x else y) Q a w) : wpN P (Code.cond c x y) Q a w :=
  fun b hb k cs => let ⟨e, a', w', q, r⟩ := h b hb k cs; ⟨e, a', w', q, .of_steps (.one (step_cond hc)) r⟩

theorem wpN_block {id : Nat} {c : Code} (h : wpN P c (Exit.inBlock id Q) a w) : wpN P (Code.block id c) Q a w := by
  intro b hb k cs
  obtain ⟨e, a₁, w₁, hq, harr⟩ := h b hb (.inBlock id :: k) cs
  cases e with
  | normal => exact ⟨.normal, a₁, w₁, hq, .head step_block (Steps.trans harr (.one step_inBlock))⟩
  | exit id' =>
    by_cases hid : id' = id
    · simp only [Exit.inBlock, hid, if_true] at hq
      exact ⟨.normal, a₁, w₁, hq, .head step_block (harr k (by simp [exitTo, hid]))⟩
    · simp only [Exit.inBlock, hid, if_false] at hq
      refine ⟨.exit id', a₁, w₁, hq, fun k' hk => .head step_block (harr k' ?_)⟩
      have : (id == id') = false := by simp; exact fun h => hid h.symm
      simp [exitTo, this, hk]
  | goto l => exact ⟨_, a₁, w₁, hq, fun k' hk => .head step_block (harr k' (by simp [gotoIn, hk]))⟩
  | ret => exact ⟨_, a₁, w₁, hq, .of_steps (.one step_block) harr⟩
  | panic ch => exact ⟨_, a₁, w₁, hq, .of_steps (.one step_block) harr⟩
  | outgrown => exact ⟨_, a₁, w₁, hq, .of_steps (b := b) (k := k) (cs := cs) (e := .outgrown) (.one step_block) harr⟩

theorem wpN_loop {c : Code} (I : Act → World → Prop) (μ : Act → World → Nat) (h₀ : I a w)
    (round : ∀ a w, I a w → wpN P c (Exit.then (fun a' w' => I a' w' ∧ μ a' w' < μ a w) Q) a w) : wpN P (Code.loop c) Q a w := by
  intro b hb k cs
  have key : ∀ n a w, μ a w = n → I a w →
      ∃ e a' w', Q e a' w' ∧ Arrives P (lone (b.at a (.code c :: .inLoop c :: k)) cs w) b k cs e a' w' := by
    intro n
    induction n using Nat.strongRecOn with
    | _ n ih =>
      intro a w hn hI
      obtain ⟨e, a₁, w₁, hq, harr⟩ := round a w hI b hb (.inLoop c :: k) cs
      cases e with
      | normal =>
        obtain ⟨hI₁, hlt⟩ := hq
        obtain ⟨e₂, a₂, w₂, hq₂, harr₂⟩ := ih (μ a₁ w₁) (hn ▸ hlt) a₁ w₁ rfl hI₁
        exact ⟨e₂, a₂, w₂, hq₂, .of_steps (Steps.trans harr (.one step_inLoop)) harr₂⟩
      | exit id => exact ⟨_, a₁, w₁, hq, .pass (x := .inLoop c) rfl (fun _ _ => .inl (by simp)) harr⟩
      | goto l => exact ⟨_, a₁, w₁, hq, .pass (x := .inLoop c) rfl (fun _ _ => .inl (by simp)) harr⟩
      | ret => exact ⟨_, a₁, w₁, hq, .pass (x := .inLoop c) rfl (fun _ _ => .inl (by simp)) harr⟩
      | panic ch => exact ⟨_, a₁, w₁, hq, .pass (x := .inLoop c) rfl (fun _ _ => .inl (by simp)) harr⟩
      | outgrown => exact ⟨_, a₁, w₁, hq, .pass (x := .inLoop c) rfl (fun _ _ => .inl (by simp)) harr⟩
  obtain ⟨e, a', w', hq, harr⟩ := key _ a w rfl h₀
  exact ⟨e, a', w', hq, .of_steps (.one step_loop) harr⟩

/-- What is left of a region. -/
def SN (P : Program) (ops : Array Oper) (Q : Exit → Act → World → Prop) (l : List Nat) (a : Act) (w : World) : Prop :=
  ∀ (b : Frame), b.kind ≠ .early → ∀ (k : List Item) (cs : List Frame), ∃ e a' w', Q e a' w' ∧ Arrives P (lone (b.at a (.inRegion ops l :: k)) cs w) b k cs e a' w'

theorem wpN_region {id : Nat} {ops : Array Oper} (h : SN P ops Q (List.range ops.size) a w) : wpN P (Code.region id ops false) Q a w :=
  fun b hb k cs => let ⟨e, a', w', q, r⟩ := h b hb k cs; ⟨e, a', w', q, .of_steps (.one step_region) r⟩
theorem SN_of {ops : Array Oper} {l : List Nat} (h : wpOps P ops Q l a w) : SN P ops Q l a w := fun b _ k cs => wp_ops l a w h b k cs
theorem SN_nil {ops : Array Oper} (h : Q .normal a w) : SN P ops Q [] a w := SN_of h
theorem SN_val {ops : Array Oper} {i : Nat} {rest : List Nat} {o : Oper} (v : Value) (w' : World) (ho : ops[i]? = some o) (hw : Region.wanted o (yielded ops a.tmps) = true) (hr : (execOp a.eval o).run P w = .ok (.value v) w')
    (h : SN P ops Q rest (a.put o.dst v) w') : SN P ops Q (i :: rest) a w := by
  intro b hb k cs
  obtain ⟨e, a', w'', hq, harr⟩ := h b hb k cs
  have hg := stepG_op (P := P) (b := b) (k := k) (cs := cs) (w := w) (rest := rest) ho hw
  have hfin : ∀ v, (b.at a (.inRegion ops (i :: rest) :: k)).finish v = b.at (a.put o.dst v) (.inRegion ops rest :: k) := by
    intro v; rw [Frame.finish_at, ho]; rfl
  refine ⟨e, a', w'', hq, .of_steps (.one (step_lone_go ?_)) harr⟩
  rw [hg, ← hfin]; simp [stepG.apply, hr]

variable {c cap s r : Nat} {buf : Array Value} {z z' v : Value} {tm : Bool}
/-- A send with room. -/
theorem SN_send {ops : Array Oper} {i : Nat} {rest : List Nat} {o : Oper} (ho : ops[i]? = some o) (hw : Region.wanted o (yielded ops a.tmps) = true) (hr : (execOp a.eval o).run P w = .ok (.comm #[scase c v z'] true .send) w)
    (hc : w.heap[c]? = some (.chan cap buf false s r tm)) (hroom : buf.size < cap) (h : SN P ops Q rest (a.put o.dst undef) (w.setChan c cap (buf.push v) false (s + 1) r tm)) : SN P ops Q (i :: rest) a w := by
  intro b hb k cs
  obtain ⟨e, a', w'', hq, harr⟩ := h b hb k cs
  refine ⟨e, a', w'', hq, .of_steps (.one ?_) harr⟩
  have := step_lone_send_room (cs := cs) (stepG_comm (b := b) (k := k) (cs := cs) (rest := rest) (main := true) ho hw hb hr) hc hroom
  rw [Frame.finish_at, ho] at this
  exact this
/-- A select of one receive with a default: something lies in the buffer. -/
theorem SN_recv {ops : Array Oper} {i : Nat} {rest : List Nat} {o : Oper} (ho : ops[i]? = some o) (hw : Region.wanted o (yielded ops a.tmps) = true) (hr : (execOp a.eval o).run P w = .ok (.comm #[rcase c z] false .select) w)
    (hc : w.heap[c]? = some (.chan cap buf false s r tm)) (hsome : 0 < buf.size) (h : SN P ops Q rest (a.put o.dst (.tuple #[goInt 0, .bool true, buf.getD 0 undef])) (w.setChan c cap (buf.extract 1 buf.size) false s (r + 1) tm)) : SN P ops Q (i :: rest) a w := by
  intro b hb k cs
  obtain ⟨e, a', w'', hq, harr⟩ := h b hb k cs
  refine ⟨e, a', w'', hq, .of_steps (.one ?_) harr⟩
  have := step_lone_select_recv_buf (cs := cs) (stepG_comm (b := b) (k := k) (cs := cs) (rest := rest) (main := true) ho hw hb hr) hc hsome
  rw [Frame.finish_at, ho] at this
  exact this
/-- .. nothing does. -/
theorem SN_deft {ops : Array Oper} {i : Nat} {rest : List Nat} {o : Oper} (ho : ops[i]? = some o) (hw : Region.wanted o (yielded ops a.tmps) = true) (hr : (execOp a.eval o).run P w = .ok (.comm #[rcase c z] false .select) w)
    (hc : w.heap[c]? = some (.chan cap #[] false s r tm)) (h : SN P ops Q rest (a.put o.dst (.tuple #[goInt (-1), .bool false, z])) w) : SN P ops Q (i :: rest) a w := by
  intro b hb k cs
  obtain ⟨e, a', w'', hq, harr⟩ := h b hb k cs
  refine ⟨e, a', w'', hq, .of_steps (.one ?_) harr⟩
  have := step_lone_select_default (cs := cs) (stepG_comm (b := b) (k := k) (cs := cs) (rest := rest) (main := true) ho hw hb hr) hc
  rw [Frame.finish_at, ho] at this
  exact this
end

theorem calls_of_wpN {P : Program} {f : FuncId} {fn : Func} {c : Code} {args : Array Value} {w : World} {R : Ending → World → Prop}
    (hf : P.funcs[f]? = some fn) (hb : fn.body = some c)
    (h : wpN P c (bodyPost P fn R) { tmps := args ++ Array.replicate (fn.ntmps - args.size) undef, defers := [] } w) :
    Calls P f args w R := by
  intro cs
  let b : Frame := { (default : Frame) with fn := f, kind := .normal }
  have henter : Frame.enter P f args .normal =
      b.at { tmps := args ++ Array.replicate (fn.ntmps - args.size) undef, defers := [] } [.code c] := by
    simp [Frame.enter, Frame.at, hf, hb, b]
  obtain ⟨e, a', w', hq, harr⟩ := h b (by simp [b]) [] cs
  rw [← henter] at harr
  cases e with
  | normal =>
    obtain ⟨hd, v, hr, hR⟩ := hq
    exact ⟨.returned v, w', _, hR, Steps.trans harr (.one step_end), rfl, rfl, hd, rfl, fn, hf, hr⟩
  | ret =>
    obtain ⟨hd, v, hr, hR⟩ := hq
    obtain ⟨todo, hs⟩ := harr
    exact ⟨.returned v, w', _, hR, hs, rfl, rfl, hd, rfl, fn, hf, hr⟩
  | panic chain =>
    obtain ⟨hd, hR⟩ := hq
    obtain ⟨todo, hs⟩ := harr
    exact ⟨.panicked chain, w', _, hR, hs, rfl, rfl, hd, fn, hf⟩
  | exit id => exact hq.elim
  | goto l => exact hq.elim
  | outgrown => exact ⟨.outgrown, w', b.at a' [], hq, harr.resolve_left (by simp [b]), rfl, trivial⟩

end Go.Proofs.Ytdddplhfhpghkaa.cn
