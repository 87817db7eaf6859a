import Derived.Test.YtdddplhfhpghkaaHW
import Derived.Deep.Cut
import Derived.Deep.CutBlock
import Derived.Deep.CutRange
import Derived.Deep.LoopGhost
namespace Go.Proofs.Ytdddplhfhpghkaa.hp
open Go.ChangeShapes Go.WideShapes Go.ChangeAt Go.RowKit Go.Deep Go.Maps
set_option linter.unusedVariables false
set_option linter.unusedSimpArgs false

theorem Oth.then {X Y : Nat → Prop} {a b c : World} (h : Oth X a b) (k : Oth Y b c) (hy : ∀ i, i < a.heap.size → Y i → X i) : Oth X a c :=
  ⟨k.os.trans h.os, k.tape.trans h.tape, k.output.trans h.output, Nat.le_trans h.size k.size, fun i hi hx => (k.block i (Nat.lt_of_lt_of_le hi h.size) fun h2 => hx (hy i hi h2)).trans (h.block i hi hx)⟩
theorem Oth.grown {X : Nat → Prop} {a b c : World} (h : Oth X a b) {r : Option Nat} (k : b.grownBy c r) (hy : ∀ i, i < a.heap.size → r = some i → X i) : Oth X a c :=
  ⟨k.os.trans h.os, k.tape.trans h.tape, k.output.trans h.output, Nat.le_trans h.size k.size, fun i hi hx => (k.block i (Nat.lt_of_lt_of_le hi h.size) fun h2 => hx (hy i hi h2.symm)).trans (h.block i hi hx)⟩

/-- An append whose run is known, as an operation in a row. -/
theorem app_h {w w3 : World} {ops : Array Oper} {rest : List Oper} {o : Oper} {a : Act} {Q : Exit → Act → World → Prop} (hgd : o.guard = none) (s y : Operand) (t ty : TypeId) (v x v6 : Value) (ho : o.op = .call { callee := .builtin .append, args := #[s, y], argTypes := #[t, t] }) (hty : o.type = ty)
    (hs : a.eval s = v) (hx : a.eval y = x) (hr : (Builtin.append_ #[t, t] ty #[v, x]).run Try.prog w = .ok v6 w3) (k : wpList Try.prog ops Q rest (a.put o.dst v6) w3) : wpList Try.prog ops Q (o :: rest) a w := by
  refine wpList_plain hgd fun K hK => ?_
  unfold Oper.wp execOp
  rw [← hty] at hr
  simp only [ho, resolve, invoke, builtin, Sem.run_bind, Sem.run_pure, Result.andThen_ok, List.map_toArray, List.map_cons, List.map_nil, hs, hx, hr]
  exact hK _ _ k

/-- Where a heap's slice stands behind a field. -/
structure Ho (M S : Nat) (F : Nat → Value) (v : Value) (l : List Nat) (w : World) : Prop where
  row : w.rowIs S 108 5 fun k => if k = 4 then v else F k
  hv : Hv M w v l
  lt : S < M
  le : M ≤ w.heap.size

/-- The first step of a push: append, store. -/
theorem push_first {M S : Nat} {F : Nat → Value} {v : Value} {l : List Nat} {w : World} (h : Ho M S F v l w) (x : Nat) (hl : l.length ≤ 1000) :
    ∃ g cap w3, (Builtin.append_ #[106, 106] 106 #[v, .slice (some ⟨w.heap.size, 0, none⟩) 1 1]).run Try.prog (w.alloc (.cells #[.int .i64 (x : Int)] 3)) = .ok (.slice (some ⟨g, 0, none⟩) (l.length + 1) cap) w3 ∧
      w3.cell? ⟨S, 4, none⟩ = some v ∧ w3.frozen? ⟨S, 4, none⟩ = false ∧ (w3.setCell ⟨S, 4, none⟩ (.slice (some ⟨g, 0, none⟩) (l.length + 1) cap)).rowIs S 108 5 (fun k => if k = 4 then .slice (some ⟨g, 0, none⟩) (l.length + 1) cap else F k) ∧
      Rw M (w3.setCell ⟨S, 4, none⟩ (.slice (some ⟨g, 0, none⟩) (l.length + 1) cap)) g cap (l ++ [x]) ∧ Oth (fun k => k = S ∨ v.ownBlock = some k) w (w3.setCell ⟨S, 4, none⟩ (.slice (some ⟨g, 0, none⟩) (l.length + 1) cap)) ∧ (v.ownBlock = some g ∨ w.heap.size ≤ g) := by
  obtain ⟨i0, hi, hzz⟩ := Option.map_eq_some_iff.1 fi.infoI
  simp only [Prod.mk.injEq] at hzz
  obtain ⟨hz0, hz1, hz2⟩ := hzz
  have hown := h.hv.own
  obtain ⟨v', w', hr, h1, h2, h3, h4⟩ := run_append_own_at (P := Try.prog) (w.alloc (.cells #[.int .i64 (x : Int)] 3)) M 106 106 3 i0 _ 1 8 Try.underlying106 hi hz0 hz1 hz2 rfl (by omega) v l.length (fi.nV l) (hown.alloc _) ⟨w.heap.size, 0, none⟩ 1 1 (fi.nV [x]) (by simp [fi.nV]) (fa.new_one w x) (fi.nV_one _) (by unfold maxLen; omega) (by omega) (by have := h.le; simp; omega)
  have hne : some S ≠ v.ownBlock := fun e => by have := (hown.lt S e.symm).1; have := h.lt; omega
  have hrow : w'.rowIs S 108 5 (fun k => if k = 4 then v else F k) := (h.row.alloc _).of_block (h2.block S (h.row.alloc _).lt hne)
  have hHv : Hv M w' v' (l ++ [x]) := Hv.of_own (by rw [List.length_append]; unfold fi.nV; rw [List.map_append]; exact h1)
  obtain ⟨g, cap, rfl, hRw⟩ := hHv.some (by simp)
  rw [List.length_append] at hr h4
  simp only [List.length_cons, List.length_nil, Nat.zero_add] at hr h4
  have hgS : g ≠ S := fun e => by have := hRw.new; have := h.lt; omega
  refine ⟨g, cap, w', hr, hrow.cell (i := 4) (by decide), hrow.frozen 4, (hrow.set 4 _).congr fun k hk => ?_, hRw.kept (ty.blk_oth hgS), ?_, ?_⟩
  · by_cases e : k = 4
    · simp only [if_pos e]
    · simp only [if_neg e]
  · refine Oth.set (X := fun k => k = S ∨ v.ownBlock = some k) ?_ (.inl rfl) _
    refine Oth.grown (b := w.alloc (.cells #[.int .i64 (x : Int)] 3)) (Oth.of_below ((Below.refl _ _).alloc (Nat.le_refl _) _)) h2 fun i hi e => .inr e
  · rcases h4 with e | e
    · exact .inl e.symm
    · refine .inr ?_
      have := Option.some.inj e
      simp at this
      omega

set_option maxRecDepth 100000 in
set_option maxHeartbeats 4000000 in
theorem push_any (M S : Nat) (F : Nat → Value) (v : Value) (l : List Nat) (x : Nat) (w : World) (h : Ho M S F v l w) (hh : Hp l) (hl : l.length < 1000) :
    Calls Try.prog 88 #[.pointer (some ⟨S, 4, none⟩), .int .i64 (x : Int)] w fun e w' => e = .returned (.tuple #[]) ∧ ∃ v' l', Ho M S F v' l' w' ∧ l'.Perm (x :: l) ∧ Hp l' ∧ Oth (fun k => k = S ∨ v.ownBlock = some k) w w' ∧ (v'.ownBlock = v.ownBlock ∨ ∀ g, v'.ownBlock = some g → w.heap.size ≤ g) := by
  obtain ⟨g, cap, w3, hap, c4, f4, hrow, hRw, hoth, hfr⟩ := push_first h x (by omega)
  have cS : w.cell? ⟨S, 4, none⟩ = some v := h.row.cell (i := 4) (by decide)
  have HSM := Lib.hid h.lt
  have HSZ := Lib.hid h.le
  obtain ⟨W3, hW3⟩ : ∃ W, W = w3.setCell ⟨S, 4, none⟩ (.slice (some ⟨g, 0, none⟩) (l.length + 1) cap) := ⟨_, rfl⟩
  rw [← hW3] at hrow hRw hoth
  have HW3 := Lib.hid hW3
  have HUP : Hid (Up (l ++ [x]) l.length) := Up.init hh x
  have HPM : Hid ((l ++ [x]).Perm (x :: l)) := List.perm_append_singleton _ _
  have HFR := Lib.hid hfr
  have HRO := Lib.hid hrow
  have HRW := Lib.hid hRw
  have HOT := Lib.hid hoth
  obtain ⟨n, hn⟩ : ∃ n, l.length = n := ⟨_, rfl⟩
  have HLN : Hid (l.length = n) := hn
  rw [hn] at hap hl HUP HW3 HRO
  have hwr : IntKind.i64.wrap ((n : Int) + 1) = (n : Int) + 1 := by rw [IntKind.wrap_i64]; omega
  have cW : ∀ W : World, W.rowIs S 108 5 (fun k => if k = 4 then .slice (some ⟨g, 0, none⟩) (n + 1) cap else F k) → W.cell? ⟨S, 4, none⟩ = some (.slice (some ⟨g, 0, none⟩) (n + 1) cap) := fun W h => h.cell (i := 4) (by decide)
  have HCW := Lib.hid cW
  have c5 := HCW.out W3 HRO.out
  have HAP := Lib.hid hap
  clear h hh hn hrow hRw hoth hfr hW3 cW hap
  go_enter Try.func88, Try.ntmps88
  go_upto_region 2 with (at_builtin; refine app_h rfl _ _ _ _ _ _ _ rfl rfl rfl rfl HAP.out ?_; refine Hid.out ?_)
  refine Lib.hid ?_
  have hwn : IntKind.i64.wrap ((n : Int) + 1 - 1) = (n : Int) := by rw [IntKind.wrap_i64]; omega
  have HOX : Hid (∀ (W W' : World), Oth (fun k => k = S ∨ v.ownBlock = some k) w W → Oth (fun k => k = g) W W' → Oth (fun k => k = S ∨ v.ownBlock = some k) w W') := fun W W' h1 h2 => h1.then h2 fun i hi e => by
    subst e
    rcases HFR.out with h | h
    · exact .inr h
    · omega
  have HFX : Hid ((Value.slice (some ⟨g, 0, none⟩) (n + 1) cap).ownBlock = v.ownBlock ∨ ∀ g', (Value.slice (some ⟨g, 0, none⟩) (n + 1) cap).ownBlock = some g' → w.heap.size ≤ g') := by
    rcases HFR.out with h | h
    · exact .inl h.symm
    · exact .inr fun g' e => by have h3 : g = g' := Option.some.inj e; omega
  go_upto_region 1 with fail
  rw [← HW3.out]
  go_upto_region 2 with fail
  clear c4 cS f4 c5
  go_loopw [4, 5] (fun p _ wr => ∃ (k : Nat) (l' : List Nat), p = .int .i64 (k : Int) ∧ k ≤ n ∧ l'.length = n + 1 ∧ Up l' k ∧ l'.Perm (x :: l) ∧ (wr.rowIs S 108 5 fun k => if k = 4 then .slice (some ⟨g, 0, none⟩) (n + 1) cap else F k) ∧ Rw M wr g cap l' ∧ Oth (fun k => k = S ∨ v.ownBlock = some k) w wr) (fun p _ _ => (intOf p).toNat)
  case atStart => exact ⟨n, l ++ [x], rfl, Nat.le_refl _, by rw [List.length_append, HLN.out]; rfl, HUP.out, HPM.out, HRO.out, HRW.out, HOT.out⟩
  case round =>
    obtain ⟨k, l', rfl, hk, hlen, hup, hpm, hro, hrw, hot⟩ := hrel
    have HUP := Lib.hid hup
    have HPM := Lib.hid hpm
    have HRO := Lib.hid hro
    have HRW := Lib.hid hrw
    have HOT := Lib.hid hot
    have HLE := Lib.hid hlen
    clear hup hpm hro hrw hot hlen
    by_cases hk0 : k = 0
    · subst hk0
      go_wp2
      go_end0
      exact ⟨rfl, _, l', ⟨HRO.out, .inr ⟨g, cap, by rw [HLE.out], HRW.out⟩, HSM.out, Nat.le_trans HSZ.out HOT.out.size⟩, HPM.out, HUP.out.done (.inl rfl), HOT.out, HFX.out⟩
    · have hk1 : (0 : Int) < (k : Int) := by omega
      have hw1 : IntKind.i64.wrap ((k : Int) - 1) = (k : Int) - 1 := by rw [IntKind.wrap_i64]; omega
      go_upto_region 4 with fail
      obtain ⟨q, hqd⟩ : ∃ q, (k - 1) / 2 = q := ⟨_, rfl⟩
      rw [show ((k : Int) - 1) / 2 = (q : Int) by omega]
      have hqk : q < k := by omega
      obtain ⟨wd, hwd⟩ : ∃ z, wr.drew = z := ⟨_, rfl⟩
      have HROd : Hid (wd.rowIs S 108 5 fun k => if k = 4 then .slice (some ⟨g, 0, none⟩) (n + 1) cap else F k) := by show World.rowIs _ _ _ _ _; rw [← hwd]; exact HRO.out
      have HRWd : Hid (Rw M wd g cap l') := by show Rw _ _ _ _ _; rw [← hwd]; exact HRW.out.kept rfl
      have HOTd : Hid (Oth (fun k => k = S ∨ v.ownBlock = some k) w wd) := by show Oth _ _ _; rw [← hwd]; exact HOT.out.drew
      have cS := HCW.out wd HROd.out
      have ck := HRWd.out.cell (k := k) (by rw [HLE.out]; omega)
      have cq := HRWd.out.cell (k := q) (by rw [HLE.out]; omega)
      have hk2 : (k : Int) < (n : Int) + 1 := by omega
      have hq2 : (q : Int) < (n : Int) + 1 := by omega
      have hk3 : (0 : Int) ≤ (k : Int) := by omega
      have hq3 : (0 : Int) ≤ (q : Int) := by omega
      refine wq 13 (S := fun z => z = wd) (by kernel_rfl) hwd fun hHeld => ?_
      rw [hwd]
      rw [hwd] at hHeld
      clear hwd
      iterate 13 (refine un 13 rfl ?_; try simp only [aP])
      refine dq ?_
      by_cases hle : gt l' q ≤ gt l' k
      · have hle' : (gt l' q : Int) ≤ (gt l' k : Int) := by omega
        have HDO : Hid (Hp l') := HUP.out.done (.inr (by rw [hqd]; exact hle))
        clear hqd
        go_wp2
        first | go_end0 | refine bodyPost_ret (results_none rfl _ _ _) rfl ?_
        exact ⟨rfl, _, l', ⟨HROd.out, .inr ⟨g, cap, by rw [HLE.out], HRWd.out⟩, HSM.out, Nat.le_trans HSZ.out HOTd.out.size⟩, HPM.out, HDO.out, HOTd.out, HFX.out⟩
      · have hle' : ¬ (gt l' q : Int) ≤ (gt l' k : Int) := by omega
        have HST : Hid (Up (swp l' k q) q) := by have := HUP.out.step (by omega) (by rw [hqd]; omega); rw [hqd] at this; exact this
        have HSW := Lib.hid (swap_any M g cap l' k q wd HRWd.out (by rw [HLE.out]; omega) (by rw [HLE.out]; omega) (by rw [HLE.out]; omega))
        have HPS : Hid ((swp l' k q).Perm (x :: l)) := (swp_perm (by rw [HLE.out]; omega) (by rw [HLE.out]; omega)).trans HPM.out
        rw [HLE.out] at HSW
        have HLS : Hid ((swp l' k q).length = n + 1) := by show _ = _; rw [swp_len, HLE.out]
        clear hqd ck cq
        go_wp2_with (go_at_call 97; refine HSW.out.mono ?_; rintro e w5 ⟨rfl, h51, h52⟩; refine Hid.out ?_)
        refine Lib.hid ?_
        have HR5 : Hid (w5.rowIs S 108 5 fun k => if k = 4 then .slice (some ⟨g, 0, none⟩) (n + 1) cap else F k) := HROd.out.of_block (h52.block S HROd.out.lt (by have := HRW.out.new; have := HSM.out; omega))
        have HO5 := Lib.hid (HOX.out wd w5 HOTd.out h52)
        have HW5 := Lib.hid h51
        clear h51 h52 cS
        go_wp2
        go_roundw
        case rel => exact ⟨q, swp l' k q, rfl, by omega, HLS.out, HST.out, HPS.out, HR5.out, HW5.out, HO5.out⟩
        case measure => simp [intOf]; omega
end Go.Proofs.Ytdddplhfhpghkaa.hp
