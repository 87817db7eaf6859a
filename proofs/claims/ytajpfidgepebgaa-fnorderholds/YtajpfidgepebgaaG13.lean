import Derived.Test.YtajpfidgepebgaaG12
import Derived.Test.YtajpfidgepebgaaRows
import Derived.Test.YtajpfidgepebgaaG01
import Derived.Conc.LoneSelect
import Derived.Lib.Hide
import Derived.Test.YtajpfidgepebgaaG05
import Derived.Deep.Cut
import Derived.Deep.CutBlock
import Derived.Deep.CutRange
import Derived.Deep.RegionHeld3
namespace Go.Proofs.Ytajpfidgepebgaa.hp
open Go.ChangeShapes Go.WideShapes Go.ChangeAt Go.RowKit Go.Deep Go.Maps
set_option linter.unusedVariables false
set_option linter.unusedSimpArgs false

set_option maxRecDepth 100000 in
set_option maxHeartbeats 4000000 in
/-- Nothing is there. -/
theorem pop_none (M S : Nat) (F : Nat → Value) (v : Value) (w : World) (h : Ho M S F v [] w) :
    Calls Try.prog 60 #[.pointer (some ⟨S, 4, none⟩)] w fun e w' => e = .returned (.tuple #[.int .i64 0, .bool false]) ∧ w' = w := by
  obtain ⟨a, cap, rfl⟩ := h.hv.len
  have cS : w.cell? ⟨S, 4, none⟩ = some (.slice a 0 cap) := h.row.cell (i := 4) (by decide)
  clear h
  go_enter Try.func60, Try.ntmps60
  go_wp2
  go_ret2
  exact ⟨rfl, rfl⟩

set_option maxRecDepth 100000 in
set_option maxHeartbeats 4000000 in
theorem pop_any (M S : Nat) (F : Nat → Value) (v : Value) (l : List Nat) (w : World) (h : Ho M S F v l w) (hh : Hp l) (h0 : 0 < l.length) (hl : l.length ≤ 1000) :
    Calls Try.prog 60 #[.pointer (some ⟨S, 4, none⟩)] w fun e w' => e = .returned (.tuple #[.int .i64 (gt l 0 : Int), .bool true]) ∧ ∃ v' l', Ho M S F v' l' w' ∧ l.Perm (gt l 0 :: l') ∧ Hp l' ∧ Oth (fun k => k = S ∨ v.ownBlock = some k) w w' ∧ v'.ownBlock = v.ownBlock := by
  obtain ⟨g, cap, rfl, hrw⟩ := h.hv.some h0
  have hcl := hrw.le
  have HSM := Lib.hid h.lt
  have HSZ := Lib.hid h.le
  have HRO := Lib.hid h.row
  have HNW := Lib.hid hrw.new
  obtain ⟨m, hm⟩ : ∃ m, l.length = m + 1 := ⟨l.length - 1, by omega⟩
  have HM := Lib.hid hm
  have cS : w.cell? ⟨S, 4, none⟩ = some (.slice (some ⟨g, 0, none⟩) l.length cap) := h.row.cell (i := 4) (by decide)
  have HSW := Lib.hid (swap_any M g cap l 0 m w hrw (by omega) (by omega) (by omega))
  have HDN := Lib.hid (Dn.init hh hm)
  have HPM := Lib.hid (pop_perm hm)
  have HLT : Hid (((swp l 0 m).take m).length = m) := by show _ = _; rw [List.length_take, swp_len, hm]; omega
  have HGM : Hid (gt (swp l 0 m) m = gt l 0) := by show _ = _; rw [swp_gt (by omega) (by omega), if_pos rfl]
  have HLS : Hid ((swp l 0 m).length = m + 1) := by show _ = _; rw [swp_len, hm]
  have hw0 : IntKind.i64.wrap ((m : Int) + 1 - 1) = (m : Int) := by rw [IntKind.wrap_i64]; omega
  have hne : ((m : Int) + 1 == 0) = false := by rw [beq_eq_false_iff_ne]; omega
  rw [hm] at hl HSW cS hcl HRO
  simp only [Int.ofNat_zero, Int.natCast_zero] at HSW
  rw [hm]
  clear h hh h0 hm hrw
  go_enter Try.func60, Try.ntmps60
  go_wp2_with (go_at_call 74; refine HSW.out.mono ?_; rintro e w5 ⟨rfl, h51, h52⟩; refine Hid.out ?_)
  refine Lib.hid ?_
  have hgS : S ≠ g := by have := HNW.out; have := HSM.out; omega
  have HR5 : Hid (w5.rowIs S 84 5 fun k => if k = 4 then .slice (some ⟨g, 0, none⟩) (m + 1) cap else F k) := HRO.out.of_block (h52.block S HRO.out.lt hgS)
  have c5 : w5.cell? ⟨S, 4, none⟩ = some (.slice (some ⟨g, 0, none⟩) (m + 1) cap) := HR5.out.cell (i := 4) (by decide)
  have f5 := HR5.out.frozen 4
  have cm : w5.cell? ⟨g, m, none⟩ = some (.int .i64 (gt l 0 : Int)) := by have := h51.cell (k := m) (by rw [HLS.out]; omega); rw [HGM.out] at this; exact this
  obtain ⟨W6, hW6⟩ : ∃ W, W = w5.setCell ⟨S, 4, none⟩ (.slice (some ⟨g, 0, none⟩) m cap) := ⟨_, rfl⟩
  have HW6 := Lib.hid hW6
  have HR6 : Hid (W6.rowIs S 84 5 fun k => if k = 4 then .slice (some ⟨g, 0, none⟩) m cap else F k) := by
    show World.rowIs _ _ _ _ _
    rw [hW6]
    refine (HR5.out.set 4 _).congr fun k hk => ?_
    by_cases e : k = 4
    · simp only [if_pos e]
    · simp only [if_neg e]
  have HX6 : Hid (Rw M W6 g cap ((swp l 0 m).take m)) := by
    show Rw _ _ _ _ _
    rw [hW6]
    exact (h51.take m).kept (ty.blk_oth (Ne.symm hgS))
  have HO6 : Hid (Oth (fun k => k = S ∨ some g = some k) w W6) := by
    show Oth _ _ _
    rw [hW6]
    exact (Oth.set (X := fun k => k = S ∨ some g = some k) (h52.mono fun k _ e => .inr (by rw [e])) (.inl rfl) _)
  have c6 : W6.cell? ⟨S, 4, none⟩ = some (.slice (some ⟨g, 0, none⟩) m cap) := HR6.out.cell (i := 4) (by decide)
  have HSK := Lib.hid (sink_any M g cap _ W6 HX6.out HDN.out (by rw [HLT.out]; omega))
  rw [HLT.out] at HSK
  have hm2 : (m : Int) < (m : Int) + 1 := by omega
  have hm3 : (0 : Int) ≤ (m : Int) := by omega
  have hm4 : (m : Int) ≤ (cap : Int) := by omega
  clear hW6 h51 h52 cS
  go_upto_region 8 with fail
  rw [← HW6.out]
  clear c5 f5 cm
  go_wp2_with (go_at_call 75; refine HSK.out.mono ?_; rintro e w7 ⟨rfl, l7, h71, h72, h73, h74⟩; refine Hid.out ?_)
  refine Lib.hid ?_
  have HLL : Hid (l7.length = m) := by show _ = _; rw [h71.length_eq, HLT.out]
  have HR7 : Hid (w7.rowIs S 84 5 fun k => if k = 4 then .slice (some ⟨g, 0, none⟩) m cap else F k) := HR6.out.of_block (h74.block S HR6.out.lt hgS)
  have HO7 : Hid (Oth (fun k => k = S ∨ some g = some k) w w7) := HO6.out.then h74 fun i _ e => .inr (by rw [e])
  have HEN : Hid (∃ v' l', Ho M S F v' l' w7 ∧ l.Perm (gt l 0 :: l') ∧ Hp l' ∧ Oth (fun k => k = S ∨ (Value.slice (some ⟨g, 0, none⟩) (m + 1) cap).ownBlock = some k) w w7 ∧ v'.ownBlock = (Value.slice (some ⟨g, 0, none⟩) (m + 1) cap).ownBlock) :=
    ⟨_, l7, ⟨HR7.out, .inr ⟨g, cap, by rw [HLL.out], h73⟩, HSM.out, Nat.le_trans HSZ.out HO7.out.size⟩, HPM.out.trans (h71.symm.cons _), h72, HO7.out, rfl⟩
  clear h71 h72 h73 h74
  go_wp2
  go_ret2
  exact ⟨rfl, HEN.out⟩
end Go.Proofs.Ytajpfidgepebgaa.hp

namespace Go.Proofs.Ytajpfidgepebgaa.cn
open Go.Conc Go.RowKit
set_option linter.unusedVariables false

/-! ### A walk that bears sends and selects: in a frame that is no early one -/

def wpN (P : Program) (c : Code) (Q : Exit → Act → World → Prop) (a : Act) (w : World) : Prop :=
  ∀ (b : Frame), b.kind ≠ .early → ∀ (k : List Item) (cs : List Frame),
    ∃ e a' w', Q e a' w' ∧ Arrives P (lone (b.at a (.code c :: k)) cs w) b k cs e a' w'

section
variable {P : Program} {Q : Exit → Act → World → Prop} {a : Act} {w : World}
theorem wpN_of {c : Code} (h : c.wp P Q a w) : wpN P c Q a w := fun b _ k cs => h b k cs
theorem wpN_skip (h : Q .normal a w) : wpN P .skip Q a w := wpN_of (wp_skip h)

theorem wpN_seq {x y : Code} (h : wpN P x (Exit.then (wpN P y Q) Q) a w) : wpN P (Code.seq x y) Q a w := by
  intro b hb k cs
  obtain ⟨e, a₁, w₁, hq, harr⟩ := h b hb (.code y :: k) cs
  cases e with
  | normal =>
    obtain ⟨e₂, a₂, w₂, hq₂, harr₂⟩ := hq b hb k cs
    exact ⟨e₂, a₂, w₂, hq₂, .of_steps (.head step_seq harr) harr₂⟩
  | exit id => exact ⟨_, a₁, w₁, hq, .of_steps (.one step_seq) (.pass (x := .code y) rfl (fun _ _ => .inl (by simp)) harr)⟩
  | goto l => exact ⟨_, a₁, w₁, hq, .of_steps (.one step_seq) (.pass (x := .code y) rfl (fun _ _ => .inl (by simp)) harr)⟩
  | ret => exact ⟨_, a₁, w₁, hq, .of_steps (.one step_seq) (.pass (x := .code y) rfl (fun _ _ => .inl (by simp)) harr)⟩
  | panic ch => exact ⟨_, a₁, w₁, hq, .of_steps (.one step_seq) (.pass (x := .code y) rfl (fun _ _ => .inl (by simp)) harr)⟩
  | outgrown => exact ⟨_, a₁, w₁, hq, .of_steps (.one step_seq) (.pass (x := .code y) rfl (fun _ _ => .inl (by simp)) harr)⟩

/-- First a piece that does not speak. -/
theorem wpN_seq_k {x y : Code} (h : ∀ K : Act → World → Prop, (∀ a w, wpN P y Q a w → K a w) → x.wp P (Exit.then K Q) a w) : wpN P (Code.seq x y) Q a w :=
  wpN_seq (wpN_of (h _ fun _ _ h => h))

theorem wpN_cond {c : Operand} {x y : Code} {t : Bool} (hc : a.eval c = .bool t) (h : wpN P (if t then x else y) Q a w) : wpN P (Code.cond c x y) Q a w :=
  fun b hb k cs => let ⟨e, a', w', q, r⟩ := h b hb k cs; ⟨e, a', w', q, .of_steps (.one (step_cond hc)) r⟩

theorem wpN_block {id : Nat} {c : Code} (h : wpN P c (Exit.inBlock id Q) a w) : wpN P (Code.block id c) Q a w := by
  intro b hb k cs
  obtain ⟨e, a₁, w₁, hq, harr⟩ := h b hb (.inBlock id :: k) cs
  cases e with
  | normal => exact ⟨.normal, a₁, w₁, hq, .head step_block (Steps.trans harr (.one step_inBlock))⟩
  | exit id' =>
    by_cases hid : id' = id
    · simp only [Exit.inBlock, hid, if_true] at hq
      exact ⟨.normal, a₁, w₁, hq, .head step_block (harr k (by simp [exitTo, hid]))⟩
    · simp only [Exit.inBlock, hid, if_false] at hq
      refine ⟨.exit id', a₁, w₁, hq, fun k' hk => .head step_block (harr k' ?_)⟩
      have : (id == id') = false := by simp; exact fun h => hid h.symm
      simp [exitTo, this, hk]
  | goto l => exact ⟨_, a₁, w₁, hq, fun k' hk => .head step_block (harr k' (by simp [gotoIn, hk]))⟩
  | ret => exact ⟨_, a₁, w₁, hq, .of_steps (.one step_block) harr⟩
  | panic ch => exact ⟨_, a₁, w₁, hq, .of_steps (.one step_block) harr⟩
  | outgrown => exact ⟨_, a₁, w₁, hq, .of_steps (b := b) (k := k) (cs := cs) (e := .outgrown) (.one step_block) harr⟩

theorem wpN_loop {c : Code} (I : Act → World → Prop) (μ : Act → World → Nat) (h₀ : I a w)
    (round : ∀ a w, I a w → wpN P c (Exit.then (fun a' w' => I a' w' ∧ μ a' w' < μ a w) Q) a w) : wpN P (Code.loop c) Q a w := by
  intro b hb k cs
  have key : ∀ n a w, μ a w = n → I a w →
      ∃ e a' w', Q e a' w' ∧ Arrives P (lone (b.at a (.code c :: .inLoop c :: k)) cs w) b k cs e a' w' := by
    intro n
    induction n using Nat.strongRecOn with
    | _ n ih =>
      intro a w hn hI
      obtain ⟨e, a₁, w₁, hq, harr⟩ := round a w hI b hb (.inLoop c :: k) cs
      cases e with
      | normal =>
        obtain ⟨hI₁, hlt⟩ := hq
        obtain ⟨e₂, a₂, w₂, hq₂, harr₂⟩ := ih (μ a₁ w₁) (hn ▸ hlt) a₁ w₁ rfl hI₁
        exact ⟨e₂, a₂, w₂, hq₂, .of_steps (Steps.trans harr (.one step_inLoop)) harr₂⟩
      | exit id => exact ⟨_, a₁, w₁, hq, .pass (x := .inLoop c) rfl (fun _ _ => .inl (by simp)) harr⟩
      | goto l => exact ⟨_, a₁, w₁, hq, .pass (x := .inLoop c) rfl (fun _ _ => .inl (by simp)) harr⟩
      | ret => exact ⟨_, a₁, w₁, hq, .pass (x := .inLoop c) rfl (fun _ _ => .inl (by simp)) harr⟩
      | panic ch => exact ⟨_, a₁, w₁, hq, .pass (x := .inLoop c) rfl (fun _ _ => .inl (by simp)) harr⟩
      | outgrown => exact ⟨_, a₁, w₁, hq, .pass (x := .inLoop c) rfl (fun _ _ => .inl (by simp)) harr⟩
  obtain ⟨e, a', w', hq, harr⟩ := key _ a w rfl h₀
  exact ⟨e, a', w', hq, .of_steps (.one step_loop) harr⟩

/-- What is left of a region. -/
def SN (P : Program) (ops : Array Oper) (Q : Exit → Act → World → Prop) (l : List Nat) (a : Act) (w : World) : Prop :=
  ∀ (b : Frame), b.kind ≠ .early → ∀ (k : List Item) (cs : List Frame), ∃ e a' w', Q e a' w' ∧ Arrives P (lone (b.at a (.inRegion ops l :: k)) cs w) b k cs e a' w'

theorem wpN_region {id : Nat} {ops : Array Oper} (h : SN P ops Q (List.range ops.size) a w) : wpN P (Code.region id ops false) Q a w :=
  fun b hb k cs => let ⟨e, a', w', q, r⟩ := h b hb k cs; ⟨e, a', w', q, .of_steps (.one step_region) r⟩
theorem SN_of {ops : Array Oper} {l : List Nat} (h : wpOps P ops Q l a w) : SN P ops Q l a w := fun b _ k cs => wp_ops l a w h b k cs
theorem SN_nil {ops : Array Oper} (h : Q .normal a w) : SN P ops Q [] a w := SN_of h
theorem SN_val {ops : Array Oper} {i : Nat} {rest : List Nat} {o : Oper} (v : Value) (w' : World) (ho : ops[i]? = some o) (hw : Region.wanted o (yielded ops a.tmps) = true) (hr : (execOp a.eval o).run P w = .ok (.value v) w')
    (h : SN P ops Q rest (a.put o.dst v) w') : SN P ops Q (i :: rest) a w := by
  intro b hb k cs
  obtain ⟨e, a', w'', hq, harr⟩ := h b hb k cs
  have hg := stepG_op (P := P) (b := b) (k := k) (cs := cs) (w := w) (rest := rest) ho hw
  have hfin : ∀ v, (b.at a (.inRegion ops (i :: rest) :: k)).finish v = b.at (a.put o.dst v) (.inRegion ops rest :: k) := by
    intro v; rw [Frame.finish_at, ho]; rfl
  refine ⟨e, a', w'', hq, .of_steps (.one (step_lone_go ?_)) harr⟩
  rw [hg, ← hfin]; simp [stepG.apply, hr]

variable {c cap s r : Nat} {buf : Array Value} {z z' v : Value} {tm : Bool}
/-- A send with room. -/
theorem SN_send {ops : Array Oper} {i : Nat} {rest : List Nat} {o : Oper} (ho : ops[i]? = some o) (hw : Region.wanted o (yielded ops a.tmps) = true) (hr : (execOp a.eval o).run P w = .ok (.comm #[scase c v z'] true .send) w)
    (hc : w.heap[c]? = some (.chan cap buf false s r tm)) (hroom : buf.size < cap) (h : SN P ops Q rest (a.put o.dst undef) (w.setChan c cap (buf.push v) false (s + 1) r tm)) : SN P ops Q (i :: rest) a w := by
  intro b hb k cs
  obtain ⟨e, a', w'', hq, harr⟩ := h b hb k cs
  refine ⟨e, a', w'', hq, .of_steps (.one ?_) harr⟩
  have := step_lone_send_room (cs := cs) (stepG_comm (b := b) (k := k) (cs := cs) (rest := rest) (main := true) ho hw hb hr) hc hroom
  rw [Frame.finish_at, ho] at this
  exact this
/-- A select of one receive with a default: something lies in the buffer. -/
theorem SN_recv {ops : Array Oper} {i : Nat} {rest : List Nat} {o : Oper} (ho : ops[i]? = some o) (hw : Region.wanted o (yielded ops a.tmps) = true) (hr : (execOp a.eval o).run P w = .ok (.comm #[rcase c z] false .select) w)
    (hc : w.heap[c]? = some (.chan cap buf false s r tm)) (hsome : 0 < buf.size) (h : SN P ops Q rest (a.put o.dst (.tuple #[goInt 0, .bool true, buf.getD 0 undef])) (w.setChan c cap (buf.extract 1 buf.size) false s (r + 1) tm)) : SN P ops Q (i :: rest) a w := by
  intro b hb k cs
  obtain ⟨e, a', w'', hq, harr⟩ := h b hb k cs
  refine ⟨e, a', w'', hq, .of_steps (.one ?_) harr⟩
  have := step_lone_select_recv_buf (cs := cs) (stepG_comm (b := b) (k := k) (cs := cs) (rest := rest) (main := true) ho hw hb hr) hc hsome
  rw [Frame.finish_at, ho] at this
  exact this
/-- .. nothing does. -/
theorem SN_deft {ops : Array Oper} {i : Nat} {rest : List Nat} {o : Oper} (ho : ops[i]? = some o) (hw : Region.wanted o (yielded ops a.tmps) = true) (hr : (execOp a.eval o).run P w = .ok (.comm #[rcase c z] false .select) w)
    (hc : w.heap[c]? = some (.chan cap #[] false s r tm)) (h : SN P ops Q rest (a.put o.dst (.tuple #[goInt (-1), .bool false, z])) w) : SN P ops Q (i :: rest) a w := by
  intro b hb k cs
  obtain ⟨e, a', w'', hq, harr⟩ := h b hb k cs
  refine ⟨e, a', w'', hq, .of_steps (.one ?_) harr⟩
  have := step_lone_select_default (cs := cs) (stepG_comm (b := b) (k := k) (cs := cs) (rest := rest) (main := true) ho hw hb hr) hc
  rw [Frame.finish_at, ho] at this
  exact this
end

theorem calls_of_wpN {P : Program} {f : FuncId} {fn : Func} {c : Code} {args : Array Value} {w : World} {R : Ending → World → Prop}
    (hf : P.funcs[f]? = some fn) (hb : fn.body = some c)
    (h : wpN P c (bodyPost P fn R) { tmps := args ++ Array.replicate (fn.ntmps - args.size) undef, defers := [] } w) :
    Calls P f args w R := by
  intro cs
  let b : Frame := { (default : Frame) with fn := f, kind := .normal }
  have henter : Frame.enter P f args .normal =
      b.at { tmps := args ++ Array.replicate (fn.ntmps - args.size) undef, defers := [] } [.code c] := by
    simp [Frame.enter, Frame.at, hf, hb, b]
  obtain ⟨e, a', w', hq, harr⟩ := h b (by simp [b]) [] cs
  rw [← henter] at harr
  cases e with
  | normal =>
    obtain ⟨hd, v, hr, hR⟩ := hq
    exact ⟨.returned v, w', _, hR, Steps.trans harr (.one step_end), rfl, rfl, hd, rfl, fn, hf, hr⟩
  | ret =>
    obtain ⟨hd, v, hr, hR⟩ := hq
    obtain ⟨todo, hs⟩ := harr
    exact ⟨.returned v, w', _, hR, hs, rfl, rfl, hd, rfl, fn, hf, hr⟩
  | panic chain =>
    obtain ⟨hd, hR⟩ := hq
    obtain ⟨todo, hs⟩ := harr
    exact ⟨.panicked chain, w', _, hR, hs, rfl, rfl, hd, fn, hf⟩
  | exit id => exact hq.elim
  | goto l => exact hq.elim
  | outgrown => exact ⟨.outgrown, w', b.at a' [], hq, harr.resolve_left (by simp [b]), rfl, trivial⟩

end Go.Proofs.Ytajpfidgepebgaa.cn

namespace Go.Proofs.Ytajpfidgepebgaa.fw
open Go.ChangeShapes Go.WideShapes Go.ChangeAt Go.RowKit Go.Deep Go.Maps
open fa (Us uNo nds aw aws aw_mem aw_len aw_le BhV Wb WbR infoR retWeb blk_new three_new fX web_made awaited_any)
set_option linter.unusedVariables false
set_option linter.unusedSimpArgs false

/-- What it answers. -/
def WebR2 (us : List ty.Un) (n : Nat) (w w' : World) (e : Ending) : Prop := ∃ A U Bs V, e = .returned (.agg #[.slice (some ⟨A, 0, none⟩) n n, .slice (some ⟨U, 0, none⟩) (n + 1) (n + 1)]) ∧ BhV Bs U (n + 1) (bhL us n) V w' ∧ (w.heap.size ≤ U ∧ U < Bs ∧ Bs ≤ w'.heap.size) ∧ Ah us n Bs A n V w' ∧ w.heap.size ≤ A ∧ A < Bs ∧ A ≠ U

set_option maxRecDepth 100000 in
set_option maxHeartbeats 16000000 in
theorem web2_any (md : Option Nat) (a : Option Addr) (c : Nat) (us : List ty.Un) (w : World) (hb : ty.SrcUn md w a us) (hU : Ua us) :
    Calls Try.prog 20 #[.slice a us.length c, .func (.func 21) #[] #[]] w fun e w' => WebR2 us us.length w w' e ∧ Below w.heap.size w w' := by
  have hn1 := hU.few
  have hmk := ty.makeN (P := Try.prog) 44 41 (.slice none 0 0) 1 24 Try.underlying44 infoR .i64 .i64 us.length (by omega) (by omega)
  have hmk2 := ty.makeN (P := Try.prog) 44 41 (.slice none 0 0) 1 24 Try.underlying44 infoR .i64 .i64 (us.length + 1) (by omega) (by omega)
  rw [Nat.mul_one] at hmk hmk2
  rw [show (((us.length + 1 : Nat)) : Int) = (us.length : Int) + 1 by omega] at hmk2
  have HSR := Lib.hid hb
  have HU := Lib.hid hU
  have HNE : Hid (∀ (u : ty.Un) (d1 : Option Addr) (e1 : Nat) (d2 : Option Addr) (e2 : Nat) W, u ∈ us → Below w.heap.size w W → (∀ (k : Nat) (m : ByteArray), u.fNeeds[k]? = some m → ∃ nb no, d2 = some ⟨nb, no, none⟩ ∧ W.cell? ⟨nb, no + k, none⟩ = some (.string m)) → (∀ (k : Nat) (m : ByteArray), u.fAfter[k]? = some m → ∃ nb no, d1 = some ⟨nb, no, none⟩ ∧ W.cell? ⟨nb, no + k, none⟩ = some (.string m)) → Calls Try.prog 21 #[.slice a us.length c, .agg #[.string u.fName, .slice d1 u.fAfter.length e1, .slice d2 u.fNeeds.length e2, .string u.fExec, .bool u.fKeep]] W fun e w' => (∃ g o cap, e = .returned (.slice (some ⟨g, o, none⟩) (aw us u).length cap) ∧ fi.Ib W.heap.size w' g o cap (aw us u)) ∧ Below W.heap.size W w') := fun u d1 e1 d2 e2 W hu h hc hc1 => awaited_any md a _ us u d1 e1 d2 e2 W (hb.below h) hU.toUs hu (hU.aft u hu) hc hc1
  have HIT : Hid (∀ (i : Nat) (u : ty.Un), us[i]? = some u → ∃ b o d1 e1 d2 e2, a = some ⟨b, o, none⟩ ∧ (∀ W, Below w.heap.size w W → (W.cell? ⟨b, o + i * 5, none⟩ = some (.string u.fName) ∧ W.cell? ⟨b, o + i * 5 + 1, none⟩ = some (.slice d1 u.fAfter.length e1) ∧ W.cell? ⟨b, o + i * 5 + 2, none⟩ = some (.slice d2 u.fNeeds.length e2) ∧ W.cell? ⟨b, o + i * 5 + 3, none⟩ = some (.string u.fExec) ∧ W.cell? ⟨b, o + i * 5 + 4, none⟩ = some (.bool u.fKeep)) ∧ ∀ (k : Nat) (m : ByteArray), u.fNeeds[k]? = some m → ∃ nb no, d2 = some ⟨nb, no, none⟩ ∧ W.cell? ⟨nb, no + k, none⟩ = some (.string m)) ∧ ∀ W, Below w.heap.size w W → ∀ (k : Nat) (m : ByteArray), u.fAfter[k]? = some m → ∃ nb no, d1 = some ⟨nb, no, none⟩ ∧ W.cell? ⟨nb, no + k, none⟩ = some (.string m)) := fun i u hu => by
    rcases hb with h | ⟨b, o, e, _, hc⟩
    · rw [h.2] at hu; simp at hu
    obtain ⟨d1, e1, d2, e2, q0, q1, q2, q3, q4, s1, s2, _⟩ := hc i u hu
    refine ⟨b, o, d1, e1, d2, e2, e, fun W h => ?_, fun W h j m hm => ?_⟩
    rotate_left
    · rcases s1 with h' | ⟨nb, no, e2', _, hc2⟩
      · rw [h'.2] at hm; simp at hm
      · exact ⟨nb, no, e2', (h.cell (p := ⟨nb, no + j, none⟩) (World.block_lt_of_cell? _ _ (hc2 j m hm))).trans (hc2 j m hm)⟩
    have k : ∀ {q r v}, w.cell? ⟨q, r, none⟩ = some v → W.cell? ⟨q, r, none⟩ = some v := fun {q r v} h' => (h.cell (p := ⟨q, r, none⟩) (World.block_lt_of_cell? _ _ h')).trans h'
    exact ⟨⟨k q0, k q1, k q2, k q3, k q4⟩, fun j m hm => by
      rcases s2 with h' | ⟨nb, no, e2', _, hc2⟩
      · rw [h'.2] at hm; simp at hm
      · exact ⟨nb, no, e2', k (hc2 j m hm)⟩⟩
  obtain ⟨n, hnn⟩ : ∃ n, us.length = n := ⟨_, rfl⟩
  have HN : Hid (us.length = n) := hnn
  rw [hnn] at hn1 hmk hmk2 HNE ⊢
  obtain ⟨MA, hMA⟩ : ∃ M, M = madeCells (Value.slice none 0 0).cells n := ⟨_, rfl⟩
  obtain ⟨MU, hMU⟩ : ∃ M, M = madeCells (Value.slice none 0 0).cells (n + 1) := ⟨_, rfl⟩
  rw [← hMA] at hmk
  rw [← hMU] at hmk2
  have HMA : Hid (MA = madeCells #[.slice none 0 0] n) := hMA
  have HMU : Hid (MU = madeCells #[.slice none 0 0] (n + 1)) := hMU
  have HW1 : Hid ((w.alloc (.cells #[.slice none 0 0, .slice none 0 0] 46)).drew.rowIs w.heap.size 46 2 fun _ => .slice none 0 0) := ⟨_, blk_new w _, rfl, fun i hi => by
    match i, hi with
    | 0, _ => rfl
    | 1, _ => rfl⟩
  have hwl : w.heap.size < (w.alloc (.cells #[.slice none 0 0, .slice none 0 0] 46)).drew.heap.size := by simp
  have HB0 : Hid (Below w.heap.size w (w.alloc (.cells #[.slice none 0 0, .slice none 0 0] 46)).drew) := ((Below.refl _ _).alloc (Nat.le_refl _) _).drew
  have hwr1 : IntKind.i64.wrap ((n : Int) + 1) = (n : Int) + 1 := by rw [IntKind.wrap_i64]; omega
  clear hb hU hnn hMA hMU
  go_enter Try.func20, Try.ntmps20
  go_upto_region 1 with fail
  go_cut [5] from 10 (fun p wx => ∃ A U X, p = .pointer (some ⟨X, 0, none⟩) ∧ (∃ Bs, WbR w w.heap.size A U X Bs ∧ Wb w.heap.size A U X Bs n (fa.bhL us 0) (fun _ => .slice none 0 0) wx) ∧ Below w.heap.size w wx)
  case first =>
    refine wp_region_held_drew (S := fun _ => True) (by kernel_rfl) trivial (fun hHeld => ?_)
    obtain ⟨wd, hwd⟩ : ∃ z, (w.alloc (.cells #[.slice none 0 0, .slice none 0 0] 46)).drew = z := ⟨_, rfl⟩
    rw [hwd] at HW1 hwl HB0
    rw [hwd]
    clear hwd
    refine uq (i := 0) rfl ?_
    try simp only [aP]
    refine uq (i := 1) rfl ?_
    try simp only [aP]
    refine uq (i := 3) rfl ?_
    try simp only [aP]
    refine uq (i := 4) rfl ?_
    try simp only [aP]
    refine uq (i := 5) rfl ?_
    try simp only [aP]
    refine wpAnyH_ready (rs := [2, 6, 8]) (by kernel_rfl) (by simp) ?_
    refine cq rfl (fun K hK => ?_) (cq rfl (fun K hK => ?_) (cq rfl (fun K hK => ?_) AllReadyH.nil))
    · go_simp
      try go_wp2_with fail
      refine hK.out _ _ (trivial) (fun hHeld => ?_)
      clear hK K
      try simp only [aP]
      refine wpAnyH_ready (rs := [6, 8]) (by kernel_rfl) (by simp) ?_
      refine cq rfl (fun K hK => ?_) (cq rfl (fun K hK => ?_) AllReadyH.nil)
      · go_simp
        try go_wp2_with fail
        refine hK.out _ _ (trivial) (fun hHeld => ?_)
        clear hK K
        try simp only [aP]
        refine uq (i := 7) rfl ?_
        try simp only [aP]
        refine wpAnyH_ready (rs := [8]) (by kernel_rfl) (by simp) ?_
        refine cq rfl (fun K hK => ?_) AllReadyH.nil
        go_simp
        try go_wp2_with fail
        refine hK.out _ _ (trivial) (fun hHeld => ?_)
        clear hK K
        try simp only [aP]
        obtain ⟨k1, k2, k3, kb, ks⟩ := three_new wd (.cells MA 41) (.cells MU 41) (.cells #[.slice (some ⟨wd.heap.size, 0, none⟩) n n, .slice (some ⟨wd.heap.size + 1, 0, none⟩) (n + 1) (n + 1)] 46)
        have HWM := Lib.hid (web_made (w0 := w) (us := us) (n := n) hwl HW1.out kb ks k1 HMA.out HMU.out k2 k3 (by omega) (by omega) (by omega) (by omega) (by omega) (by omega))
        clear k1 k2 k3 kb ks
        refine rq 9 rfl fun K hK => ?_
        go_simp
        try go_wp2_with fail
        refine hK.out _ _ (trivial) (fun hHeld => ?_)
        clear hK K
        try simp only [aP]
        refine dq ?_
        go_wp2_with fail
        go_meet
        case rel => exact ⟨_, _, _, rfl, ⟨_, HWM.out.1, HWM.out.2.1⟩, HB0.out.trans (HWM.out.2.2.mono HB0.out.size)⟩
      · go_simp
        try go_wp2_with fail
        refine hK.out _ _ (trivial) (fun hHeld => ?_)
        clear hK K
        try simp only [aP]
        refine wpAnyH_ready (rs := [6]) (by kernel_rfl) (by simp) ?_
        refine cq rfl (fun K hK => ?_) AllReadyH.nil
        go_simp
        try go_wp2_with fail
        refine hK.out _ _ (trivial) (fun hHeld => ?_)
        clear hK K
        try simp only [aP]
        refine uq (i := 7) rfl ?_
        try simp only [aP]
        obtain ⟨k1, k2, k3, kb, ks⟩ := three_new wd (.cells MA 41) (.cells #[.slice (some ⟨wd.heap.size, 0, none⟩) n n, .slice (some ⟨wd.heap.size + 1 + 1, 0, none⟩) (n + 1) (n + 1)] 46) (.cells MU 41)
        have HWM := Lib.hid (web_made (w0 := w) (us := us) (n := n) hwl HW1.out kb ks k1 HMA.out HMU.out k3 k2 (by omega) (by omega) (by omega) (by omega) (by omega) (by omega))
        clear k1 k2 k3 kb ks
        refine rq 9 rfl fun K hK => ?_
        go_simp
        try go_wp2_with fail
        refine hK.out _ _ (trivial) (fun hHeld => ?_)
        clear hK K
        try simp only [aP]
        refine dq ?_
        go_wp2_with fail
        go_meet
        case rel => exact ⟨_, _, _, rfl, ⟨_, HWM.out.1, HWM.out.2.1⟩, HB0.out.trans (HWM.out.2.2.mono HB0.out.size)⟩
    · go_simp
      try go_wp2_with fail
      refine hK.out _ _ (trivial) (fun hHeld => ?_)
      clear hK K
      try simp only [aP]
      refine wpAnyH_ready (rs := [2, 8]) (by kernel_rfl) (by simp) ?_
      refine cq rfl (fun K hK => ?_) (cq rfl (fun K hK => ?_) AllReadyH.nil)
      · go_simp
        try go_wp2_with fail
        refine hK.out _ _ (trivial) (fun hHeld => ?_)
        clear hK K
        try simp only [aP]
        refine uq (i := 7) rfl ?_
        try simp only [aP]
        refine wpAnyH_ready (rs := [8]) (by kernel_rfl) (by simp) ?_
        refine cq rfl (fun K hK => ?_) AllReadyH.nil
        go_simp
        try go_wp2_with fail
        refine hK.out _ _ (trivial) (fun hHeld => ?_)
        clear hK K
        try simp only [aP]
        obtain ⟨k1, k2, k3, kb, ks⟩ := three_new wd (.cells MU 41) (.cells MA 41) (.cells #[.slice (some ⟨wd.heap.size + 1, 0, none⟩) n n, .slice (some ⟨wd.heap.size, 0, none⟩) (n + 1) (n + 1)] 46)
        have HWM := Lib.hid (web_made (w0 := w) (us := us) (n := n) hwl HW1.out kb ks k2 HMA.out HMU.out k1 k3 (by omega) (by omega) (by omega) (by omega) (by omega) (by omega))
        clear k1 k2 k3 kb ks
        refine rq 9 rfl fun K hK => ?_
        go_simp
        try go_wp2_with fail
        refine hK.out _ _ (trivial) (fun hHeld => ?_)
        clear hK K
        try simp only [aP]
        refine dq ?_
        go_wp2_with fail
        go_meet
        case rel => exact ⟨_, _, _, rfl, ⟨_, HWM.out.1, HWM.out.2.1⟩, HB0.out.trans (HWM.out.2.2.mono HB0.out.size)⟩
      · go_simp
        try go_wp2_with fail
        refine hK.out _ _ (trivial) (fun hHeld => ?_)
        clear hK K
        try simp only [aP]
        refine wpAnyH_ready (rs := [2]) (by kernel_rfl) (by simp) ?_
        refine cq rfl (fun K hK => ?_) AllReadyH.nil
        go_simp
        try go_wp2_with fail
        refine hK.out _ _ (trivial) (fun hHeld => ?_)
        clear hK K
        try simp only [aP]
        refine uq (i := 7) rfl ?_
        try simp only [aP]
        obtain ⟨k1, k2, k3, kb, ks⟩ := three_new wd (.cells MU 41) (.cells #[.slice (some ⟨wd.heap.size + 1 + 1, 0, none⟩) n n, .slice (some ⟨wd.heap.size, 0, none⟩) (n + 1) (n + 1)] 46) (.cells MA 41)
        have HWM := Lib.hid (web_made (w0 := w) (us := us) (n := n) hwl HW1.out kb ks k3 HMA.out HMU.out k1 k2 (by omega) (by omega) (by omega) (by omega) (by omega) (by omega))
        clear k1 k2 k3 kb ks
        refine rq 9 rfl fun K hK => ?_
        go_simp
        try go_wp2_with fail
        refine hK.out _ _ (trivial) (fun hHeld => ?_)
        clear hK K
        try simp only [aP]
        refine dq ?_
        go_wp2_with fail
        go_meet
        case rel => exact ⟨_, _, _, rfl, ⟨_, HWM.out.1, HWM.out.2.1⟩, HB0.out.trans (HWM.out.2.2.mono HB0.out.size)⟩
    · go_simp
      try go_wp2_with fail
      refine hK.out _ _ (trivial) (fun hHeld => ?_)
      clear hK K
      try simp only [aP]
      refine wpAnyH_ready (rs := [2, 6]) (by kernel_rfl) (by simp) ?_
      refine cq rfl (fun K hK => ?_) (cq rfl (fun K hK => ?_) AllReadyH.nil)
      · go_simp
        try go_wp2_with fail
        refine hK.out _ _ (trivial) (fun hHeld => ?_)
        clear hK K
        try simp only [aP]
        refine wpAnyH_ready (rs := [6]) (by kernel_rfl) (by simp) ?_
        refine cq rfl (fun K hK => ?_) AllReadyH.nil
        go_simp
        try go_wp2_with fail
        refine hK.out _ _ (trivial) (fun hHeld => ?_)
        clear hK K
        try simp only [aP]
        refine uq (i := 7) rfl ?_
        try simp only [aP]
        obtain ⟨k1, k2, k3, kb, ks⟩ := three_new wd (.cells #[.slice (some ⟨wd.heap.size + 1, 0, none⟩) n n, .slice (some ⟨wd.heap.size + 1 + 1, 0, none⟩) (n + 1) (n + 1)] 46) (.cells MA 41) (.cells MU 41)
        have HWM := Lib.hid (web_made (w0 := w) (us := us) (n := n) hwl HW1.out kb ks k2 HMA.out HMU.out k3 k1 (by omega) (by omega) (by omega) (by omega) (by omega) (by omega))
        clear k1 k2 k3 kb ks
        refine rq 9 rfl fun K hK => ?_
        go_simp
        try go_wp2_with fail
        refine hK.out _ _ (trivial) (fun hHeld => ?_)
        clear hK K
        try simp only [aP]
        refine dq ?_
        go_wp2_with fail
        go_meet
        case rel => exact ⟨_, _, _, rfl, ⟨_, HWM.out.1, HWM.out.2.1⟩, HB0.out.trans (HWM.out.2.2.mono HB0.out.size)⟩
      · go_simp
        try go_wp2_with fail
        refine hK.out _ _ (trivial) (fun hHeld => ?_)
        clear hK K
        try simp only [aP]
        refine wpAnyH_ready (rs := [2]) (by kernel_rfl) (by simp) ?_
        refine cq rfl (fun K hK => ?_) AllReadyH.nil
        go_simp
        try go_wp2_with fail
        refine hK.out _ _ (trivial) (fun hHeld => ?_)
        clear hK K
        try simp only [aP]
        refine uq (i := 7) rfl ?_
        try simp only [aP]
        obtain ⟨k1, k2, k3, kb, ks⟩ := three_new wd (.cells #[.slice (some ⟨wd.heap.size + 1 + 1, 0, none⟩) n n, .slice (some ⟨wd.heap.size + 1, 0, none⟩) (n + 1) (n + 1)] 46) (.cells MU 41) (.cells MA 41)
        have HWM := Lib.hid (web_made (w0 := w) (us := us) (n := n) hwl HW1.out kb ks k3 HMA.out HMU.out k2 k1 (by omega) (by omega) (by omega) (by omega) (by omega) (by omega))
        clear k1 k2 k3 kb ks
        refine rq 9 rfl fun K hK => ?_
        go_simp
        try go_wp2_with fail
        refine hK.out _ _ (trivial) (fun hHeld => ?_)
        clear hK K
        try simp only [aP]
        refine dq ?_
        go_wp2_with fail
        go_meet
        case rel => exact ⟨_, _, _, rfl, ⟨_, HWM.out.1, HWM.out.2.1⟩, HB0.out.trans (HWM.out.2.2.mono HB0.out.size)⟩
  case rest =>
  obtain ⟨A, U, X, rfl, ⟨Bs, hwr, hwb⟩, hbc⟩ := hcut
  have HWR := Lib.hid hwr
  rw [show fa.bhL us 0 = bhL us 0 by funext z; rw [fa.bhL_zero, bhL_zero]] at hwb
  have HWB := Lib.hid hwb
  have HBC := Lib.hid hbc
  obtain ⟨R4, hR4⟩ : ∃ R, w.heap.size = R := ⟨_, rfl⟩
  rw [hR4] at HWB HWR
  have HR4 : Hid (w.heap.size = R4) := hR4
  clear hwr hwb hbc hmk hmk2 HMA HMU HW1 hwl HB0 hwr1
  try rw [hR4]
  clear hR4
  go_wp2
  go_loopw [6, 7, 9, 20] (fun _ _ _ y wr => ∃ (i : Nat) (V : Nat → Value), i ≤ n ∧ y = .int .i64 (i : Int) ∧ Wb R4 A U X Bs n (bhL us i) V wr ∧ Ah us i Bs A n V wr ∧ Below w.heap.size w wr) (fun _ _ _ y _ => n - (intOf y).toNat)
  case atStart => exact ⟨0, _, Nat.zero_le _, rfl, HWB.out, Ah.zero _ _ _ _ _ _, HBC.out⟩
  case round =>
    obtain ⟨i, V, hi, rfl, hwb, hah, hbel⟩ := hrel
    have HAI := Lib.hid hah
    have HWI := Lib.hid hwb
    have HBE := Lib.hid hbel
    clear hwb hah
    by_cases hil : i < n
    · have hil' : (i : Int) < (n : Int) := by omega
      have hi0 : (0 : Int) ≤ (i : Int) := by omega
      obtain ⟨u, hu⟩ : ∃ u, us[i]? = some u := ⟨_, List.getElem?_eq_getElem (by rw [HN.out]; exact hil)⟩
      have HUU := Lib.hid hu
      obtain ⟨b, o', d1, e1, d2, e2, rfl, hc, hca⟩ := HIT.out i u hu
      obtain ⟨⟨q0, q1, q2, q3, q4⟩, _⟩ := hc wr hbel
      have hml : u.fNeeds.length ≤ 20 := HU.out.nds u (List.mem_of_getElem? hu)
      have HNB0 : Hid (∀ W, Below w.heap.size w W → Calls Try.prog 21 #[.slice (some ⟨b, o', none⟩) n c, .agg #[.string u.fName, .slice d1 u.fAfter.length e1, .slice d2 u.fNeeds.length e2, .string u.fExec, .bool u.fKeep]] W fun e w' => (∃ g o cap, e = .returned (.slice (some ⟨g, o, none⟩) (aw us u).length cap) ∧ fi.Ib W.heap.size w' g o cap (aw us u)) ∧ Below W.heap.size W w') := fun W h => HNE.out u d1 e1 d2 e2 W (List.mem_of_getElem? hu) h (hc W h).2 (hca W h)
      have HNL : Hid ((aw us u).length ≤ 40) := HU.out.len u (List.mem_of_getElem? hu)
      have HLE : Hid (∀ x ∈ aw us u, x ≤ n) := fun x hx => by rw [← HN.out]; exact aw_le hx
      obtain ⟨P, hP⟩ : ∃ P, u.fName = P := ⟨_, rfl⟩
      obtain ⟨ml, hmm⟩ : ∃ q, u.fNeeds.length = q := ⟨_, rfl⟩
      obtain ⟨al, hal⟩ : ∃ q, u.fAfter.length = q := ⟨_, rfl⟩
      obtain ⟨xe, hxe⟩ : ∃ q, u.fExec = q := ⟨_, rfl⟩
      obtain ⟨kp, hkp⟩ : ∃ q, u.fKeep = q := ⟨_, rfl⟩
      rw [hP] at q0
      rw [hal] at q1
      rw [hmm] at q2 hml
      rw [hxe] at q3
      rw [hkp] at q4
      rw [hP, hal, hmm, hxe, hkp] at HNB0
      obtain ⟨WA, hWA⟩ : ∃ WA, WA = wr.alloc (.cells #[.string P, .slice d1 al e1, .slice d2 ml e2, .string xe, .bool kp] 31) := ⟨_, rfl⟩
      have HAB : Hid (Below wr.heap.size wr WA) := by show Below _ _ _; rw [hWA]; exact (Below.refl _ _).alloc (Nat.le_refl _) _
      have HWA := Lib.hid (HWI.out.below HAB.out)
      have HS5 : Hid (∀ w', Below WA.heap.size WA w' → w'.cell? ⟨X, 0, none⟩ = some (.slice (some ⟨A, 0, none⟩) n n) ∧ w'.cell? ⟨wr.heap.size, 0, none⟩ = some (.string P) ∧ w'.cell? ⟨wr.heap.size, 1, none⟩ = some (.slice d1 al e1) ∧ w'.cell? ⟨wr.heap.size, 2, none⟩ = some (.slice d2 ml e2) ∧ w'.cell? ⟨wr.heap.size, 3, none⟩ = some (.string xe) ∧ w'.cell? ⟨wr.heap.size, 4, none⟩ = some (.bool kp)) := fun W h => by
        have k := fun j => h.cell (p := ⟨wr.heap.size, j, none⟩) (by show wr.heap.size < _; rw [hWA]; simp)
        refine ⟨(HWA.out.below h).rX.cell (i := 0) (by omega), ?_⟩
        rw [k 0, k 1, k 2, k 3, k 4, hWA]
        exact ⟨by simp [go_sem], by simp [go_sem], by simp [go_sem], by simp [go_sem], by simp [go_sem]⟩
      have HD5 : Hid (Below WA.heap.size WA (wr.alloc (.cells #[.string P, .slice d1 al e1, .slice d2 ml e2, .string xe, .bool kp] 31)).drew) := by show Below _ _ _; rw [← hWA]; exact (Below.refl _ _).drew
      have HNB : Hid (∀ W, Below WA.heap.size WA W → Calls Try.prog 21 #[.slice (some ⟨b, o', none⟩) n c, .agg #[.string P, .slice d1 al e1, .slice d2 ml e2, .string xe, .bool kp]] W fun e w' => (∃ g o cap, e = .returned (.slice (some ⟨g, o, none⟩) (aw us u).length cap) ∧ fi.Ib W.heap.size w' g o cap (aw us u)) ∧ Below W.heap.size W w') := fun W h => HNB0.out W ((HBE.out.trans (HAB.out.mono HBE.out.size)).trans (h.mono (HBE.out.trans (HAB.out.mono HBE.out.size)).size))
      have hAw : wr.heap.size ≠ A := by have := HWI.out.rr; have := HWI.out.sz; omega
      have HAD5 := Lib.hid (HAI.out.below (by have := HWI.out.rr; have := HWI.out.sz; omega) HAB.out)
      clear hu hc hca hP hmm hal hxe hkp hWA hbel HNB0
      go_upto_region 5 with fail
      refine wp_region_held_drew (S := fun w' => w'.cell? ⟨X, 0, none⟩ = some (.slice (some ⟨A, 0, none⟩) n n) ∧ w'.cell? ⟨wr.heap.size, 0, none⟩ = some (.string P) ∧ w'.cell? ⟨wr.heap.size, 1, none⟩ = some (.slice d1 al e1) ∧ w'.cell? ⟨wr.heap.size, 2, none⟩ = some (.slice d2 ml e2) ∧ w'.cell? ⟨wr.heap.size, 3, none⟩ = some (.string xe) ∧ w'.cell? ⟨wr.heap.size, 4, none⟩ = some (.bool kp)) (by kernel_rfl) (HS5.out _ HD5.out) (fun hHeld => ?_)
      refine uq (i := 0) rfl ?_
      try simp only [aP]
      refine uq (i := 1) rfl ?_
      try simp only [aP]
      refine uq (i := 2) rfl ?_
      try simp only [aP]
      refine uq (i := 3) rfl ?_
      try simp only [aP]
      refine uq (i := 4) rfl ?_
      try simp only [aP]
      refine uq (i := 5) rfl ?_
      try simp only [aP]
      refine rq 6 rfl fun K hK => ?_
      go_simp
      (go_at_call 21; refine (HNB.out _ HD5.out).mono ?_; rintro e w2 ⟨⟨g, o, cap, rfl, hib2⟩, hl2⟩)
      try go_wp2_with fail
      have HD6 := Lib.hid (HD5.out.trans (hl2.mono HD5.out.size))
      refine hK.out _ _ (HS5.out _ HD6.out) (fun hHeld => ?_)
      clear hK K
      try simp only [aP]
      refine uq (i := 7) rfl ?_
      try simp only [aP]
      have HW2 := Lib.hid (HWA.out.below HD6.out)
      obtain ⟨fA, hfA⟩ := HW2.out.ra
      have a0 := hfA.cell (i := i) (by omega)
      have a1 := hfA.frozen i
      have HW3 := Lib.hid (HW2.out.ahead i (.slice (some ⟨g, o, none⟩) (aw us u).length cap))
      have HC3 : Hid ((w2.setCell ⟨A, i, none⟩ (.slice (some ⟨g, o, none⟩) (aw us u).length cap)).cell? ⟨A, i, none⟩ = some (.slice (some ⟨g, o, none⟩) (aw us u).length cap)) := by
        have := (hfA.set i (.slice (some ⟨g, o, none⟩) (aw us u).length cap)).cell (i := i) (by omega)
        rw [if_pos rfl] at this
        exact this
      have HGA : Hid (g ≠ A ∧ g ≠ X ∧ g ≠ U ∧ g ≠ R4 ∧ ∀ j, j < n + 1 → (V j).ownBlock ≠ some g) := HWA.out.fresh (Nat.le_trans HD5.out.size hib2.new)
      have HI3 : Hid (fi.Ib wr.heap.size (w2.setCell ⟨A, i, none⟩ (.slice (some ⟨g, o, none⟩) (aw us u).length cap)) g o cap (aw us u)) := (hib2.kept (by simp) (ty.blk_oth HGA.out.1)).mono (Nat.le_trans HAB.out.size HD5.out.size)
      have HB3 := Lib.hid ((HBE.out.trans (HAB.out.mono HBE.out.size)).trans (HD6.out.mono (HBE.out.trans (HAB.out.mono HBE.out.size)).size))
      have HB4 : Hid (Below w.heap.size w (w2.setCell ⟨A, i, none⟩ (.slice (some ⟨g, o, none⟩) (aw us u).length cap))) := HB3.out.setCell HWR.out.lA _
      have HAH3 : Hid (Ah us (i + 1) Bs A n V (w2.setCell ⟨A, i, none⟩ (.slice (some ⟨g, o, none⟩) (aw us u).length cap))) := (HAD5.out.below (by have := HWA.out.rr; have := HWA.out.sz; omega) HD6.out).add HUU.out HWR.out.bA HC3.out (HI3.out.mono HWI.out.sz) HGA.out.2.2.2.2
      clear hHeld hfA hib2 hl2 HAD5
      refine rq 8 rfl fun K hK => ?_
      go_simp
      try go_wp2_with fail
      refine hK.out _ _ (by
        have k := HS5.out _ HD6.out
        refine ⟨?_, ?_, ?_, ?_, ?_, ?_⟩
        · exact (World.cell?_of_block (a := ⟨X, 0, none⟩) (ty.blk_oth HWR.out.xA)).trans k.1
        · exact (World.cell?_of_block (a := ⟨wr.heap.size, 0, none⟩) (ty.blk_oth hAw)).trans k.2.1
        · exact (World.cell?_of_block (a := ⟨wr.heap.size, 1, none⟩) (ty.blk_oth hAw)).trans k.2.2.1
        · exact (World.cell?_of_block (a := ⟨wr.heap.size, 2, none⟩) (ty.blk_oth hAw)).trans k.2.2.2.1
        · exact (World.cell?_of_block (a := ⟨wr.heap.size, 3, none⟩) (ty.blk_oth hAw)).trans k.2.2.2.2.1
        · exact (World.cell?_of_block (a := ⟨wr.heap.size, 4, none⟩) (ty.blk_oth hAw)).trans k.2.2.2.2.2) (fun hHeld => ?_)
      clear hK K
      try simp only [aP]
      refine dq ?_
      generalize hW3 : w2.setCell ⟨A, i, none⟩ (.slice (some ⟨g, o, none⟩) (aw us u).length cap) = w3 at *
      clear hW3 a0 a1 hHeld HS5 HD5 HD6 HB3 HNB
      have lX0 : w3.cell? ⟨X, 0, none⟩ = some (.slice (some ⟨A, 0, none⟩) n n) := HW3.out.rX.cell (i := 0) (by omega)
      have lA0 := HC3.out
      have HK3 : Hid (Wb R4 A U X Bs n (bhK us i (aw us u) 0) V w3) := by
        have e : bhK us i (aw us u) 0 = bhL us i := by funext z; exact bhK_zero us i _ z
        show Wb _ _ _ _ _ _ _ _ _
        rw [e]
        exact HW3.out
      have HLN : Hid ((aw us u).length ≤ 40) := HNL.out
      have hBw : Bs ≤ wr.heap.size := HWI.out.sz
      obtain ⟨ll, hll⟩ : ∃ q, (aw us u).length = q := ⟨_, rfl⟩
      have HLL : Hid ((aw us u).length = ll) := hll
      rw [hll] at lA0
      try rw [hll]
      have hll2 : ll ≤ 40 := by have h := HLN.out; rw [hll] at h; exact h
      clear hll HW3 HC3
      obtain ⟨wo, hwo⟩ : ∃ wo, wo = wr := ⟨_, rfl⟩
      rw [← hwo] at HI3 hBw
      clear hwo
      go_wp2
      go_loopw [9, 39] (fun _ y wx => ∃ (j : Nat) (V : Nat → Value), j ≤ ll ∧ y = .int .i64 (j : Int) ∧ Wb R4 A U X Bs n (bhK us i (aw us u) j) V wx ∧ Ah us (i + 1) Bs A n V wx ∧ (∀ k, k < n + 1 → (V k).ownBlock ≠ some g) ∧ fi.Ib wo.heap.size wx g o cap (aw us u) ∧ Below w.heap.size w wx) (fun _ y _ => ll - (intOf y).toNat)
      case atStart => exact ⟨0, V, Nat.zero_le _, rfl, HK3.out, HAH3.out, HGA.out.2.2.2.2, HI3.out, HB4.out⟩
      case round =>
        obtain ⟨j, V', hj, rfl, hwb, hah, hno, hib, hbel⟩ := hrel
        have HAJ := Lib.hid hah
        have HWJ := Lib.hid hwb
        have HNO := Lib.hid hno
        have HIJ := Lib.hid hib
        have HBJ := Lib.hid hbel
        clear hwb hah hno hib hbel
        by_cases hjl : j < ll
        · have hjl' : (j : Int) < (ll : Int) := by omega
          have hj0 : (0 : Int) ≤ (j : Int) := by omega
          obtain ⟨x, hx⟩ : ∃ x, (aw us u)[j]? = some x := ⟨_, List.getElem?_eq_getElem (by rw [HLL.out]; exact hjl)⟩
          have hxn : x ≤ n := HLE.out x (List.mem_of_getElem? hx)
          have cx : wr.cell? ⟨g, o + j, none⟩ = some (.int .i64 (x : Int)) := by
            have := HIJ.out.cells j (by rw [HLL.out]; exact hjl)
            rw [(List.getElem?_eq_some_iff.1 hx).2] at this
            exact this
          have HST : Hid (∀ z, z < n + 1 → (if z = x then bhK us i (aw us u) j x ++ [i] else bhK us i (aw us u) j z) = bhK us i (aw us u) (j + 1) z) := fun z _ => bhK_step hx z
          have HKL : Hid ((bhK us i (aw us u) j x).length ≤ 2000000) := by show _ ≤ _; have := bhK_len HU.out (us := us) (i := i) (j := j) (x := x) HLN.out; omega
          have hxi : (x : Int) < (n : Int) + 1 := by omega
          have hxi2 : (x : Int) < ((n + 1 : Nat) : Int) := by omega
          have hx0 : (0 : Int) ≤ (x : Int) := by omega
          have HDr : Hid (Below wr.heap.size wr wr.drew) := (Below.refl _ _).drew
          have HWd := Lib.hid (HWJ.out.below HDr.out)
          have HId := Lib.hid (HIJ.out.below HDr.out)
          have HAHd := Lib.hid (HAJ.out.below (by have := HWJ.out.rr; have := HWJ.out.sz; omega) HDr.out)
          have HBd := Lib.hid (HBJ.out.trans (HDr.out.mono HBJ.out.size))
          have HXd : Hid (wr.drew.cell? ⟨X, 1, none⟩ = some (.slice (some ⟨U, 0, none⟩) (n + 1) (n + 1))) := HWd.out.rX.cell (i := 1) (by omega)
          clear hx HWJ HIJ HBJ HDr HAJ
          go_upto_region 9 with fail
          refine wp_region_held_drew (S := fun w' => w'.cell? ⟨X, 1, none⟩ = some (.slice (some ⟨U, 0, none⟩) (n + 1) (n + 1))) (by kernel_rfl) HXd.out (fun hHeld => ?_)
          obtain ⟨wd, hwd⟩ : ∃ z, wr.drew = z := ⟨_, rfl⟩
          rw [hwd] at HWd HId HBd HXd HAHd hHeld
          rw [hwd]
          clear hwd
          have HAd : Hid (Below wd.heap.size wd (wd.alloc (.cells #[.int .i64 (i : Int)] 3))) := (Below.refl _ _).alloc (Nat.le_refl _) _
          have l7 : wd.cell? ⟨U, x, none⟩ = some (V' x) := HWd.out.bh.row.cell (i := x) (by omega)
          have HWa := Lib.hid (HWd.out.below HAd.out)
          have l7a : (wd.alloc (.cells #[.int .i64 (i : Int)] 3)).cell? ⟨U, x, none⟩ = some (V' x) := HWa.out.bh.row.cell (i := x) (by omega)
          have HXa : Hid ((wd.alloc (.cells #[.int .i64 (i : Int)] 3)).cell? ⟨X, 1, none⟩ = some (.slice (some ⟨U, 0, none⟩) (n + 1) (n + 1))) := HWa.out.rX.cell (i := 1) (by omega)
          have hRR := HWR.out
          obtain ⟨_, W6, hap, ⟨a6, l6, c6, rfl⟩, hrow6, ⟨V6, hV6, hG6⟩, hb6, hi6⟩ := HWa.out.bh.grow hRR.bU (at' := x) (by omega) (x := i) (ad := ⟨wd.heap.size, 0, none⟩) (by rw [World.cell?_alloc_new]; rfl) HWa.out.sz HKL.out
          have c7 : W6.cell? ⟨U, x, none⟩ = some (V' x) := hrow6.cell (i := x) (by omega)
          have q7 : W6.frozen? ⟨U, x, none⟩ = false := hrow6.frozen _
          have noX : ∀ {I}, I < Bs → ∀ j, j < n + 1 → (V' j).ownBlock ≠ some I := fun {I} hI j hj e => by have := ((HWa.out.bh.own j hj).lt I e).1; omega
          have hXa := HWa.out.rX.lt
          have c7x : W6.cell? ⟨X, 1, none⟩ = some (.slice (some ⟨U, 0, none⟩) (n + 1) (n + 1)) := (World.cell?_of_block (a := ⟨X, 1, none⟩) (hi6 X hXa (noX hRR.bX))).trans HXa.out
          have HX6 : Hid ((W6.setCell ⟨U, x, none⟩ (.slice a6 l6 c6)).cell? ⟨X, 1, none⟩ = some (.slice (some ⟨U, 0, none⟩) (n + 1) (n + 1))) := (World.cell?_of_block (a := ⟨X, 1, none⟩) (ty.blk_oth hRR.xU)).trans c7x
          have hb6' := hb6 w.heap.size hRR.lU (Nat.le_trans HBd.out.size HAd.out.size)
          have hs6 := (hb6 0 (Nat.zero_le _) (Nat.zero_le _)).size
          have hk6 : ∀ I, I < (wd.alloc (.cells #[.int .i64 (i : Int)] 3)).heap.size → I ≠ U → (∀ j, j < n + 1 → (V' j).ownBlock ≠ some I) → (W6.setCell ⟨U, x, none⟩ (.slice a6 l6 c6)).heap[I]? = (wd.alloc (.cells #[.int .i64 (i : Int)] 3)).heap[I]? := fun I h1 h2 h3 => (ty.blk_oth h2).trans (hi6 I h1 h3)
          have HW6 : Hid (Wb R4 A U X Bs n (bhK us i (aw us u) (j + 1)) V6 (W6.setCell ⟨U, x, none⟩ (.slice a6 l6 c6))) := HWa.out.grown hRR.U4 hRR.xU (hV6.congr HST.out) hk6 hs6
          have hIa := HId.out.below HAd.out
          have HAH6 : Hid (Ah us (i + 1) Bs A n V6 (W6.setCell ⟨U, x, none⟩ (.slice a6 l6 c6))) := (HAHd.out.below (by have := HWd.out.rr; have := HWd.out.sz; omega) HAd.out).kept hs6 (hk6 A (by have := HWa.out.rr; have := HWa.out.sz; omega) hRR.AU (noX hRR.bA)) fun q hq hql hqn => ⟨hk6 q hql (by have := hRR.bU; omega) hqn, hG6 q hql hqn⟩
          have HC6 : Hid (∀ k, k < n + 1 → (V6 k).ownBlock ≠ some g) := hG6 g hIa.lt HNO.out
          have HI6 : Hid (fi.Ib wo.heap.size (W6.setCell ⟨U, x, none⟩ (.slice a6 l6 c6)) g o cap (aw us u)) := hIa.kept hs6 (hk6 g hIa.lt (by have := hIa.new; have := hRR.bU; omega) HNO.out)
          have HB6 : Hid (Below w.heap.size w (W6.setCell ⟨U, x, none⟩ (.slice a6 l6 c6))) := (HBd.out.trans (HAd.out.mono HBd.out.size)).trans hb6'
          clear hRR hrow6 hV6 hG6 hb6 hi6 noX hXa hb6' hs6 hk6 hIa HWa HST
          refine uq (i := 0) rfl ?_
          try simp only [aP]
          refine uq (i := 1) rfl ?_
          try simp only [aP]
          refine uq (i := 2) rfl ?_
          try simp only [aP]
          refine uq (i := 3) rfl ?_
          try simp only [aP]
          refine uq (i := 4) rfl ?_
          try simp only [aP]
          refine uq (i := 5) rfl ?_
          try simp only [aP]
          refine uq (i := 6) rfl ?_
          try simp only [aP]
          refine uq (i := 8) rfl ?_
          try simp only [aP]
          refine wpAnyH_ready (rs := [7, 9]) (by kernel_rfl) (by simp) ?_
          refine cq rfl (fun K hK => ?_) (cq rfl (fun K hK => ?_) AllReadyH.nil)
          · go_simp
            try go_wp2_with fail
            refine hK.out _ _ (HXd.out) (fun hHeld => ?_)
            clear hK K
            try simp only [aP]
            refine wpAnyH_ready (rs := [9]) (by kernel_rfl) (by simp) ?_
            refine cq rfl (fun K hK => ?_) AllReadyH.nil
            go_simp
            try go_wp2_with fail
            refine hK.out _ _ (HXa.out) (fun hHeld => ?_)
            clear hK K
            try simp only [aP]
            refine rq 10 rfl fun K hK => ?_
            refine fi.wp_appI _ _ rfl rfl rfl rfl hap ?_
            refine hK.out _ _ c7x (fun hHeld => ?_)
            clear hK K
            try simp only [aP]
            refine uq (i := 11) rfl ?_
            try simp only [aP]
            refine rq 12 rfl fun K hK => ?_
            go_simp
            try go_wp2_with fail
            refine hK.out _ _ HX6.out (fun hHeld => ?_)
            clear hK K
            try simp only [aP]
            refine dq ?_
            go_wp2
            go_roundw
            case rel => exact ⟨j + 1, V6, by omega, by go_num, HW6.out, HAH6.out, HC6.out, HI6.out, HB6.out⟩
            case measure => simp [intOf]; omega
          · go_simp
            try go_wp2_with fail
            refine hK.out _ _ (HXa.out) (fun hHeld => ?_)
            clear hK K
            try simp only [aP]
            refine wpAnyH_ready (rs := [7]) (by kernel_rfl) (by simp) ?_
            refine cq rfl (fun K hK => ?_) AllReadyH.nil
            go_simp
            try go_wp2_with fail
            refine hK.out _ _ (HXa.out) (fun hHeld => ?_)
            clear hK K
            try simp only [aP]
            refine rq 10 rfl fun K hK => ?_
            refine fi.wp_appI _ _ rfl rfl rfl rfl hap ?_
            refine hK.out _ _ c7x (fun hHeld => ?_)
            clear hK K
            try simp only [aP]
            refine uq (i := 11) rfl ?_
            try simp only [aP]
            refine rq 12 rfl fun K hK => ?_
            go_simp
            try go_wp2_with fail
            refine hK.out _ _ HX6.out (fun hHeld => ?_)
            clear hK K
            try simp only [aP]
            refine dq ?_
            go_wp2
            go_roundw
            case rel => exact ⟨j + 1, V6, by omega, by go_num, HW6.out, HAH6.out, HC6.out, HI6.out, HB6.out⟩
            case measure => simp [intOf]; omega
        · have hjl' : ¬ (j : Int) < (ll : Int) := by omega
          obtain rfl : j = ll := by omega
          have HWN : Hid (Wb R4 A U X Bs n (bhL us (i + 1)) V' wr) := ⟨HWJ.out.r4, HWJ.out.rX, HWJ.out.ra, HWJ.out.bh.congr fun z _ => by rw [← HLL.out]; exact bhK_all HUU.out z, HWJ.out.sz, HWJ.out.rr⟩
          go_wp2
          go_roundw
          case rel => exact ⟨i + 1, V', by omega, by go_num, HWN.out, HAJ.out, HBJ.out⟩
          case measure => simp [intOf]; omega
    · have hil' : ¬ (i : Int) < (n : Int) := by omega
      obtain rfl : i = n := by omega
      have x0 : wr.cell? ⟨X, 0, none⟩ = some (.slice (some ⟨A, 0, none⟩) i i) := HWI.out.rX.cell (i := 0) (by omega)
      have x1 : wr.cell? ⟨X, 1, none⟩ = some (.slice (some ⟨U, 0, none⟩) (i + 1) (i + 1)) := HWI.out.rX.cell (i := 1) (by omega)
      have y0 := HWI.out.r4.cell (i := 0) (by omega)
      have y1 := HWI.out.r4.cell (i := 1) (by omega)
      have z0 := HWI.out.r4.frozen 0
      have z1 := HWI.out.r4.frozen 1
      have HE := Lib.hid HWI.out.bh
      have hR := HWR.out
      have HF : Hid (BhV Bs U (i + 1) (bhL us i) V ((wr.setCell ⟨R4, 0, none⟩ (.slice (some ⟨A, 0, none⟩) i i)).setCell ⟨R4, 1, none⟩ (.slice (some ⟨U, 0, none⟩) (i + 1) (i + 1)))) := (HE.out.store (Ne.symm hR.U4) hR.b4 0 _).store (Ne.symm hR.U4) hR.b4 1 _
      have HG4 := Lib.hid ((HWI.out.r4.set 0 (.slice (some ⟨A, 0, none⟩) i i)).set 1 (.slice (some ⟨U, 0, none⟩) (i + 1) (i + 1)))
      have k0 : ((wr.setCell ⟨R4, 0, none⟩ (.slice (some ⟨A, 0, none⟩) i i)).setCell ⟨R4, 1, none⟩ (.slice (some ⟨U, 0, none⟩) (i + 1) (i + 1))).cell? ⟨R4, 0, none⟩ = some (.slice (some ⟨A, 0, none⟩) i i) := (HG4.out.cell (i := 0) (by omega)).trans (by simp)
      have k1 : ((wr.setCell ⟨R4, 0, none⟩ (.slice (some ⟨A, 0, none⟩) i i)).setCell ⟨R4, 1, none⟩ (.slice (some ⟨U, 0, none⟩) (i + 1) (i + 1))).cell? ⟨R4, 1, none⟩ = some (.slice (some ⟨U, 0, none⟩) (i + 1) (i + 1)) := (HG4.out.cell (i := 1) (by omega)).trans (by simp)
      have HBF : Hid (Below w.heap.size w ((wr.setCell ⟨R4, 0, none⟩ (.slice (some ⟨A, 0, none⟩) i i)).setCell ⟨R4, 1, none⟩ (.slice (some ⟨U, 0, none⟩) (i + 1) (i + 1)))) := (HBE.out.setCell hR.l4 _).setCell hR.l4 _
      have hsz : Bs ≤ ((wr.setCell ⟨R4, 0, none⟩ (.slice (some ⟨A, 0, none⟩) i i)).setCell ⟨R4, 1, none⟩ (.slice (some ⟨U, 0, none⟩) (i + 1) (i + 1))).heap.size := by have := HWI.out.sz; simpa using this
      have HAF : Hid (Ah us i Bs A i V ((wr.setCell ⟨R4, 0, none⟩ (.slice (some ⟨A, 0, none⟩) i i)).setCell ⟨R4, 1, none⟩ (.slice (some ⟨U, 0, none⟩) (i + 1) (i + 1)))) := HAI.out.kept (by simp) ((ty.blk_oth hR.A4).trans (ty.blk_oth hR.A4)) fun g hg _ hn => ⟨(ty.blk_oth (by have := hR.b4; omega)).trans (ty.blk_oth (by have := hR.b4; omega)), hn⟩
      have HAP : Hid (w.heap.size ≤ A ∧ A < Bs ∧ A ≠ U) := ⟨hR.lA, hR.bA, hR.AU⟩
      have HFIN := Lib.hid (And.intro (And.intro hR.lU (And.intro hR.bU hsz)) (And.intro k0 k1))
      clear hbel hR k0 k1 hsz HG4
      go_wp2
      exact retWeb (fn := Try.f20) Try.results20 rfl HFIN.out.2.1 HFIN.out.2.2 ⟨⟨A, U, Bs, V, rfl, HF.out, HFIN.out.1, HAF.out, HAP.out⟩, HBF.out⟩

end Go.Proofs.Ytajpfidgepebgaa.fw

namespace Go.Proofs.Ytajpfidgepebgaa.hp
open Go.ChangeShapes Go.WideShapes Go.ChangeAt Go.RowKit Go.Deep Go.Maps
open Go.Conc (scase rcase)
set_option linter.unusedVariables false
set_option linter.unusedSimpArgs false

/-! ### Units that are let stand: in memory -/

def Fs (A U L C n : Nat) : Nat → Value
  | 0 => .slice (some ⟨A, 0, none⟩) n n
  | 1 => .slice (some ⟨U, 0, none⟩) (n + 1) (n + 1)
  | 2 => .slice (some ⟨L, 0, none⟩) n n
  | 3 => .chan (some C)
  | _ => .bool false
def upd (f : Nat → Nat) (i x : Nat) : Nat → Nat := fun j => if j = i then x else f j

structure Sg (M S A U L C n : Nat) (f : Nat → Nat) (buf hp : List Nat) (v : Value) (w : World) : Prop where
  ho : Ho M S (Fs A U L C n) v hp w
  lk : w.rowIs L 3 n fun i => .int .i64 (f i : Int)
  ch : ∃ s r, w.heap[C]? = some (.chan n (fi.nV buf).toArray false s r false)
  lL : L < M
  lC : C < M
  dSL : S ≠ L
  dSC : S ≠ C
  dLC : L ≠ C
theorem Ho.oth {M S : Nat} {F : Nat → Value} {v : Value} {l : List Nat} {w w' : World} (h : Ho M S F v l w) (hs : w.heap.size ≤ w'.heap.size) (e : w'.heap[S]? = w.heap[S]?) (he : ∀ g, M ≤ g → g < w.heap.size → w'.heap[g]? = w.heap[g]?) : Ho M S F v l w' :=
  ⟨h.row.of_block e, h.hv.kept fun g h1 h2 _ => he g h1 h2, h.lt, Nat.le_trans h.le hs⟩
theorem Sg.store {M S A U L C n : Nat} {f : Nat → Nat} {buf hp : List Nat} {v : Value} {w : World} (h : Sg M S A U L C n f buf hp v w) (i x : Nat) : Sg M S A U L C n (upd f i x) buf hp v (w.setCell ⟨L, i, none⟩ (.int .i64 (x : Int))) :=
  ⟨h.ho.oth (by simp) (ty.blk_oth h.dSL) fun g hg _ => ty.blk_oth (by have := h.lL; omega), (h.lk.set i _).congr fun j hj => by
    unfold upd
    by_cases e : j = i
    · simp only [if_pos e]
    · simp only [if_neg e], by obtain ⟨s, r, e⟩ := h.ch; exact ⟨s, r, (ty.blk_oth (Ne.symm h.dLC)).trans e⟩, h.lL, h.lC, h.dSL, h.dSC, h.dLC⟩
theorem blk_chan {w : World} {C k : Nat} (h : k ≠ C) (cap : Nat) (b : Array Value) (cl : Bool) (s r : Nat) (tm : Bool) : (w.setChan C cap b cl s r tm).heap[k]? = w.heap[k]? := by
  simp only [World.setChan]
  exact Array.getElem?_setIfInBounds_ne (Ne.symm h)
theorem Sg.chan {M S A U L C n : Nat} {f : Nat → Nat} {buf hp : List Nat} {v : Value} {w : World} (h : Sg M S A U L C n f buf hp v w) (buf' : List Nat) (s r : Nat) : Sg M S A U L C n f buf' hp v (w.setChan C n (fi.nV buf').toArray false s r false) :=
  ⟨h.ho.oth (by rw [Go.Conc.size_setChan]; exact Nat.le_refl _) (blk_chan h.dSC _ _ _ _ _ _) fun g hg _ => blk_chan (by have := h.lC; omega) _ _ _ _ _ _, h.lk.of_block (blk_chan h.dLC _ _ _ _ _ _),
    ⟨s, r, Go.Conc.heap_setChan _ _ _ _ _ _ _ _ (by obtain ⟨s, r, e⟩ := h.ch; exact (Array.getElem?_eq_some_iff.1 e).1)⟩, h.lL, h.lC, h.dSL, h.dSC, h.dLC⟩
theorem Oth.chan {X : Nat → Prop} {a b : World} (h : Oth X a b) {C : Nat} (hx : X C) (cap : Nat) (bf : Array Value) (cl : Bool) (s r : Nat) (tm : Bool) : Oth X a (b.setChan C cap bf cl s r tm) :=
  ⟨h.os, h.tape, h.output, by rw [Go.Conc.size_setChan]; exact h.size, fun k hk hn => (blk_chan (fun e => hn (by rw [e]; exact hx)) _ _ _ _ _ _).trans (h.block k hk hn)⟩

set_option maxRecDepth 100000 in
set_option maxHeartbeats 4000000 in
theorem lack_any {M S A U L C n : Nat} {f : Nat → Nat} {buf hp : List Nat} {v : Value} (w : World) (h : Sg M S A U L C n f buf hp v w) (i : Nat) (d : Int) (x : Nat) (hi : i < n) (hn : n ≤ 1000) (hx : (f i : Int) + d = (x : Int)) (hx6 : x ≤ 1000000) (hroom : x = 0 → buf.length < n) :
    Calls Try.prog 58 #[.pointer (some ⟨S, 0, none⟩), .int .i64 (i : Int), .int .i64 d] w fun e w' => e = .returned (.tuple #[]) ∧ Sg M S A U L C n (upd f i x) (if x = 0 then buf ++ [i] else buf) hp v w' ∧ Oth (fun k => k = L ∨ k = C) w w' := by
  have c2 : w.cell? ⟨S, 2, none⟩ = some (.slice (some ⟨L, 0, none⟩) n n) := h.ho.row.cell (i := 2) (by decide)
  have cl : w.cell? ⟨L, i, none⟩ = some (.int .i64 (f i : Int)) := h.lk.cell hi
  have fl := h.lk.frozen i
  have hS := h.store i x
  obtain ⟨W1, hW1⟩ : ∃ W, W = w.setCell ⟨L, i, none⟩ (.int .i64 (x : Int)) := ⟨_, rfl⟩
  rw [← hW1] at hS
  have HO1 : Hid (Oth (fun k => k = L ∨ k = C) w W1) := by show Oth _ _ _; rw [hW1]; exact (Oth.refl _ _).set (X := fun k => k = L ∨ k = C) (.inl rfl) _
  have d2 : W1.cell? ⟨S, 2, none⟩ = some (.slice (some ⟨L, 0, none⟩) n n) := hS.ho.row.cell (i := 2) (by decide)
  have d3 : W1.cell? ⟨S, 3, none⟩ = some (.chan (some C)) := hS.ho.row.cell (i := 3) (by decide)
  have dl : W1.cell? ⟨L, i, none⟩ = some (.int .i64 (x : Int)) := by have := hS.lk.cell hi; simpa [upd] using this
  have HS := Lib.hid hS
  have HW1 := Lib.hid hW1
  have hwx : IntKind.i64.wrap ((f i : Int) + d) = (x : Int) := by rw [hx, IntKind.wrap_i64]; omega
  have hi0 : (0 : Int) ≤ (i : Int) := by omega
  have hi' : (i : Int) < (n : Int) := by omega
  have HRM := Lib.hid hroom
  obtain ⟨bf, hbf⟩ : ∃ b, (if x = 0 then buf ++ [i] else buf) = b := ⟨_, rfl⟩
  rw [hbf]
  have HBF := Lib.hid hbf
  clear h hS hW1 hx hroom hbf
  refine cn.calls_of_wpN Try.func58 rfl ?_
  simp only [Try.ntmps58, List.size_toArray, List.length_cons, List.length_nil, Nat.reduceAdd, Nat.reduceSub, Array.replicate_succ,
     Array.replicate_zero, List.push_toArray, List.append_toArray, List.nil_append, List.cons_append]
  apply cn.wpN_seq_k
  intro K hK
  go_wp2
  rw [← HW1.out]
  apply cn.wpN_seq_k
  intro K hK
  clear c2 cl fl
  by_cases hx0 : x = 0
  · subst hx0
    have HBE : Hid (bf = buf ++ [i]) := HBF.out.symm.trans (if_pos rfl)
    go_wp2
    refine cn.wpN_cond rfl ?_
    simp only [if_true]
    refine cn.wpN_region ?_
    have hch := HS.out.ch
    obtain ⟨s, r, hch⟩ := hch
    have hsz : (fi.nV buf).toArray.size < n := by rw [List.size_toArray, fi.nV_len]; exact HRM.out trivial
    refine cn.SN_val (.pointer (some ⟨S, 0, none⟩)) W1 rfl rfl (by go_simp) ?_
    refine cn.SN_val (.pointer (some ⟨S, 0, none⟩)) W1 rfl rfl (by go_simp) ?_
    refine cn.SN_val (.pointer (some ⟨S, 3, none⟩)) W1 rfl rfl (by go_simp) ?_
    refine cn.SN_val (.chan (some C)) W1 rfl rfl (by go_simp) ?_
    refine cn.SN_val (.int .i64 (i : Int)) W1 rfl rfl (by go_simp) ?_
    refine cn.SN_send (c := C) (v := .int .i64 (i : Int)) (z' := .tuple #[]) rfl rfl (by go_simp; rfl) hch hsz ?_
    refine cn.SN_nil ?_
    have hpu : (fi.nV buf).toArray.push (.int .i64 (i : Int)) = (fi.nV (buf ++ [i])).toArray := by simp [fi.nV]
    rw [hpu]
    refine bodyPost_end (results_none rfl _ _ _) rfl ?_
    rw [HBE.out]
    exact ⟨rfl, HS.out.chan (buf ++ [i]) (s + 1) r, HO1.out.chan (X := fun k => k = L ∨ k = C) (.inr rfl) _ _ _ _ _ _⟩
  · have hx0' : ¬ (x : Int) = 0 := by omega
    have HBE : Hid (bf = buf) := HBF.out.symm.trans (if_neg hx0)
    go_wp2
    refine cn.wpN_cond (t := false) (by simp [Act.eval, hx0]) ?_
    simp only [if_false, Bool.false_eq_true]
    refine cn.wpN_skip ?_
    go_end0
    rw [HBE.out]
    exact ⟨rfl, HS.out, HO1.out⟩
end Go.Proofs.Ytajpfidgepebgaa.hp
