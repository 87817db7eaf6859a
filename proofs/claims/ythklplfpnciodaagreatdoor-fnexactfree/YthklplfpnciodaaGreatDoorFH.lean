import Derived.Test.YthklplfpnciodaaGreatDoorFG
namespace Go.Proofs.YthklplfpnciodaaGreatDoor.ex
open Go.ChangeShapes Go.WideShapes Go.ChangeAt Go.RowKit Go.Deep Go.Maps
set_option linter.unusedVariables false
set_option linter.unusedSimpArgs false

def txT (q : Tr) : List UInt8 := q.text.data.toList

/-- What a bind, an inherited name or a parameter is. -/
def BindV (t : ByteArray) (v : Value) : Prop :=
  (∃ T p, v = .iface 100 (.agg #[.string t, .iface T p])) ∨ v = .iface 65 (.agg #[.string t]) ∨ v = .iface 111 (.agg #[.string t, .nilIface]) ∨ ∃ T p, v = .iface 111 (.agg #[.string t, .iface T p])

theorem nd_bind {w : World} {O : Nat → Prop} {r : Nat} {v : Value} {q : Tr} (h : Nd w O r v q) (hk : q.kind = 6 ∨ q.kind = 7 ∨ q.kind = 15) : BindV q.text v := by
  cases r with
  | zero => exact h.elim
  | succ r =>
    obtain ⟨k, t, n, ps⟩ := q
    obtain ⟨_, vs, hl, hp, hv⟩ := h
    change k = 6 ∨ k = 7 ∨ k = 15 at hk
    have one : ∀ x, vs = [x] → ∃ T p, x = .iface T p := fun x e => by
      subst e
      have h1 : ps.length = 1 := by simpa using hl.symm
      exact (hp 0 x ps[0] rfl (by simp)).iface
    rcases hk with rfl | rfl | rfl
    · cases hv with
      | bindN x => obtain ⟨T, p, rfl⟩ := one x rfl; exact .inl ⟨T, p, rfl⟩
    · cases hv with
      | inheritN => exact .inr (.inl rfl)
    · cases hv with
      | param0 => exact .inr (.inr (.inl rfl))
      | param1 x => obtain ⟨T, p, rfl⟩ := one x rfl; exact .inr (.inr (.inr ⟨T, p, rfl⟩))

theorem headB_any (t : ByteArray) (T : TypeId) (p : Value) (w : World) :
    Calls Tryz.prog 118 #[.agg #[.string t, .iface T p]] w fun e w' => e = .returned (.agg #[.int .i64 6, .string t, .int .i64 0, .int .i64 0]) ∧ Below w.heap.size w w' := by
  go_enter Tryz.func118, Tryz.ntmps118
  go_wp2
  go_returns
  exact ⟨rfl, two_bel _ _ _⟩

theorem headI_any (t : ByteArray) (w : World) :
    Calls Tryz.prog 111 #[.agg #[.string t]] w fun e w' => e = .returned (.agg #[.int .i64 7, .string t, .int .i64 0, .int .i64 0]) ∧ Below w.heap.size w w' := by
  go_enter Tryz.func111, Tryz.ntmps111
  go_wp2
  go_returns
  exact ⟨rfl, two_bel _ _ _⟩

theorem headP_any (t : ByteArray) (w : World) :
    Calls Tryz.prog 123 #[.agg #[.string t, .nilIface]] w fun e w' => e = .returned (.agg #[.int .i64 15, .string t, .int .i64 0, .int .i64 0]) ∧ Below w.heap.size w w' := by
  go_enter Tryz.func123, Tryz.ntmps123
  go_wp2
  go_returns
  exact ⟨rfl, two_bel _ _ _⟩

theorem headQ_any (t : ByteArray) (T : TypeId) (p : Value) (w : World) :
    Calls Tryz.prog 123 #[.agg #[.string t, .iface T p]] w fun e w' => e = .returned (.agg #[.int .i64 15, .string t, .int .i64 0, .int .i64 0]) ∧ Below w.heap.size w w' := by
  go_enter Tryz.func123, Tryz.ntmps123
  go_wp2
  go_returns
  exact ⟨rfl, two_bel _ _ _⟩

theorem fieldT (k : Int) (t : ByteArray) (w : World) : (Instr.field 38 (.agg #[.int .i64 k, .string t, .int .i64 0, .int .i64 0]) 1).run Tryz.prog w = .ok (.string t) w := by kernel_rfl

def txL (qs : List Tr) (i : Nat) : List (List UInt8) := (qs.take i).map txT
theorem txL_len {qs : List Tr} {i : Nat} (h : i ≤ qs.length) : (txL qs i).length = i := by simp [txL, h]
theorem txL_step {qs : List Tr} {i : Nat} (h : i < qs.length) : txL qs (i + 1) = txL qs i ++ [txT qs[i]] := by
  rw [txL, List.take_succ_eq_append_getElem h, List.map_append, txL]
  rfl

theorem kept_ne (v : Value) : v.ownBlock = none ∨ v.ownBlock ≠ none := by
  cases v.ownBlock with
  | none => exact .inl rfl
  | some b => exact .inr (by simp)

set_option maxRecDepth 100000 in
set_option maxHeartbeats 1000000 in
/-- The names of binds or params. -/
theorem texts_any {r : Nat} (qs : List Tr) (vs : List Value) (a : Option Addr) (cap : Nat) (w : World) (O : Nat → Prop) (hO : ∀ bb, O bb → bb < w.heap.size) (hP : PsO w O a vs) (hV : NdL w O r vs qs) (hK : ∀ q ∈ qs, q.kind = 6 ∨ q.kind = 7 ∨ q.kind = 15) (hlen : vs.length ≤ 1000000) (xs : List (List UInt8)) (HXS : Hid (qs.map txT = xs)) :
    Calls Tryz.prog 38 #[.slice a vs.length cap] w fun e w' => ∃ v, e = .returned v ∧ w'.ownsRow w.heap.size 9 1 v xs.length (xs.map strL) ∧ v ≠ .slice none 0 0 ∧ Below w.heap.size w w' := by
  obtain ⟨bb, off, ha, hc⟩ := hP
  have HV : Hid (NdL w O r vs qs) := hV
  have HLQ : Hid (vs.length = qs.length) := hV.1
  have HC : Hid (∀ i x, vs[i]? = some x → w.cell? ⟨bb, off + i, none⟩ = some x) := hc
  have ha' : vs.length = 0 ∨ a = some ⟨bb, off, none⟩ := ha.imp id (·.1)
  have HOB : Hid (0 < vs.length → bb < w.heap.size) := fun h => hO _ (ha.resolve_left (by omega)).2
  have HK : Hid (∀ q ∈ qs, q.kind = 6 ∨ q.kind = 7 ∨ q.kind = 15) := hK
  clear hV hc ha hK hO
  go_enter Tryz.func38, Tryz.ntmps38
  go_wp2
  go_loopw [3, 5, 9] (fun v _ x wr => ∃ (i : Nat), i ≤ vs.length ∧ x = .int .i64 (i : Int) ∧ wr.ownsRow w.heap.size 9 1 v (txL qs i).length ((txL qs i).map strL) ∧ v ≠ .slice none 0 0 ∧ Below w.heap.size w wr) (fun _ _ x _ => vs.length - (intOf x).toNat)
  case atStart => exact ⟨0, Nat.zero_le _, rfl, own_none w 9, not_nilS _ _ _, (Below.refl _ _).alloc (Nat.le_refl _) _⟩
  case round =>
    obtain ⟨i, hi, rfl, hown, hni, hbel⟩ := hrel
    have hszb := hbel.size
    have HNI : Hid (u3 ≠ .slice none 0 0) := hni
    clear hni
    by_cases h : i < vs.length
    · have h' : (i : Int) < (vs.length : Int) := by omega
      obtain rfl := ha'.resolve_left (by omega)
      have hiq : i < qs.length := by have := HLQ.out; omega
      have ci : wr.cell? ⟨bb, off + i, none⟩ = some vs[i] := (hbel.cell (p := ⟨bb, _, none⟩) (HOB.out (by omega))).trans (HC.out i _ (by simp))
      have hbv := nd_bind (HV.out.2 i vs[i] qs[i] (by simp) (by simp)).1 (HK.out _ (List.getElem_mem hiq))
      have HTX : Hid (txL qs (i + 1) = txL qs i ++ [qs[i].text.data.toList]) := txL_step hiq
      have hil : (txL qs i).length ≤ 999999 := by rw [txL_len (by omega)]; omega
      generalize vs[i] = y at ci hbv
      generalize qs[i].text = t at hbv HTX
      clear hiq
      have hfT := fun k w => fieldT k t w
      rcases hbv with ⟨T, p, rfl⟩ | rfl | rfl | ⟨T, p, rfl⟩
      · as_aux_lemma =>
          go_wp2_with (first
            | (go_at_call 118; refine (headB_any t T p _).mono ?_; rintro e w1 ⟨rfl, hb1⟩; have HOW : Hid ((w1.alloc (.cells #[.string t] 9)).ownsRow w.heap.size 9 1 u3 (txL qs i).length ((txL qs i).map strL)) := (hown.kept ⟨hb1.os, hb1.tape, hb1.output, hb1.size, fun j hj _ => hb1.block j hj⟩ (kept_ne _)).alloc _; have hbw : Below w.heap.size w (w1.alloc (.cells #[.string t] 9)) := (hbel.trans (hb1.mono hszb)).alloc (Nat.le_trans hszb hb1.size) _; clear hown)
            | (at_builtin; refine app_str _ rfl _ _ rfl w.heap.size u3 (txL qs i) rfl HOW.out HNI.out ⟨w1.heap.size, 0, none⟩ 1 1 [t.data.toList] rfl rfl (one_at w1 t) (by omega) hbw.size ?_)
            | go_in)
          intro v' w' hown' hni hg
          have hb' := below_grown hbw HOW.out hg hbw.size
          have HN' : Hid (v' ≠ .slice none 0 0) := hni
          clear hni HNI HOW hg hbw
          go_wp2
          go_roundw
          case rel => exact ⟨i + 1, by omega, by go_num, by rw [HTX.out]; simpa using hown', HN'.out, hb'⟩
          case measure => simp [intOf]; omega
      · as_aux_lemma =>
          go_wp2_with (first
            | (go_at_call 111; refine (headI_any t _).mono ?_; rintro e w1 ⟨rfl, hb1⟩; have HOW : Hid ((w1.alloc (.cells #[.string t] 9)).ownsRow w.heap.size 9 1 u3 (txL qs i).length ((txL qs i).map strL)) := (hown.kept ⟨hb1.os, hb1.tape, hb1.output, hb1.size, fun j hj _ => hb1.block j hj⟩ (kept_ne _)).alloc _; have hbw : Below w.heap.size w (w1.alloc (.cells #[.string t] 9)) := (hbel.trans (hb1.mono hszb)).alloc (Nat.le_trans hszb hb1.size) _; clear hown)
            | (at_builtin; refine app_str _ rfl _ _ rfl w.heap.size u3 (txL qs i) rfl HOW.out HNI.out ⟨w1.heap.size, 0, none⟩ 1 1 [t.data.toList] rfl rfl (one_at w1 t) (by omega) hbw.size ?_)
            | go_in)
          intro v' w' hown' hni hg
          have hb' := below_grown hbw HOW.out hg hbw.size
          have HN' : Hid (v' ≠ .slice none 0 0) := hni
          clear hni HNI HOW hg hbw
          go_wp2
          go_roundw
          case rel => exact ⟨i + 1, by omega, by go_num, by rw [HTX.out]; simpa using hown', HN'.out, hb'⟩
          case measure => simp [intOf]; omega
      · as_aux_lemma =>
          go_wp2_with (first
            | (go_at_call 123; refine (headP_any t _).mono ?_; rintro e w1 ⟨rfl, hb1⟩; have HOW : Hid ((w1.alloc (.cells #[.string t] 9)).ownsRow w.heap.size 9 1 u3 (txL qs i).length ((txL qs i).map strL)) := (hown.kept ⟨hb1.os, hb1.tape, hb1.output, hb1.size, fun j hj _ => hb1.block j hj⟩ (kept_ne _)).alloc _; have hbw : Below w.heap.size w (w1.alloc (.cells #[.string t] 9)) := (hbel.trans (hb1.mono hszb)).alloc (Nat.le_trans hszb hb1.size) _; clear hown)
            | (at_builtin; refine app_str _ rfl _ _ rfl w.heap.size u3 (txL qs i) rfl HOW.out HNI.out ⟨w1.heap.size, 0, none⟩ 1 1 [t.data.toList] rfl rfl (one_at w1 t) (by omega) hbw.size ?_)
            | go_in)
          intro v' w' hown' hni hg
          have hb' := below_grown hbw HOW.out hg hbw.size
          have HN' : Hid (v' ≠ .slice none 0 0) := hni
          clear hni HNI HOW hg hbw
          go_wp2
          go_roundw
          case rel => exact ⟨i + 1, by omega, by go_num, by rw [HTX.out]; simpa using hown', HN'.out, hb'⟩
          case measure => simp [intOf]; omega
      · as_aux_lemma =>
          go_wp2_with (first
            | (go_at_call 123; refine (headQ_any t T p _).mono ?_; rintro e w1 ⟨rfl, hb1⟩; have HOW : Hid ((w1.alloc (.cells #[.string t] 9)).ownsRow w.heap.size 9 1 u3 (txL qs i).length ((txL qs i).map strL)) := (hown.kept ⟨hb1.os, hb1.tape, hb1.output, hb1.size, fun j hj _ => hb1.block j hj⟩ (kept_ne _)).alloc _; have hbw : Below w.heap.size w (w1.alloc (.cells #[.string t] 9)) := (hbel.trans (hb1.mono hszb)).alloc (Nat.le_trans hszb hb1.size) _; clear hown)
            | (at_builtin; refine app_str _ rfl _ _ rfl w.heap.size u3 (txL qs i) rfl HOW.out HNI.out ⟨w1.heap.size, 0, none⟩ 1 1 [t.data.toList] rfl rfl (one_at w1 t) (by omega) hbw.size ?_)
            | go_in)
          intro v' w' hown' hni hg
          have hb' := below_grown hbw HOW.out hg hbw.size
          have HN' : Hid (v' ≠ .slice none 0 0) := hni
          clear hni HNI HOW hg hbw
          go_wp2
          go_roundw
          case rel => exact ⟨i + 1, by omega, by go_num, by rw [HTX.out]; simpa using hown', HN'.out, hb'⟩
          case measure => simp [intOf]; omega
    · have h' : ¬ (i : Int) < (vs.length : Int) := by omega
      obtain rfl : i = vs.length := by omega
      rw [txL, HLQ.out, List.take_length, HXS.out] at hown
      have HO2 : Hid (wr.ownsRow w.heap.size 9 1 u3 xs.length (xs.map strL)) := hown
      clear hown
      go_wp2
      go_ret
      exact ⟨_, rfl, HO2.out, HNI.out, hbel⟩

end Go.Proofs.YthklplfpnciodaaGreatDoor.ex
