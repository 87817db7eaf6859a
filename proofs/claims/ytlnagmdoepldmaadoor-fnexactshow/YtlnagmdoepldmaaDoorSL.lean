import Derived.Test.YtlnagmdoepldmaaDoorSK
import Derived.Test.YtlnagmdoepldmaaDoorSN
namespace Go.Proofs.YtlnagmdoepldmaaDoor.ex
open Go.ChangeShapes Go.WideShapes Go.ChangeAt Go.RowKit Go.Deep
set_option linter.unusedVariables false
set_option linter.unusedSimpArgs false

/-- What strconv.AppendInt does at base 10 (taken out of the shelf later). -/
def IntC (base : Nat) : Prop := ∀ (w : World) (v : Value) (l : List UInt8) (n : Int), w.ownsRow base 5 1 v l.length (byteCells l) → Rd base w → 0 ≤ n → n ≤ 9223372036854775807 → l.length + (numL n).length ≤ 70368744177664 →
  Calls Tryd.prog 28 #[v, .int .i64 n, .int .i64 10] w fun e w' => ∃ v', e = .returned v' ∧ App base w w' v' (l ++ numL n)

set_option maxRecDepth 100000 in
set_option maxHeartbeats 1000000 in
theorem sh1 {base r : Nat} {t : ByteArray} {n : Int} (hI : IntC base) (h0 : 0 ≤ n) (h1 : n ≤ 9223372036854775807) (w : World) (v : Value) (l : List UInt8) (hown : w.ownsRow base 5 1 v l.length (byteCells l)) (hb : Rd base w) (hlen : l.length + (txt (r + 1) (.mk 1 t n [])).length ≤ 70368744177664) :
    Calls Tryd.prog 14 #[v, .iface 51 (.agg #[.int .i64 n])] w fun e w' => ∃ v', e = .returned v' ∧ App base w w' v' (l ++ txt (r + 1) (.mk 1 t n [])) := by
  have htx : txt (r + 1) (.mk 1 t n []) = numL n := by simp [txt]
  rw [htx] at hlen ⊢
  clear htx
  have ha0 : App base w (w.alloc (.cells #[.int .i64 n] 51)) v l := App.alloc hb.le (App.refl (hown.alloc _))
  have hb0 := hb.app ha0
  have HC := hI _ v l n ha0.own hb0 h0 h1 hlen
  obtain ⟨F, hF⟩ : ∃ F, l ++ numL n = F := ⟨_, rfl⟩
  rw [hF] at HC ⊢
  have HC' : Hid (Calls Tryd.prog 28 #[v, .int .i64 n, .int .i64 10] (w.alloc (.cells #[.int .i64 n] 51)) fun e w' => ∃ v', e = .returned v' ∧ App base (w.alloc (.cells #[.int .i64 n] 51)) w' v' F) := HC
  clear HC hF hlen hI
  have a1 := as1_1 (.agg #[.int .i64 n])
  go_enter Tryd.func14, Tryd.ntmps14
  go_wp2_with (go_at_call 28; refine HC'.out.mono ?_; rintro e w1 ⟨v1, rfl, ha1⟩)
  go_ret
  exact ⟨_, rfl, ha0.trans ha1⟩

theorem intC (base : Nat) : IntC base := by
  intro w v l n hown hb h0 h1 hlen
  refine (appendInt_any base l.length n (by omega) h1 v (byteCells l) w hown hb.le (by omega) hb.tab).mono ?_
  rintro e w' ⟨v', rfl, ho, hbl, hk⟩
  refine ⟨v', rfl, ?_, hbl, fun k hk1 hk2 => ?_⟩
  · have e : byteCells l ++ Lib.byteCells (Lib.itoa n) = byteCells (l ++ numL n) := by rw [byteCells_append]; rfl
    rw [e] at ho
    rw [List.length_append]
    exact ho
  · rcases hk2 with hk2 | hk2
    · exact hbl.block k hk2
    · have e := hk k w.heap[k] (by simp [hk1]) (by simp) (fun c fz e => hk2 c fz (by simp [hk1, e]))
      rw [e]
      simp [hk1]

/-- Of which kind the part at a place must be. -/
def kidOk (k : Int) (m i : Nat) (y : Int) : Prop :=
  if k = 5 ∨ (k = 8 ∧ i + 1 < m) then y = 6 ∨ y = 7 else if k = 14 ∧ i + 1 < m then y = 15 else exprK y = true

/-- A tree that is right. -/
def WfT : Nat → Tr → Prop
  | 0, _ => False
  | r + 1, .mk k t n ps => okKind k = true ∧ partsOk k ps.length ∧ (k = 2 → t.size ≤ 1048576) ∧ (k = 1 → 0 ≤ n ∧ n ≤ 9223372036854775807) ∧ ps.length ≤ 3000 ∧ ∀ i y, ps[i]? = some y → WfT r y ∧ kidOk k ps.length i y.kind

theorem bind_of {O : Nat → Prop} {base r : Nat} (hO : ∀ bb, O bb → bb < base) {w : World} {x : Value} {y : Tr} (hS : ∀ x t, WfT r t → exprK t.kind = true → Sh O base r x t) (hwf : WfT (r + 1) y) (hk : y.kind = 6 ∨ y.kind = 7) (hnd : Nd w O (r + 1) x y) : BdV w O base x (txt (r + 1) y) := by
  obtain ⟨k, t, n, ps⟩ := y
  obtain ⟨-, vs, hvl, hch, hnv⟩ := hnd
  obtain ⟨-, hpo, -, -, -, hkids⟩ := hwf
  have hk' : k = 6 ∨ k = 7 := hk
  cases hnv <;> first
    | (exfalso; omega)
    | skip
  case bindN x0 =>
    match ps, hvl with
    | [t0], _ =>
      obtain ⟨hw0, hk0⟩ := hkids 0 t0 rfl
      have hk0' : exprK t0.kind = true := by simpa [kidOk] using hk0
      have hn0 := hch 0 x0 t0 rfl rfl
      obtain ⟨T, p, rfl⟩ := hn0.iface
      exact .inl ⟨t, T, p, r, _, rfl, pN hO hk0' hn0 (hS _ _ hw0 hk0'), by simp [txt, Tr.at]⟩
  case inheritN =>
    exact .inr ⟨t, rfl, by simp [txt]⟩

theorem param_of {O : Nat → Prop} {base r : Nat} (hO : ∀ bb, O bb → bb < base) {w : World} (hb : Rd base w) {x : Value} {y : Tr} (hS : ∀ x t, WfT r t → exprK t.kind = true → Sh O base r x t) (hwf : WfT (r + 1) y) (hk : y.kind = 15) (hnd : Nd w O (r + 1) x y) : PmV w base x (txt (r + 1) y) := by
  obtain ⟨k, t, n, ps⟩ := y
  obtain ⟨-, vs, hvl, hch, hnv⟩ := hnd
  obtain ⟨-, hpo, -, -, -, hkids⟩ := hwf
  have hk' : k = 15 := hk
  cases hnv <;> first
    | (exfalso; omega)
    | skip
  case param0 =>
    match ps, hvl with
    | [], _ => exact ⟨t, _, [], rfl, .inl rfl, by simp [txt], InsC.none⟩
  case param1 x0 =>
    match ps, hvl with
    | [t0], _ =>
      obtain ⟨hw0, hk0⟩ := hkids 0 t0 rfl
      have hk0' : exprK t0.kind = true := by simpa [kidOk] using hk0
      have hn0 := hch 0 x0 t0 rfl rfl
      obtain ⟨T, p, rfl⟩ := hn0.iface
      exact ⟨t, _, _, rfl, .inr ⟨T, p, rfl⟩, by simp [txt, Tr.at], InsC.some hO hb (pN hO hk0' hn0 (hS _ _ hw0 hk0'))⟩

end Go.Proofs.YtlnagmdoepldmaaDoor.ex
