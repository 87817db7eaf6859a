import Derived.Test.YtogakignaaoklaaDP
import Derived.Deep.RegionHeld3
namespace Go.Proofs.Ytogakignaaoklaa.dl
open Go.ChangeShapes Go.WideShapes Go.ChangeAt Go.RowKit Go.Deep
set_option linter.unusedVariables false
set_option linter.unusedSimpArgs false

/-! ### The place with the most bytes that are the same -/

/-- How many bytes are the same at the beginning. -/
def cp : List UInt8 → List UInt8 → Nat
  | x :: a, y :: b => if x = y then cp a b + 1 else 0
  | _, _ => 0
theorem cp_step : ∀ (a b : List UInt8) (n : Nat), n ≤ cp a b → (n < cp a b ↔ ∃ (h : n < a.length) (h' : n < b.length), a[n] = b[n])
  | [], b, n, hn => by simp [cp]
  | x :: a, [], n, hn => by simp [cp]
  | x :: a, y :: b, n, hn => by
    by_cases h : x = y
    · have e : cp (x :: a) (y :: b) = cp a b + 1 := by simp [cp, h]
      rw [e] at hn ⊢
      cases n with
      | zero => simp [h]
      | succ n =>
        have := cp_step a b n (by omega)
        simp only [List.getElem_cons_succ, List.length_cons, Nat.add_lt_add_iff_right]
        exact this
    · have e : cp (x :: a) (y :: b) = 0 := by simp [cp, h]
      rw [e] at hn ⊢
      obtain rfl : n = 0 := by omega
      simp [h]

/-- The first place with the most, among the first k; at most 1000. -/
def ml (old rest : List UInt8) (i : Nat) : Nat := min 1000 (cp (old.drop i) rest)
def fd (old rest : List UInt8) : Nat → Nat × Nat
  | 0 => (0, 0)
  | k + 1 => if (fd old rest k).2 < ml old rest k then (k, ml old rest k) else fd old rest k
theorem ml_step {old fresh : List UInt8} {i at_ n : Nat} (hn : n ≤ ml old (fresh.drop at_) i) : n < ml old (fresh.drop at_) i ↔ n < 1000 ∧ ∃ (h : i + n < old.length) (h' : at_ + n < fresh.length), old[i + n] = fresh[at_ + n] := by
  unfold ml at *
  have h := cp_step (old.drop i) (fresh.drop at_) n (by omega)
  have h2 : (∃ (h : n < (old.drop i).length) (h' : n < (fresh.drop at_).length), (old.drop i)[n] = (fresh.drop at_)[n]) ↔ ∃ (h : i + n < old.length) (h' : at_ + n < fresh.length), old[i + n] = fresh[at_ + n] := by
    constructor
    · rintro ⟨p, q, e⟩
      rw [List.length_drop] at p q
      exact ⟨by omega, by omega, by rw [List.getElem_drop, List.getElem_drop] at e; exact e⟩
    · rintro ⟨p, q, e⟩
      exact ⟨by rw [List.length_drop]; omega, by rw [List.length_drop]; omega, by rw [List.getElem_drop, List.getElem_drop]; exact e⟩
  rw [← h2, ← h]
  omega
theorem fd_le (old rest : List UInt8) : ∀ k, (fd old rest k).2 ≤ 1000 ∧ (fd old rest k).1 ≤ k
  | 0 => ⟨Nat.zero_le _, Nat.le_refl _⟩
  | k + 1 => by
    have ih := fd_le old rest k
    unfold fd
    split
    · exact ⟨by unfold ml; omega, by omega⟩
    · exact ⟨ih.1, by omega⟩

set_option maxHeartbeats 8000000 in
set_option maxRecDepth 100000 in
theorem find_any {oc nc : Nat} (ob nb on nn at_ : Nat) (old fresh : List UInt8) (hon : old.length = on) (hnn : fresh.length = nn) (hol : on ≤ 1048576) (hnl : nn ≤ 1048576) (hat : at_ ≤ nn) (w : World) (hO : By w ob old) (hF : By w nb fresh) (hob : ob < w.heap.size) (hnb : nb < w.heap.size) :
    Calls Try.prog 29 #[.slice (some ⟨ob, 0, none⟩) on oc, .slice (some ⟨nb, 0, none⟩) nn nc, .int .i64 (at_ : Int)] w fun e w' => e = .returned (.tuple #[.int .i64 ((fd old (fresh.drop at_) on).1 : Int), .int .i64 ((fd old (fresh.drop at_) on).2 : Int)]) ∧ Below w.heap.size w w' := by
  have HO : Hid (∀ W, Below w.heap.size w W → By W ob old) := fun W hW => hO.below hob hW
  have HF : Hid (∀ W, Below w.heap.size w W → By W nb fresh) := fun W hW => hF.below hnb hW
  have HON : Hid (old.length = on) := hon
  have HNN : Hid (fresh.length = nn) := hnn
  clear hO hF hon hnn
  go_enter Try.func29, Try.ntmps29
  go_wp2_with fail
  go_loopw [8, 9, 10, 11] (fun be wh x _ wr => ∃ i : Nat, i ≤ on ∧ x = .int .i64 (i : Int) ∧ be = .int .i64 ((fd old (fresh.drop at_) i).2 : Int) ∧ wh = .int .i64 ((fd old (fresh.drop at_) i).1 : Int) ∧ Below w.heap.size w wr) (fun _ _ x _ _ => on - (intOf x).toNat)
  case atStart => exact ⟨0, Nat.zero_le _, rfl, rfl, rfl, Below.refl _ _⟩
  case round =>
    obtain ⟨i, hi, rfl, rfl, rfl, hbel⟩ := hrel
    have HBE : Hid (Below w.heap.size w wr) := hbel
    have HFD : Hid (fd old (fresh.drop at_) (i + 1) = if (fd old (fresh.drop at_) i).2 < ml old (fresh.drop at_) i then (i, ml old (fresh.drop at_) i) else fd old (fresh.drop at_) i) := rfl
    have hbl := (fd_le old (fresh.drop at_) i).1
    obtain ⟨be, hbe⟩ : ∃ b, (fd old (fresh.drop at_) i).2 = b := ⟨_, rfl⟩
    obtain ⟨wh, hwh⟩ : ∃ b, (fd old (fresh.drop at_) i).1 = b := ⟨_, rfl⟩
    have HE : Hid (fd old (fresh.drop at_) i = (wh, be)) := by show _ = _; rw [← hbe, ← hwh]
    rw [hbe] at hbl ⊢
    rw [hwh]
    clear hbe hwh hbel
    by_cases hin : i < on
    · have hin' : (i : Int) < (on : Int) := by omega
      obtain ⟨wo, rfl⟩ : ∃ wo, wo = wr := ⟨_, rfl⟩
      go_wp2_with fail
      go_loopw [11] (fun v wq => ∃ n : Nat, v = .int .i64 (n : Int) ∧ n ≤ ml old (fresh.drop at_) i ∧ Below w.heap.size w wq) (fun v _ => 1000 - (intOf v).toNat)
      case atStart => exact ⟨0, rfl, Nat.zero_le _, HBE.out⟩
      case round =>
        obtain ⟨n, rfl, hn, hbq⟩ := hrel
        have HBQ : Hid (Below w.heap.size w wr) := hbq
        have hn1 : n ≤ 1000 := by unfold ml at hn; omega
        have HN : Hid (n ≤ ml old (fresh.drop at_) i) := hn
        have hst := ml_step hn
        have hn0 : (0 : Int) ≤ (n : Int) := by omega
        have hi0 : (0 : Int) ≤ (i : Int) := by omega
        have ha0 : (0 : Int) ≤ (at_ : Int) := by omega
        have HLAST : Hid (¬ n < ml old (fresh.drop at_) i → n = ml old (fresh.drop at_) i) := fun h => by omega
        clear hbq hn
        have HS : Hid True := trivial
        have hpi : (0 : Int) ≤ (i : Int) + (n : Int) := by omega
        have hpa : (0 : Int) ≤ (at_ : Int) + (n : Int) := by omega
        have hti : ((i : Int) + (n : Int)).toNat = i + n := by omega
        have hta : ((at_ : Int) + (n : Int)).toNat = at_ + n := by omega
        have hwi : IntKind.i64.wrap ((i : Int) + (n : Int)) = (i : Int) + (n : Int) := by rw [IntKind.wrap_i64]; omega
        have hwa : IntKind.i64.wrap ((at_ : Int) + (n : Int)) = (at_ : Int) + (n : Int) := by rw [IntKind.wrap_i64]; omega
        by_cases h1 : n < 1000
        · have h1' : (n : Int) < 1000 := by omega
          by_cases h2 : i + n < on
          · have h2' : (i : Int) + (n : Int) < (on : Int) := by omega
            have h2d : decide ((i : Int) + (n : Int) < (on : Int)) = true := decide_eq_true h2'
            by_cases h3 : at_ + n < nn
            · have h3' : (at_ : Int) + (n : Int) < (nn : Int) := by omega
              have h3d : decide ((at_ : Int) + (n : Int) < (nn : Int)) = true := decide_eq_true h3'
              obtain ⟨x, hx⟩ : ∃ x, x = old[i + n]'(by rw [HON.out]; exact h2) := ⟨_, rfl⟩
              obtain ⟨y, hy⟩ : ∃ y, y = fresh[at_ + n]'(by rw [HNN.out]; exact h3) := ⟨_, rfl⟩
              have cx : ∀ W, Below w.heap.size w W → W.cell? ⟨ob, i + n, none⟩ = some (.int .u8 (x.toNat : Int)) := fun W hW => by rw [hx]; exact HO.out W hW _ _
              have cy : ∀ W, Below w.heap.size w W → W.cell? ⟨nb, at_ + n, none⟩ = some (.int .u8 (y.toNat : Int)) := fun W hW => by rw [hy]; exact HF.out W hW _ _
              have HS : Hid (wr.drew.cell? ⟨ob, i + n, none⟩ = some (.int .u8 (x.toNat : Int)) ∧ wr.drew.cell? ⟨nb, at_ + n, none⟩ = some (.int .u8 (y.toNat : Int))) := ⟨cx _ HBQ.out.drew, cy _ HBQ.out.drew⟩
              have HXY : Hid (x = y ↔ n < ml old (fresh.drop at_) i) := by
                show _ ↔ _
                rw [hst, hx, hy]
                exact ⟨fun e => ⟨h1, _, _, e⟩, fun ⟨_, _, _, e⟩ => e⟩
              clear hst cx cy hx hy
              by_cases hxy : x = y
              · have HLT : Hid (n < ml old (fresh.drop at_) i) := HXY.out.1 hxy
                subst hxy
                clear HXY
                go_wp2_with fail
                refine wp_region_held_drew (S := fun w' => w'.cell? ⟨ob, i + n, none⟩ = some (.int .u8 (x.toNat : Int)) ∧ w'.cell? ⟨nb, at_ + n, none⟩ = some (.int .u8 (x.toNat : Int))) (by kernel_rfl) (HS.out) (fun hHeld => ?_)
                refine wpAnyH_take (i := 0) (oi := ⟨some 18, .move (.tmp 11), 3, "l14_delta.go:44", #[], none⟩) (v := ?v1) rfl (by kernel_rfl) (by kernel_rfl) (by kernel_rfl) (fun _ _ _ h => h) (Or.inl ⟨by rfl, ?hy1⟩) (by assumption) ?r1
                case hy1 => (intro w hSw; (try dsimp only at hSw); go_simp; try with_reducible rfl)
                try simp only [Act.put, List.setIfInBounds_toArray, List.set_cons_zero, List.set_cons_succ]
                refine wpAnyH_take (i := 1) (oi := ⟨some 19, .binOp .lss 3 (.tmp 18) (.const (.int .i64 1000)) 3, 4, "l14_delta.go:44", #[⟨0, .data⟩], none⟩) (v := ?v2) rfl (by kernel_rfl) (by kernel_rfl) (by kernel_rfl) (fun _ _ _ h => h) (Or.inl ⟨by rfl, ?hy2⟩) (by assumption) ?r2
                case hy2 => (intro w hSw; (try dsimp only at hSw); go_simp; try with_reducible rfl)
                try simp only [Act.put, List.setIfInBounds_toArray, List.set_cons_zero, List.set_cons_succ]
                refine wpAnyH_take (i := 2) (oi := ⟨some 20, .move (.tmp 19), 4, "l14_delta.go:44", #[⟨1, .data⟩], none⟩) (v := ?v3) rfl (by kernel_rfl) (by kernel_rfl) (by kernel_rfl) (fun _ _ _ h => h) (Or.inl ⟨by rfl, ?hy3⟩) (by assumption) ?r3
                case hy3 => (intro w hSw; (try dsimp only at hSw); go_simp; try with_reducible rfl)
                try simp only [Act.put, List.setIfInBounds_toArray, List.set_cons_zero, List.set_cons_succ]
                refine wpAnyH_take (i := 3) (oi := ⟨some 21, .move (.tmp 10), 3, "l14_delta.go:44", #[⟨2, .guard⟩], some (2, true)⟩) (v := ?v4) rfl (by kernel_rfl) (by kernel_rfl) (by kernel_rfl) (fun _ _ _ h => h) (Or.inl ⟨by rfl, ?hy4⟩) (by assumption) ?r4
                case hy4 => (intro w hSw; (try dsimp only at hSw); go_simp; try with_reducible rfl)
                try simp only [Act.put, List.setIfInBounds_toArray, List.set_cons_zero, List.set_cons_succ]
                refine wpAnyH_take (i := 4) (oi := ⟨some 22, .move (.tmp 11), 3, "l14_delta.go:44", #[⟨2, .guard⟩], some (2, true)⟩) (v := ?v5) rfl (by kernel_rfl) (by kernel_rfl) (by kernel_rfl) (fun _ _ _ h => h) (Or.inl ⟨by rfl, ?hy5⟩) (by assumption) ?r5
                case hy5 => (intro w hSw; (try dsimp only at hSw); go_simp; try with_reducible rfl)
                try simp only [Act.put, List.setIfInBounds_toArray, List.set_cons_zero, List.set_cons_succ]
                refine wpAnyH_take (i := 5) (oi := ⟨some 23, .binOp .add 3 (.tmp 21) (.tmp 22) 3, 3, "l14_delta.go:44", #[⟨3, .data⟩, ⟨4, .data⟩, ⟨2, .guard⟩], some (2, true)⟩) (v := ?v6) rfl (by kernel_rfl) (by kernel_rfl) (by kernel_rfl) (fun _ _ _ h => h) (Or.inl ⟨by rfl, ?hy6⟩) (by assumption) ?r6
                case hy6 => (intro w hSw; (try dsimp only at hSw); go_simp; try with_reducible rfl)
                try simp only [Act.put, List.setIfInBounds_toArray, List.set_cons_zero, List.set_cons_succ]
                refine wpAnyH_take (i := 6) (oi := ⟨some 24, .move (.tmp 0), 22, "l14_delta.go:44", #[⟨2, .guard⟩], some (2, true)⟩) (v := ?v7) rfl (by kernel_rfl) (by kernel_rfl) (by kernel_rfl) (fun _ _ _ h => h) (Or.inl ⟨by rfl, ?hy7⟩) (by assumption) ?r7
                case hy7 => (intro w hSw; (try dsimp only at hSw); go_simp; try with_reducible rfl)
                try simp only [Act.put, List.setIfInBounds_toArray, List.set_cons_zero, List.set_cons_succ]
                refine wpAnyH_take (i := 7) (oi := ⟨some 25, .call { callee := .builtin .len, args := #[.tmp 24], argTypes := #[22] }, 3, "l14_delta.go:44", #[⟨6, .data⟩, ⟨2, .guard⟩], some (2, true)⟩) (v := ?v8) rfl (by kernel_rfl) (by kernel_rfl) (by kernel_rfl) (fun _ _ _ h => h) (Or.inl ⟨by rfl, ?hy8⟩) (by assumption) ?r8
                case hy8 => (intro w hSw; (try dsimp only at hSw); go_simp; try with_reducible rfl)
                try simp only [Act.put, List.setIfInBounds_toArray, List.set_cons_zero, List.set_cons_succ]
                refine wpAnyH_take (i := 8) (oi := ⟨some 26, .binOp .lss 3 (.tmp 23) (.tmp 25) 3, 4, "l14_delta.go:44", #[⟨5, .data⟩, ⟨7, .data⟩, ⟨2, .guard⟩], some (2, true)⟩) (v := ?v9) rfl (by kernel_rfl) (by kernel_rfl) (by kernel_rfl) (fun _ _ _ h => h) (Or.inl ⟨by rfl, ?hy9⟩) (by assumption) ?r9
                case hy9 => (intro w hSw; (try dsimp only at hSw); go_simp; try with_reducible rfl)
                try simp only [Act.put, List.setIfInBounds_toArray, List.set_cons_zero, List.set_cons_succ]
                refine wpAnyH_take (i := 9) (oi := ⟨some 27, .pick (.tmp 20) (.tmp 26) (.const (.bool false)), 4, "l14_delta.go:44", #[⟨2, .data⟩, ⟨8, .data⟩], none⟩) (v := ?v10) rfl (by kernel_rfl) (by kernel_rfl) (by kernel_rfl) (fun _ _ _ h => h) (Or.inl ⟨by rfl, ?hy10⟩) (by assumption) ?r10
                case hy10 => (intro w hSw; (try dsimp only at hSw); go_simp; try with_reducible rfl)
                try simp only [Act.put, List.setIfInBounds_toArray, List.set_cons_zero, List.set_cons_succ]
                refine wpAnyH_take (i := 10) (oi := ⟨some 28, .move (.tmp 27), 4, "l14_delta.go:44", #[⟨9, .data⟩, ⟨2, .chain⟩], none⟩) (v := ?v11) rfl (by kernel_rfl) (by kernel_rfl) (by kernel_rfl) (fun _ _ _ h => h) (Or.inl ⟨by rfl, ?hy11⟩) (by assumption) ?r11
                case hy11 => (intro w hSw; (try dsimp only at hSw); go_simp; try with_reducible rfl)
                try simp only [Act.put, List.setIfInBounds_toArray, List.set_cons_zero, List.set_cons_succ]
                refine wpAnyH_take (i := 11) (oi := ⟨some 29, .move (.tmp 2), 3, "l14_delta.go:44", #[⟨10, .guard⟩], some (10, true)⟩) (v := ?v12) rfl (by kernel_rfl) (by kernel_rfl) (by kernel_rfl) (fun _ _ _ h => h) (Or.inl ⟨by rfl, ?hy12⟩) (by assumption) ?r12
                case hy12 => (intro w hSw; (try dsimp only at hSw); go_simp; try with_reducible rfl)
                try simp only [Act.put, List.setIfInBounds_toArray, List.set_cons_zero, List.set_cons_succ]
                refine wpAnyH_take (i := 12) (oi := ⟨some 30, .move (.tmp 11), 3, "l14_delta.go:44", #[⟨10, .guard⟩], some (10, true)⟩) (v := ?v13) rfl (by kernel_rfl) (by kernel_rfl) (by kernel_rfl) (fun _ _ _ h => h) (Or.inl ⟨by rfl, ?hy13⟩) (by assumption) ?r13
                case hy13 => (intro w hSw; (try dsimp only at hSw); go_simp; try with_reducible rfl)
                try simp only [Act.put, List.setIfInBounds_toArray, List.set_cons_zero, List.set_cons_succ]
                refine wpAnyH_take (i := 13) (oi := ⟨some 31, .binOp .add 3 (.tmp 29) (.tmp 30) 3, 3, "l14_delta.go:44", #[⟨11, .data⟩, ⟨12, .data⟩, ⟨10, .guard⟩], some (10, true)⟩) (v := ?v14) rfl (by kernel_rfl) (by kernel_rfl) (by kernel_rfl) (fun _ _ _ h => h) (Or.inl ⟨by rfl, ?hy14⟩) (by assumption) ?r14
                case hy14 => (intro w hSw; (try dsimp only at hSw); go_simp; try with_reducible rfl)
                try simp only [Act.put, List.setIfInBounds_toArray, List.set_cons_zero, List.set_cons_succ]
                refine wpAnyH_take (i := 14) (oi := ⟨some 32, .move (.tmp 1), 22, "l14_delta.go:44", #[⟨10, .guard⟩], some (10, true)⟩) (v := ?v15) rfl (by kernel_rfl) (by kernel_rfl) (by kernel_rfl) (fun _ _ _ h => h) (Or.inl ⟨by rfl, ?hy15⟩) (by assumption) ?r15
                case hy15 => (intro w hSw; (try dsimp only at hSw); go_simp; try with_reducible rfl)
                try simp only [Act.put, List.setIfInBounds_toArray, List.set_cons_zero, List.set_cons_succ]
                refine wpAnyH_take (i := 15) (oi := ⟨some 33, .call { callee := .builtin .len, args := #[.tmp 32], argTypes := #[22] }, 3, "l14_delta.go:44", #[⟨14, .data⟩, ⟨10, .guard⟩], some (10, true)⟩) (v := ?v16) rfl (by kernel_rfl) (by kernel_rfl) (by kernel_rfl) (fun _ _ _ h => h) (Or.inl ⟨by rfl, ?hy16⟩) (by assumption) ?r16
                case hy16 => (intro w hSw; (try dsimp only at hSw); go_simp; try with_reducible rfl)
                try simp only [Act.put, List.setIfInBounds_toArray, List.set_cons_zero, List.set_cons_succ]
                refine wpAnyH_take (i := 16) (oi := ⟨some 34, .binOp .lss 3 (.tmp 31) (.tmp 33) 3, 4, "l14_delta.go:44", #[⟨13, .data⟩, ⟨15, .data⟩, ⟨10, .guard⟩], some (10, true)⟩) (v := ?v17) rfl (by kernel_rfl) (by kernel_rfl) (by kernel_rfl) (fun _ _ _ h => h) (Or.inl ⟨by rfl, ?hy17⟩) (by assumption) ?r17
                case hy17 => (intro w hSw; (try dsimp only at hSw); go_simp; try with_reducible rfl)
                try simp only [Act.put, List.setIfInBounds_toArray, List.set_cons_zero, List.set_cons_succ]
                refine wpAnyH_take (i := 17) (oi := ⟨some 35, .pick (.tmp 28) (.tmp 34) (.const (.bool false)), 4, "l14_delta.go:44", #[⟨10, .data⟩, ⟨16, .data⟩], none⟩) (v := ?v18) rfl (by kernel_rfl) (by kernel_rfl) (by kernel_rfl) (fun _ _ _ h => h) (Or.inl ⟨by rfl, ?hy18⟩) (by assumption) ?r18
                case hy18 => (intro w hSw; (try dsimp only at hSw); go_simp; try with_reducible rfl)
                try simp only [Act.put, List.setIfInBounds_toArray, List.set_cons_zero, List.set_cons_succ]
                refine wpAnyH_take (i := 18) (oi := ⟨some 36, .move (.tmp 35), 4, "l14_delta.go:44", #[⟨17, .data⟩, ⟨10, .chain⟩], none⟩) (v := ?v19) rfl (by kernel_rfl) (by kernel_rfl) (by kernel_rfl) (fun _ _ _ h => h) (Or.inl ⟨by rfl, ?hy19⟩) (by assumption) ?r19
                case hy19 => (intro w hSw; (try dsimp only at hSw); go_simp; try with_reducible rfl)
                try simp only [Act.put, List.setIfInBounds_toArray, List.set_cons_zero, List.set_cons_succ]
                refine wpAnyH_take (i := 19) (oi := ⟨some 37, .move (.tmp 0), 22, "l14_delta.go:44", #[⟨18, .guard⟩], some (18, true)⟩) (v := ?v20) rfl (by kernel_rfl) (by kernel_rfl) (by kernel_rfl) (fun _ _ _ h => h) (Or.inl ⟨by rfl, ?hy20⟩) (by assumption) ?r20
                case hy20 => (intro w hSw; (try dsimp only at hSw); go_simp; try with_reducible rfl)
                try simp only [Act.put, List.setIfInBounds_toArray, List.set_cons_zero, List.set_cons_succ]
                refine wpAnyH_take (i := 20) (oi := ⟨some 38, .move (.tmp 10), 3, "l14_delta.go:44", #[⟨18, .guard⟩], some (18, true)⟩) (v := ?v21) rfl (by kernel_rfl) (by kernel_rfl) (by kernel_rfl) (fun _ _ _ h => h) (Or.inl ⟨by rfl, ?hy21⟩) (by assumption) ?r21
                case hy21 => (intro w hSw; (try dsimp only at hSw); go_simp; try with_reducible rfl)
                try simp only [Act.put, List.setIfInBounds_toArray, List.set_cons_zero, List.set_cons_succ]
                refine wpAnyH_take (i := 21) (oi := ⟨some 39, .move (.tmp 11), 3, "l14_delta.go:44", #[⟨18, .guard⟩], some (18, true)⟩) (v := ?v22) rfl (by kernel_rfl) (by kernel_rfl) (by kernel_rfl) (fun _ _ _ h => h) (Or.inl ⟨by rfl, ?hy22⟩) (by assumption) ?r22
                case hy22 => (intro w hSw; (try dsimp only at hSw); go_simp; try with_reducible rfl)
                try simp only [Act.put, List.setIfInBounds_toArray, List.set_cons_zero, List.set_cons_succ]
                refine wpAnyH_take (i := 22) (oi := ⟨some 40, .binOp .add 3 (.tmp 38) (.tmp 39) 3, 3, "l14_delta.go:44", #[⟨20, .data⟩, ⟨21, .data⟩, ⟨18, .guard⟩], some (18, true)⟩) (v := ?v23) rfl (by kernel_rfl) (by kernel_rfl) (by kernel_rfl) (fun _ _ _ h => h) (Or.inl ⟨by rfl, ?hy23⟩) (by assumption) ?r23
                case hy23 => (intro w hSw; (try dsimp only at hSw); go_simp; try with_reducible rfl)
                try simp only [Act.put, List.setIfInBounds_toArray, List.set_cons_zero, List.set_cons_succ]
                refine wpAnyH_take (i := 23) (oi := ⟨some 41, .indexAddr 22 (.tmp 37) (.tmp 40), 0, "l14_delta.go:44", #[⟨19, .data⟩, ⟨22, .data⟩, ⟨18, .guard⟩], some (18, true)⟩) (v := ?v24) rfl (by kernel_rfl) (by kernel_rfl) (by kernel_rfl) (fun _ _ _ h => h) (Or.inl ⟨by rfl, ?hy24⟩) (by assumption) ?r24
                case hy24 => (intro w hSw; (try dsimp only at hSw); go_simp; try with_reducible rfl)
                try simp only [Act.put, List.setIfInBounds_toArray, List.set_cons_zero, List.set_cons_succ]
                refine wpAnyH_take (i := 24) (oi := ⟨some 42, .load 5 (.tmp 41), 5, "l14_delta.go:44", #[⟨23, .data⟩, ⟨18, .guard⟩], some (18, true)⟩) (v := ?v25) rfl (by kernel_rfl) (by kernel_rfl) (by kernel_rfl) (fun _ _ _ h => h) (Or.inl ⟨by rfl, ?hy25⟩) (by assumption) ?r25
                case hy25 => (intro w hSw; (try dsimp only at hSw); go_simp; try with_reducible rfl)
                try simp only [Act.put, List.setIfInBounds_toArray, List.set_cons_zero, List.set_cons_succ]
                refine wpAnyH_take (i := 25) (oi := ⟨some 43, .move (.tmp 1), 22, "l14_delta.go:44", #[⟨18, .guard⟩], some (18, true)⟩) (v := ?v26) rfl (by kernel_rfl) (by kernel_rfl) (by kernel_rfl) (fun _ _ _ h => h) (Or.inl ⟨by rfl, ?hy26⟩) (by assumption) ?r26
                case hy26 => (intro w hSw; (try dsimp only at hSw); go_simp; try with_reducible rfl)
                try simp only [Act.put, List.setIfInBounds_toArray, List.set_cons_zero, List.set_cons_succ]
                refine wpAnyH_take (i := 26) (oi := ⟨some 44, .move (.tmp 2), 3, "l14_delta.go:44", #[⟨18, .guard⟩], some (18, true)⟩) (v := ?v27) rfl (by kernel_rfl) (by kernel_rfl) (by kernel_rfl) (fun _ _ _ h => h) (Or.inl ⟨by rfl, ?hy27⟩) (by assumption) ?r27
                case hy27 => (intro w hSw; (try dsimp only at hSw); go_simp; try with_reducible rfl)
                try simp only [Act.put, List.setIfInBounds_toArray, List.set_cons_zero, List.set_cons_succ]
                refine wpAnyH_take (i := 27) (oi := ⟨some 45, .move (.tmp 11), 3, "l14_delta.go:44", #[⟨18, .guard⟩], some (18, true)⟩) (v := ?v28) rfl (by kernel_rfl) (by kernel_rfl) (by kernel_rfl) (fun _ _ _ h => h) (Or.inl ⟨by rfl, ?hy28⟩) (by assumption) ?r28
                case hy28 => (intro w hSw; (try dsimp only at hSw); go_simp; try with_reducible rfl)
                try simp only [Act.put, List.setIfInBounds_toArray, List.set_cons_zero, List.set_cons_succ]
                refine wpAnyH_take (i := 28) (oi := ⟨some 46, .binOp .add 3 (.tmp 44) (.tmp 45) 3, 3, "l14_delta.go:44", #[⟨26, .data⟩, ⟨27, .data⟩, ⟨18, .guard⟩], some (18, true)⟩) (v := ?v29) rfl (by kernel_rfl) (by kernel_rfl) (by kernel_rfl) (fun _ _ _ h => h) (Or.inl ⟨by rfl, ?hy29⟩) (by assumption) ?r29
                case hy29 => (intro w hSw; (try dsimp only at hSw); go_simp; try with_reducible rfl)
                try simp only [Act.put, List.setIfInBounds_toArray, List.set_cons_zero, List.set_cons_succ]
                refine wpAnyH_take (i := 29) (oi := ⟨some 47, .indexAddr 22 (.tmp 43) (.tmp 46), 0, "l14_delta.go:44", #[⟨25, .data⟩, ⟨28, .data⟩, ⟨18, .guard⟩], some (18, true)⟩) (v := ?v30) rfl (by kernel_rfl) (by kernel_rfl) (by kernel_rfl) (fun _ _ _ h => h) (Or.inl ⟨by rfl, ?hy30⟩) (by assumption) ?r30
                case hy30 => (intro w hSw; (try dsimp only at hSw); go_simp; try with_reducible rfl)
                try simp only [Act.put, List.setIfInBounds_toArray, List.set_cons_zero, List.set_cons_succ]
                refine wpAnyH_take (i := 30) (oi := ⟨some 48, .load 5 (.tmp 47), 5, "l14_delta.go:44", #[⟨29, .data⟩, ⟨18, .guard⟩], some (18, true)⟩) (v := ?v31) rfl (by kernel_rfl) (by kernel_rfl) (by kernel_rfl) (fun _ _ _ h => h) (Or.inl ⟨by rfl, ?hy31⟩) (by assumption) ?r31
                case hy31 => (intro w hSw; (try dsimp only at hSw); go_simp; try with_reducible rfl)
                try simp only [Act.put, List.setIfInBounds_toArray, List.set_cons_zero, List.set_cons_succ]
                refine wpAnyH_take (i := 31) (oi := ⟨some 49, .binOp .eql 5 (.tmp 42) (.tmp 48) 5, 4, "l14_delta.go:44", #[⟨24, .data⟩, ⟨30, .data⟩, ⟨18, .guard⟩], some (18, true)⟩) (v := ?v32) rfl (by kernel_rfl) (by kernel_rfl) (by kernel_rfl) (fun _ _ _ h => h) (Or.inl ⟨by rfl, ?hy32⟩) (by assumption) ?r32
                case hy32 => (intro w hSw; (try dsimp only at hSw); go_simp; try with_reducible rfl)
                try simp only [Act.put, List.setIfInBounds_toArray, List.set_cons_zero, List.set_cons_succ]
                refine wpAnyH_take (i := 32) (oi := ⟨some 50, .pick (.tmp 36) (.tmp 49) (.const (.bool false)), 4, "l14_delta.go:44", #[⟨18, .data⟩, ⟨31, .data⟩], none⟩) (v := ?v33) rfl (by kernel_rfl) (by kernel_rfl) (by kernel_rfl) (fun _ _ _ h => h) (Or.inl ⟨by rfl, ?hy33⟩) (by assumption) ?r33
                case hy33 => (intro w hSw; (try dsimp only at hSw); go_simp; try with_reducible rfl)
                try simp only [Act.put, List.setIfInBounds_toArray, List.set_cons_zero, List.set_cons_succ]
                refine wpAnyH_done (by kernel_rfl) ?_ _
                go_wp2_with fail
                go_roundw
                case rel => exact ⟨n + 1, by go_num, HLT.out, HBQ.out.drew⟩
                case measure => simp [intOf]; omega
              · have HEQ : Hid (n = ml old (fresh.drop at_) i) := HLAST.out (fun h => hxy (HXY.out.2 h))
                have hxy' : ((x.toNat : Int) == (y.toNat : Int)) = false := byte_ne hxy
                clear HXY
                go_wp2_with fail
                refine wp_region_held_drew (S := fun w' => w'.cell? ⟨ob, i + n, none⟩ = some (.int .u8 (x.toNat : Int)) ∧ w'.cell? ⟨nb, at_ + n, none⟩ = some (.int .u8 (y.toNat : Int))) (by kernel_rfl) (HS.out) (fun hHeld => ?_)
                refine wpAnyH_take (i := 0) (oi := ⟨some 18, .move (.tmp 11), 3, "l14_delta.go:44", #[], none⟩) (v := ?v34) rfl (by kernel_rfl) (by kernel_rfl) (by kernel_rfl) (fun _ _ _ h => h) (Or.inl ⟨by rfl, ?hy34⟩) (by assumption) ?r34
                case hy34 => (intro w hSw; (try dsimp only at hSw); go_simp; try with_reducible rfl)
                try simp only [Act.put, List.setIfInBounds_toArray, List.set_cons_zero, List.set_cons_succ]
                refine wpAnyH_take (i := 1) (oi := ⟨some 19, .binOp .lss 3 (.tmp 18) (.const (.int .i64 1000)) 3, 4, "l14_delta.go:44", #[⟨0, .data⟩], none⟩) (v := ?v35) rfl (by kernel_rfl) (by kernel_rfl) (by kernel_rfl) (fun _ _ _ h => h) (Or.inl ⟨by rfl, ?hy35⟩) (by assumption) ?r35
                case hy35 => (intro w hSw; (try dsimp only at hSw); go_simp; try with_reducible rfl)
                try simp only [Act.put, List.setIfInBounds_toArray, List.set_cons_zero, List.set_cons_succ]
                refine wpAnyH_take (i := 2) (oi := ⟨some 20, .move (.tmp 19), 4, "l14_delta.go:44", #[⟨1, .data⟩], none⟩) (v := ?v36) rfl (by kernel_rfl) (by kernel_rfl) (by kernel_rfl) (fun _ _ _ h => h) (Or.inl ⟨by rfl, ?hy36⟩) (by assumption) ?r36
                case hy36 => (intro w hSw; (try dsimp only at hSw); go_simp; try with_reducible rfl)
                try simp only [Act.put, List.setIfInBounds_toArray, List.set_cons_zero, List.set_cons_succ]
                refine wpAnyH_take (i := 3) (oi := ⟨some 21, .move (.tmp 10), 3, "l14_delta.go:44", #[⟨2, .guard⟩], some (2, true)⟩) (v := ?v37) rfl (by kernel_rfl) (by kernel_rfl) (by kernel_rfl) (fun _ _ _ h => h) (Or.inl ⟨by rfl, ?hy37⟩) (by assumption) ?r37
                case hy37 => (intro w hSw; (try dsimp only at hSw); go_simp; try with_reducible rfl)
                try simp only [Act.put, List.setIfInBounds_toArray, List.set_cons_zero, List.set_cons_succ]
                refine wpAnyH_take (i := 4) (oi := ⟨some 22, .move (.tmp 11), 3, "l14_delta.go:44", #[⟨2, .guard⟩], some (2, true)⟩) (v := ?v38) rfl (by kernel_rfl) (by kernel_rfl) (by kernel_rfl) (fun _ _ _ h => h) (Or.inl ⟨by rfl, ?hy38⟩) (by assumption) ?r38
                case hy38 => (intro w hSw; (try dsimp only at hSw); go_simp; try with_reducible rfl)
                try simp only [Act.put, List.setIfInBounds_toArray, List.set_cons_zero, List.set_cons_succ]
                refine wpAnyH_take (i := 5) (oi := ⟨some 23, .binOp .add 3 (.tmp 21) (.tmp 22) 3, 3, "l14_delta.go:44", #[⟨3, .data⟩, ⟨4, .data⟩, ⟨2, .guard⟩], some (2, true)⟩) (v := ?v39) rfl (by kernel_rfl) (by kernel_rfl) (by kernel_rfl) (fun _ _ _ h => h) (Or.inl ⟨by rfl, ?hy39⟩) (by assumption) ?r39
                case hy39 => (intro w hSw; (try dsimp only at hSw); go_simp; try with_reducible rfl)
                try simp only [Act.put, List.setIfInBounds_toArray, List.set_cons_zero, List.set_cons_succ]
                refine wpAnyH_take (i := 6) (oi := ⟨some 24, .move (.tmp 0), 22, "l14_delta.go:44", #[⟨2, .guard⟩], some (2, true)⟩) (v := ?v40) rfl (by kernel_rfl) (by kernel_rfl) (by kernel_rfl) (fun _ _ _ h => h) (Or.inl ⟨by rfl, ?hy40⟩) (by assumption) ?r40
                case hy40 => (intro w hSw; (try dsimp only at hSw); go_simp; try with_reducible rfl)
                try simp only [Act.put, List.setIfInBounds_toArray, List.set_cons_zero, List.set_cons_succ]
                refine wpAnyH_take (i := 7) (oi := ⟨some 25, .call { callee := .builtin .len, args := #[.tmp 24], argTypes := #[22] }, 3, "l14_delta.go:44", #[⟨6, .data⟩, ⟨2, .guard⟩], some (2, true)⟩) (v := ?v41) rfl (by kernel_rfl) (by kernel_rfl) (by kernel_rfl) (fun _ _ _ h => h) (Or.inl ⟨by rfl, ?hy41⟩) (by assumption) ?r41
                case hy41 => (intro w hSw; (try dsimp only at hSw); go_simp; try with_reducible rfl)
                try simp only [Act.put, List.setIfInBounds_toArray, List.set_cons_zero, List.set_cons_succ]
                refine wpAnyH_take (i := 8) (oi := ⟨some 26, .binOp .lss 3 (.tmp 23) (.tmp 25) 3, 4, "l14_delta.go:44", #[⟨5, .data⟩, ⟨7, .data⟩, ⟨2, .guard⟩], some (2, true)⟩) (v := ?v42) rfl (by kernel_rfl) (by kernel_rfl) (by kernel_rfl) (fun _ _ _ h => h) (Or.inl ⟨by rfl, ?hy42⟩) (by assumption) ?r42
                case hy42 => (intro w hSw; (try dsimp only at hSw); go_simp; try with_reducible rfl)
                try simp only [Act.put, List.setIfInBounds_toArray, List.set_cons_zero, List.set_cons_succ]
                refine wpAnyH_take (i := 9) (oi := ⟨some 27, .pick (.tmp 20) (.tmp 26) (.const (.bool false)), 4, "l14_delta.go:44", #[⟨2, .data⟩, ⟨8, .data⟩], none⟩) (v := ?v43) rfl (by kernel_rfl) (by kernel_rfl) (by kernel_rfl) (fun _ _ _ h => h) (Or.inl ⟨by rfl, ?hy43⟩) (by assumption) ?r43
                case hy43 => (intro w hSw; (try dsimp only at hSw); go_simp; try with_reducible rfl)
                try simp only [Act.put, List.setIfInBounds_toArray, List.set_cons_zero, List.set_cons_succ]
                refine wpAnyH_take (i := 10) (oi := ⟨some 28, .move (.tmp 27), 4, "l14_delta.go:44", #[⟨9, .data⟩, ⟨2, .chain⟩], none⟩) (v := ?v44) rfl (by kernel_rfl) (by kernel_rfl) (by kernel_rfl) (fun _ _ _ h => h) (Or.inl ⟨by rfl, ?hy44⟩) (by assumption) ?r44
                case hy44 => (intro w hSw; (try dsimp only at hSw); go_simp; try with_reducible rfl)
                try simp only [Act.put, List.setIfInBounds_toArray, List.set_cons_zero, List.set_cons_succ]
                refine wpAnyH_take (i := 11) (oi := ⟨some 29, .move (.tmp 2), 3, "l14_delta.go:44", #[⟨10, .guard⟩], some (10, true)⟩) (v := ?v45) rfl (by kernel_rfl) (by kernel_rfl) (by kernel_rfl) (fun _ _ _ h => h) (Or.inl ⟨by rfl, ?hy45⟩) (by assumption) ?r45
                case hy45 => (intro w hSw; (try dsimp only at hSw); go_simp; try with_reducible rfl)
                try simp only [Act.put, List.setIfInBounds_toArray, List.set_cons_zero, List.set_cons_succ]
                refine wpAnyH_take (i := 12) (oi := ⟨some 30, .move (.tmp 11), 3, "l14_delta.go:44", #[⟨10, .guard⟩], some (10, true)⟩) (v := ?v46) rfl (by kernel_rfl) (by kernel_rfl) (by kernel_rfl) (fun _ _ _ h => h) (Or.inl ⟨by rfl, ?hy46⟩) (by assumption) ?r46
                case hy46 => (intro w hSw; (try dsimp only at hSw); go_simp; try with_reducible rfl)
                try simp only [Act.put, List.setIfInBounds_toArray, List.set_cons_zero, List.set_cons_succ]
                refine wpAnyH_take (i := 13) (oi := ⟨some 31, .binOp .add 3 (.tmp 29) (.tmp 30) 3, 3, "l14_delta.go:44", #[⟨11, .data⟩, ⟨12, .data⟩, ⟨10, .guard⟩], some (10, true)⟩) (v := ?v47) rfl (by kernel_rfl) (by kernel_rfl) (by kernel_rfl) (fun _ _ _ h => h) (Or.inl ⟨by rfl, ?hy47⟩) (by assumption) ?r47
                case hy47 => (intro w hSw; (try dsimp only at hSw); go_simp; try with_reducible rfl)
                try simp only [Act.put, List.setIfInBounds_toArray, List.set_cons_zero, List.set_cons_succ]
                refine wpAnyH_take (i := 14) (oi := ⟨some 32, .move (.tmp 1), 22, "l14_delta.go:44", #[⟨10, .guard⟩], some (10, true)⟩) (v := ?v48) rfl (by kernel_rfl) (by kernel_rfl) (by kernel_rfl) (fun _ _ _ h => h) (Or.inl ⟨by rfl, ?hy48⟩) (by assumption) ?r48
                case hy48 => (intro w hSw; (try dsimp only at hSw); go_simp; try with_reducible rfl)
                try simp only [Act.put, List.setIfInBounds_toArray, List.set_cons_zero, List.set_cons_succ]
                refine wpAnyH_take (i := 15) (oi := ⟨some 33, .call { callee := .builtin .len, args := #[.tmp 32], argTypes := #[22] }, 3, "l14_delta.go:44", #[⟨14, .data⟩, ⟨10, .guard⟩], some (10, true)⟩) (v := ?v49) rfl (by kernel_rfl) (by kernel_rfl) (by kernel_rfl) (fun _ _ _ h => h) (Or.inl ⟨by rfl, ?hy49⟩) (by assumption) ?r49
                case hy49 => (intro w hSw; (try dsimp only at hSw); go_simp; try with_reducible rfl)
                try simp only [Act.put, List.setIfInBounds_toArray, List.set_cons_zero, List.set_cons_succ]
                refine wpAnyH_take (i := 16) (oi := ⟨some 34, .binOp .lss 3 (.tmp 31) (.tmp 33) 3, 4, "l14_delta.go:44", #[⟨13, .data⟩, ⟨15, .data⟩, ⟨10, .guard⟩], some (10, true)⟩) (v := ?v50) rfl (by kernel_rfl) (by kernel_rfl) (by kernel_rfl) (fun _ _ _ h => h) (Or.inl ⟨by rfl, ?hy50⟩) (by assumption) ?r50
                case hy50 => (intro w hSw; (try dsimp only at hSw); go_simp; try with_reducible rfl)
                try simp only [Act.put, List.setIfInBounds_toArray, List.set_cons_zero, List.set_cons_succ]
                refine wpAnyH_take (i := 17) (oi := ⟨some 35, .pick (.tmp 28) (.tmp 34) (.const (.bool false)), 4, "l14_delta.go:44", #[⟨10, .data⟩, ⟨16, .data⟩], none⟩) (v := ?v51) rfl (by kernel_rfl) (by kernel_rfl) (by kernel_rfl) (fun _ _ _ h => h) (Or.inl ⟨by rfl, ?hy51⟩) (by assumption) ?r51
                case hy51 => (intro w hSw; (try dsimp only at hSw); go_simp; try with_reducible rfl)
                try simp only [Act.put, List.setIfInBounds_toArray, List.set_cons_zero, List.set_cons_succ]
                refine wpAnyH_take (i := 18) (oi := ⟨some 36, .move (.tmp 35), 4, "l14_delta.go:44", #[⟨17, .data⟩, ⟨10, .chain⟩], none⟩) (v := ?v52) rfl (by kernel_rfl) (by kernel_rfl) (by kernel_rfl) (fun _ _ _ h => h) (Or.inl ⟨by rfl, ?hy52⟩) (by assumption) ?r52
                case hy52 => (intro w hSw; (try dsimp only at hSw); go_simp; try with_reducible rfl)
                try simp only [Act.put, List.setIfInBounds_toArray, List.set_cons_zero, List.set_cons_succ]
                refine wpAnyH_take (i := 19) (oi := ⟨some 37, .move (.tmp 0), 22, "l14_delta.go:44", #[⟨18, .guard⟩], some (18, true)⟩) (v := ?v53) rfl (by kernel_rfl) (by kernel_rfl) (by kernel_rfl) (fun _ _ _ h => h) (Or.inl ⟨by rfl, ?hy53⟩) (by assumption) ?r53
                case hy53 => (intro w hSw; (try dsimp only at hSw); go_simp; try with_reducible rfl)
                try simp only [Act.put, List.setIfInBounds_toArray, List.set_cons_zero, List.set_cons_succ]
                refine wpAnyH_take (i := 20) (oi := ⟨some 38, .move (.tmp 10), 3, "l14_delta.go:44", #[⟨18, .guard⟩], some (18, true)⟩) (v := ?v54) rfl (by kernel_rfl) (by kernel_rfl) (by kernel_rfl) (fun _ _ _ h => h) (Or.inl ⟨by rfl, ?hy54⟩) (by assumption) ?r54
                case hy54 => (intro w hSw; (try dsimp only at hSw); go_simp; try with_reducible rfl)
                try simp only [Act.put, List.setIfInBounds_toArray, List.set_cons_zero, List.set_cons_succ]
                refine wpAnyH_take (i := 21) (oi := ⟨some 39, .move (.tmp 11), 3, "l14_delta.go:44", #[⟨18, .guard⟩], some (18, true)⟩) (v := ?v55) rfl (by kernel_rfl) (by kernel_rfl) (by kernel_rfl) (fun _ _ _ h => h) (Or.inl ⟨by rfl, ?hy55⟩) (by assumption) ?r55
                case hy55 => (intro w hSw; (try dsimp only at hSw); go_simp; try with_reducible rfl)
                try simp only [Act.put, List.setIfInBounds_toArray, List.set_cons_zero, List.set_cons_succ]
                refine wpAnyH_take (i := 22) (oi := ⟨some 40, .binOp .add 3 (.tmp 38) (.tmp 39) 3, 3, "l14_delta.go:44", #[⟨20, .data⟩, ⟨21, .data⟩, ⟨18, .guard⟩], some (18, true)⟩) (v := ?v56) rfl (by kernel_rfl) (by kernel_rfl) (by kernel_rfl) (fun _ _ _ h => h) (Or.inl ⟨by rfl, ?hy56⟩) (by assumption) ?r56
                case hy56 => (intro w hSw; (try dsimp only at hSw); go_simp; try with_reducible rfl)
                try simp only [Act.put, List.setIfInBounds_toArray, List.set_cons_zero, List.set_cons_succ]
                refine wpAnyH_take (i := 23) (oi := ⟨some 41, .indexAddr 22 (.tmp 37) (.tmp 40), 0, "l14_delta.go:44", #[⟨19, .data⟩, ⟨22, .data⟩, ⟨18, .guard⟩], some (18, true)⟩) (v := ?v57) rfl (by kernel_rfl) (by kernel_rfl) (by kernel_rfl) (fun _ _ _ h => h) (Or.inl ⟨by rfl, ?hy57⟩) (by assumption) ?r57
                case hy57 => (intro w hSw; (try dsimp only at hSw); go_simp; try with_reducible rfl)
                try simp only [Act.put, List.setIfInBounds_toArray, List.set_cons_zero, List.set_cons_succ]
                refine wpAnyH_take (i := 24) (oi := ⟨some 42, .load 5 (.tmp 41), 5, "l14_delta.go:44", #[⟨23, .data⟩, ⟨18, .guard⟩], some (18, true)⟩) (v := ?v58) rfl (by kernel_rfl) (by kernel_rfl) (by kernel_rfl) (fun _ _ _ h => h) (Or.inl ⟨by rfl, ?hy58⟩) (by assumption) ?r58
                case hy58 => (intro w hSw; (try dsimp only at hSw); go_simp; try with_reducible rfl)
                try simp only [Act.put, List.setIfInBounds_toArray, List.set_cons_zero, List.set_cons_succ]
                refine wpAnyH_take (i := 25) (oi := ⟨some 43, .move (.tmp 1), 22, "l14_delta.go:44", #[⟨18, .guard⟩], some (18, true)⟩) (v := ?v59) rfl (by kernel_rfl) (by kernel_rfl) (by kernel_rfl) (fun _ _ _ h => h) (Or.inl ⟨by rfl, ?hy59⟩) (by assumption) ?r59
                case hy59 => (intro w hSw; (try dsimp only at hSw); go_simp; try with_reducible rfl)
                try simp only [Act.put, List.setIfInBounds_toArray, List.set_cons_zero, List.set_cons_succ]
                refine wpAnyH_take (i := 26) (oi := ⟨some 44, .move (.tmp 2), 3, "l14_delta.go:44", #[⟨18, .guard⟩], some (18, true)⟩) (v := ?v60) rfl (by kernel_rfl) (by kernel_rfl) (by kernel_rfl) (fun _ _ _ h => h) (Or.inl ⟨by rfl, ?hy60⟩) (by assumption) ?r60
                case hy60 => (intro w hSw; (try dsimp only at hSw); go_simp; try with_reducible rfl)
                try simp only [Act.put, List.setIfInBounds_toArray, List.set_cons_zero, List.set_cons_succ]
                refine wpAnyH_take (i := 27) (oi := ⟨some 45, .move (.tmp 11), 3, "l14_delta.go:44", #[⟨18, .guard⟩], some (18, true)⟩) (v := ?v61) rfl (by kernel_rfl) (by kernel_rfl) (by kernel_rfl) (fun _ _ _ h => h) (Or.inl ⟨by rfl, ?hy61⟩) (by assumption) ?r61
                case hy61 => (intro w hSw; (try dsimp only at hSw); go_simp; try with_reducible rfl)
                try simp only [Act.put, List.setIfInBounds_toArray, List.set_cons_zero, List.set_cons_succ]
                refine wpAnyH_take (i := 28) (oi := ⟨some 46, .binOp .add 3 (.tmp 44) (.tmp 45) 3, 3, "l14_delta.go:44", #[⟨26, .data⟩, ⟨27, .data⟩, ⟨18, .guard⟩], some (18, true)⟩) (v := ?v62) rfl (by kernel_rfl) (by kernel_rfl) (by kernel_rfl) (fun _ _ _ h => h) (Or.inl ⟨by rfl, ?hy62⟩) (by assumption) ?r62
                case hy62 => (intro w hSw; (try dsimp only at hSw); go_simp; try with_reducible rfl)
                try simp only [Act.put, List.setIfInBounds_toArray, List.set_cons_zero, List.set_cons_succ]
                refine wpAnyH_take (i := 29) (oi := ⟨some 47, .indexAddr 22 (.tmp 43) (.tmp 46), 0, "l14_delta.go:44", #[⟨25, .data⟩, ⟨28, .data⟩, ⟨18, .guard⟩], some (18, true)⟩) (v := ?v63) rfl (by kernel_rfl) (by kernel_rfl) (by kernel_rfl) (fun _ _ _ h => h) (Or.inl ⟨by rfl, ?hy63⟩) (by assumption) ?r63
                case hy63 => (intro w hSw; (try dsimp only at hSw); go_simp; try with_reducible rfl)
                try simp only [Act.put, List.setIfInBounds_toArray, List.set_cons_zero, List.set_cons_succ]
                refine wpAnyH_take (i := 30) (oi := ⟨some 48, .load 5 (.tmp 47), 5, "l14_delta.go:44", #[⟨29, .data⟩, ⟨18, .guard⟩], some (18, true)⟩) (v := ?v64) rfl (by kernel_rfl) (by kernel_rfl) (by kernel_rfl) (fun _ _ _ h => h) (Or.inl ⟨by rfl, ?hy64⟩) (by assumption) ?r64
                case hy64 => (intro w hSw; (try dsimp only at hSw); go_simp; try with_reducible rfl)
                try simp only [Act.put, List.setIfInBounds_toArray, List.set_cons_zero, List.set_cons_succ]
                refine wpAnyH_take (i := 31) (oi := ⟨some 49, .binOp .eql 5 (.tmp 42) (.tmp 48) 5, 4, "l14_delta.go:44", #[⟨24, .data⟩, ⟨30, .data⟩, ⟨18, .guard⟩], some (18, true)⟩) (v := ?v65) rfl (by kernel_rfl) (by kernel_rfl) (by kernel_rfl) (fun _ _ _ h => h) (Or.inl ⟨by rfl, ?hy65⟩) (by assumption) ?r65
                case hy65 => (intro w hSw; (try dsimp only at hSw); go_simp; try with_reducible rfl)
                try simp only [Act.put, List.setIfInBounds_toArray, List.set_cons_zero, List.set_cons_succ]
                refine wpAnyH_take (i := 32) (oi := ⟨some 50, .pick (.tmp 36) (.tmp 49) (.const (.bool false)), 4, "l14_delta.go:44", #[⟨18, .data⟩, ⟨31, .data⟩], none⟩) (v := ?v66) rfl (by kernel_rfl) (by kernel_rfl) (by kernel_rfl) (fun _ _ _ h => h) (Or.inl ⟨by rfl, ?hy66⟩) (by assumption) ?r66
                case hy66 => (intro w hSw; (try dsimp only at hSw); go_simp; try with_reducible rfl)
                try simp only [Act.put, List.setIfInBounds_toArray, List.set_cons_zero, List.set_cons_succ]
                refine wpAnyH_done (by kernel_rfl) ?_ _
                by_cases hgt : be < n
                · have hgt' : (be : Int) < (n : Int) := by omega
                  go_wp2_with fail
                  go_roundw
                  case rel => exact ⟨i + 1, by omega, by go_num, by rw [HFD.out, HE.out, if_pos (by rw [← HEQ.out]; exact hgt), ← HEQ.out], by rw [HFD.out, HE.out, if_pos (by rw [← HEQ.out]; exact hgt)], HBQ.out.drew⟩
                  case measure => simp [intOf]; omega
                · have hgt' : ¬ (be : Int) < (n : Int) := by omega
                  go_wp2_with fail
                  go_roundw
                  case rel => exact ⟨i + 1, by omega, by go_num, by rw [HFD.out, HE.out, if_neg (by rw [← HEQ.out]; exact hgt)], by rw [HFD.out, HE.out, if_neg (by rw [← HEQ.out]; exact hgt)], HBQ.out.drew⟩
                  case measure => simp [intOf]; omega
            · have h3' : ¬ (at_ : Int) + (n : Int) < (nn : Int) := by omega
              have h3d : decide ((at_ : Int) + (n : Int) < (nn : Int)) = false := decide_eq_false h3'
              have HEQ : Hid (n = ml old (fresh.drop at_) i) := HLAST.out (fun h => by obtain ⟨_, _, q, _⟩ := hst.1 h; rw [HNN.out] at q; exact h3 q)
              clear hst
              go_wp2_with fail
              refine wp_region_held_drew (S := fun w' => True) (by kernel_rfl) (HS.out) (fun hHeld => ?_)
              refine wpAnyH_take (i := 0) (oi := ⟨some 18, .move (.tmp 11), 3, "l14_delta.go:44", #[], none⟩) (v := ?v67) rfl (by kernel_rfl) (by kernel_rfl) (by kernel_rfl) (fun _ _ _ h => h) (Or.inl ⟨by rfl, ?hy67⟩) (by assumption) ?r67
              case hy67 => (intro w hSw; (try dsimp only at hSw); go_simp; try with_reducible rfl)
              try simp only [Act.put, List.setIfInBounds_toArray, List.set_cons_zero, List.set_cons_succ]
              refine wpAnyH_take (i := 1) (oi := ⟨some 19, .binOp .lss 3 (.tmp 18) (.const (.int .i64 1000)) 3, 4, "l14_delta.go:44", #[⟨0, .data⟩], none⟩) (v := ?v68) rfl (by kernel_rfl) (by kernel_rfl) (by kernel_rfl) (fun _ _ _ h => h) (Or.inl ⟨by rfl, ?hy68⟩) (by assumption) ?r68
              case hy68 => (intro w hSw; (try dsimp only at hSw); go_simp; try with_reducible rfl)
              try simp only [Act.put, List.setIfInBounds_toArray, List.set_cons_zero, List.set_cons_succ]
              refine wpAnyH_take (i := 2) (oi := ⟨some 20, .move (.tmp 19), 4, "l14_delta.go:44", #[⟨1, .data⟩], none⟩) (v := ?v69) rfl (by kernel_rfl) (by kernel_rfl) (by kernel_rfl) (fun _ _ _ h => h) (Or.inl ⟨by rfl, ?hy69⟩) (by assumption) ?r69
              case hy69 => (intro w hSw; (try dsimp only at hSw); go_simp; try with_reducible rfl)
              try simp only [Act.put, List.setIfInBounds_toArray, List.set_cons_zero, List.set_cons_succ]
              refine wpAnyH_take (i := 3) (oi := ⟨some 21, .move (.tmp 10), 3, "l14_delta.go:44", #[⟨2, .guard⟩], some (2, true)⟩) (v := ?v70) rfl (by kernel_rfl) (by kernel_rfl) (by kernel_rfl) (fun _ _ _ h => h) (Or.inl ⟨by rfl, ?hy70⟩) (by assumption) ?r70
              case hy70 => (intro w hSw; (try dsimp only at hSw); go_simp; try with_reducible rfl)
              try simp only [Act.put, List.setIfInBounds_toArray, List.set_cons_zero, List.set_cons_succ]
              refine wpAnyH_take (i := 4) (oi := ⟨some 22, .move (.tmp 11), 3, "l14_delta.go:44", #[⟨2, .guard⟩], some (2, true)⟩) (v := ?v71) rfl (by kernel_rfl) (by kernel_rfl) (by kernel_rfl) (fun _ _ _ h => h) (Or.inl ⟨by rfl, ?hy71⟩) (by assumption) ?r71
              case hy71 => (intro w hSw; (try dsimp only at hSw); go_simp; try with_reducible rfl)
              try simp only [Act.put, List.setIfInBounds_toArray, List.set_cons_zero, List.set_cons_succ]
              refine wpAnyH_take (i := 5) (oi := ⟨some 23, .binOp .add 3 (.tmp 21) (.tmp 22) 3, 3, "l14_delta.go:44", #[⟨3, .data⟩, ⟨4, .data⟩, ⟨2, .guard⟩], some (2, true)⟩) (v := ?v72) rfl (by kernel_rfl) (by kernel_rfl) (by kernel_rfl) (fun _ _ _ h => h) (Or.inl ⟨by rfl, ?hy72⟩) (by assumption) ?r72
              case hy72 => (intro w hSw; (try dsimp only at hSw); go_simp; try with_reducible rfl)
              try simp only [Act.put, List.setIfInBounds_toArray, List.set_cons_zero, List.set_cons_succ]
              refine wpAnyH_take (i := 6) (oi := ⟨some 24, .move (.tmp 0), 22, "l14_delta.go:44", #[⟨2, .guard⟩], some (2, true)⟩) (v := ?v73) rfl (by kernel_rfl) (by kernel_rfl) (by kernel_rfl) (fun _ _ _ h => h) (Or.inl ⟨by rfl, ?hy73⟩) (by assumption) ?r73
              case hy73 => (intro w hSw; (try dsimp only at hSw); go_simp; try with_reducible rfl)
              try simp only [Act.put, List.setIfInBounds_toArray, List.set_cons_zero, List.set_cons_succ]
              refine wpAnyH_take (i := 7) (oi := ⟨some 25, .call { callee := .builtin .len, args := #[.tmp 24], argTypes := #[22] }, 3, "l14_delta.go:44", #[⟨6, .data⟩, ⟨2, .guard⟩], some (2, true)⟩) (v := ?v74) rfl (by kernel_rfl) (by kernel_rfl) (by kernel_rfl) (fun _ _ _ h => h) (Or.inl ⟨by rfl, ?hy74⟩) (by assumption) ?r74
              case hy74 => (intro w hSw; (try dsimp only at hSw); go_simp; try with_reducible rfl)
              try simp only [Act.put, List.setIfInBounds_toArray, List.set_cons_zero, List.set_cons_succ]
              refine wpAnyH_take (i := 8) (oi := ⟨some 26, .binOp .lss 3 (.tmp 23) (.tmp 25) 3, 4, "l14_delta.go:44", #[⟨5, .data⟩, ⟨7, .data⟩, ⟨2, .guard⟩], some (2, true)⟩) (v := ?v75) rfl (by kernel_rfl) (by kernel_rfl) (by kernel_rfl) (fun _ _ _ h => h) (Or.inl ⟨by rfl, ?hy75⟩) (by assumption) ?r75
              case hy75 => (intro w hSw; (try dsimp only at hSw); go_simp; try with_reducible rfl)
              try simp only [Act.put, List.setIfInBounds_toArray, List.set_cons_zero, List.set_cons_succ]
              refine wpAnyH_take (i := 9) (oi := ⟨some 27, .pick (.tmp 20) (.tmp 26) (.const (.bool false)), 4, "l14_delta.go:44", #[⟨2, .data⟩, ⟨8, .data⟩], none⟩) (v := ?v76) rfl (by kernel_rfl) (by kernel_rfl) (by kernel_rfl) (fun _ _ _ h => h) (Or.inl ⟨by rfl, ?hy76⟩) (by assumption) ?r76
              case hy76 => (intro w hSw; (try dsimp only at hSw); go_simp; try with_reducible rfl)
              try simp only [Act.put, List.setIfInBounds_toArray, List.set_cons_zero, List.set_cons_succ]
              refine wpAnyH_take (i := 10) (oi := ⟨some 28, .move (.tmp 27), 4, "l14_delta.go:44", #[⟨9, .data⟩, ⟨2, .chain⟩], none⟩) (v := ?v77) rfl (by kernel_rfl) (by kernel_rfl) (by kernel_rfl) (fun _ _ _ h => h) (Or.inl ⟨by rfl, ?hy77⟩) (by assumption) ?r77
              case hy77 => (intro w hSw; (try dsimp only at hSw); go_simp; try with_reducible rfl)
              try simp only [Act.put, List.setIfInBounds_toArray, List.set_cons_zero, List.set_cons_succ]
              refine wpAnyH_take (i := 11) (oi := ⟨some 29, .move (.tmp 2), 3, "l14_delta.go:44", #[⟨10, .guard⟩], some (10, true)⟩) (v := ?v78) rfl (by kernel_rfl) (by kernel_rfl) (by kernel_rfl) (fun _ _ _ h => h) (Or.inl ⟨by rfl, ?hy78⟩) (by assumption) ?r78
              case hy78 => (intro w hSw; (try dsimp only at hSw); go_simp; try with_reducible rfl)
              try simp only [Act.put, List.setIfInBounds_toArray, List.set_cons_zero, List.set_cons_succ]
              refine wpAnyH_take (i := 12) (oi := ⟨some 30, .move (.tmp 11), 3, "l14_delta.go:44", #[⟨10, .guard⟩], some (10, true)⟩) (v := ?v79) rfl (by kernel_rfl) (by kernel_rfl) (by kernel_rfl) (fun _ _ _ h => h) (Or.inl ⟨by rfl, ?hy79⟩) (by assumption) ?r79
              case hy79 => (intro w hSw; (try dsimp only at hSw); go_simp; try with_reducible rfl)
              try simp only [Act.put, List.setIfInBounds_toArray, List.set_cons_zero, List.set_cons_succ]
              refine wpAnyH_take (i := 13) (oi := ⟨some 31, .binOp .add 3 (.tmp 29) (.tmp 30) 3, 3, "l14_delta.go:44", #[⟨11, .data⟩, ⟨12, .data⟩, ⟨10, .guard⟩], some (10, true)⟩) (v := ?v80) rfl (by kernel_rfl) (by kernel_rfl) (by kernel_rfl) (fun _ _ _ h => h) (Or.inl ⟨by rfl, ?hy80⟩) (by assumption) ?r80
              case hy80 => (intro w hSw; (try dsimp only at hSw); go_simp; try with_reducible rfl)
              try simp only [Act.put, List.setIfInBounds_toArray, List.set_cons_zero, List.set_cons_succ]
              refine wpAnyH_take (i := 14) (oi := ⟨some 32, .move (.tmp 1), 22, "l14_delta.go:44", #[⟨10, .guard⟩], some (10, true)⟩) (v := ?v81) rfl (by kernel_rfl) (by kernel_rfl) (by kernel_rfl) (fun _ _ _ h => h) (Or.inl ⟨by rfl, ?hy81⟩) (by assumption) ?r81
              case hy81 => (intro w hSw; (try dsimp only at hSw); go_simp; try with_reducible rfl)
              try simp only [Act.put, List.setIfInBounds_toArray, List.set_cons_zero, List.set_cons_succ]
              refine wpAnyH_take (i := 15) (oi := ⟨some 33, .call { callee := .builtin .len, args := #[.tmp 32], argTypes := #[22] }, 3, "l14_delta.go:44", #[⟨14, .data⟩, ⟨10, .guard⟩], some (10, true)⟩) (v := ?v82) rfl (by kernel_rfl) (by kernel_rfl) (by kernel_rfl) (fun _ _ _ h => h) (Or.inl ⟨by rfl, ?hy82⟩) (by assumption) ?r82
              case hy82 => (intro w hSw; (try dsimp only at hSw); go_simp; try with_reducible rfl)
              try simp only [Act.put, List.setIfInBounds_toArray, List.set_cons_zero, List.set_cons_succ]
              refine wpAnyH_take (i := 16) (oi := ⟨some 34, .binOp .lss 3 (.tmp 31) (.tmp 33) 3, 4, "l14_delta.go:44", #[⟨13, .data⟩, ⟨15, .data⟩, ⟨10, .guard⟩], some (10, true)⟩) (v := ?v83) rfl (by kernel_rfl) (by kernel_rfl) (by kernel_rfl) (fun _ _ _ h => h) (Or.inl ⟨by rfl, ?hy83⟩) (by assumption) ?r83
              case hy83 => (intro w hSw; (try dsimp only at hSw); go_simp; try with_reducible rfl)
              try simp only [Act.put, List.setIfInBounds_toArray, List.set_cons_zero, List.set_cons_succ]
              refine wpAnyH_take (i := 17) (oi := ⟨some 35, .pick (.tmp 28) (.tmp 34) (.const (.bool false)), 4, "l14_delta.go:44", #[⟨10, .data⟩, ⟨16, .data⟩], none⟩) (v := ?v84) rfl (by kernel_rfl) (by kernel_rfl) (by kernel_rfl) (fun _ _ _ h => h) (Or.inl ⟨by rfl, ?hy84⟩) (by assumption) ?r84
              case hy84 => (intro w hSw; (try dsimp only at hSw); go_simp; try with_reducible rfl)
              try simp only [Act.put, List.setIfInBounds_toArray, List.set_cons_zero, List.set_cons_succ]
              refine wpAnyH_take (i := 18) (oi := ⟨some 36, .move (.tmp 35), 4, "l14_delta.go:44", #[⟨17, .data⟩, ⟨10, .chain⟩], none⟩) (v := ?v85) rfl (by kernel_rfl) (by kernel_rfl) (by kernel_rfl) (fun _ _ _ h => h) (Or.inl ⟨by rfl, ?hy85⟩) (by assumption) ?r85
              case hy85 => (intro w hSw; (try dsimp only at hSw); go_simp; try with_reducible rfl)
              try simp only [Act.put, List.setIfInBounds_toArray, List.set_cons_zero, List.set_cons_succ]
              refine wpAnyH_take (i := 19) (oi := ⟨some 37, .move (.tmp 0), 22, "l14_delta.go:44", #[⟨18, .guard⟩], some (18, true)⟩) (v := undef) rfl (by kernel_rfl) (by kernel_rfl) (by kernel_rfl) (fun _ _ _ h => h) (Or.inr ⟨by rfl, rfl⟩) (by assumption) ?_
              try simp only [Act.put, List.setIfInBounds_toArray, List.set_cons_zero, List.set_cons_succ]
              refine wpAnyH_take (i := 20) (oi := ⟨some 38, .move (.tmp 10), 3, "l14_delta.go:44", #[⟨18, .guard⟩], some (18, true)⟩) (v := undef) rfl (by kernel_rfl) (by kernel_rfl) (by kernel_rfl) (fun _ _ _ h => h) (Or.inr ⟨by rfl, rfl⟩) (by assumption) ?_
              try simp only [Act.put, List.setIfInBounds_toArray, List.set_cons_zero, List.set_cons_succ]
              refine wpAnyH_take (i := 21) (oi := ⟨some 39, .move (.tmp 11), 3, "l14_delta.go:44", #[⟨18, .guard⟩], some (18, true)⟩) (v := undef) rfl (by kernel_rfl) (by kernel_rfl) (by kernel_rfl) (fun _ _ _ h => h) (Or.inr ⟨by rfl, rfl⟩) (by assumption) ?_
              try simp only [Act.put, List.setIfInBounds_toArray, List.set_cons_zero, List.set_cons_succ]
              refine wpAnyH_take (i := 22) (oi := ⟨some 40, .binOp .add 3 (.tmp 38) (.tmp 39) 3, 3, "l14_delta.go:44", #[⟨20, .data⟩, ⟨21, .data⟩, ⟨18, .guard⟩], some (18, true)⟩) (v := undef) rfl (by kernel_rfl) (by kernel_rfl) (by kernel_rfl) (fun _ _ _ h => h) (Or.inr ⟨by rfl, rfl⟩) (by assumption) ?_
              try simp only [Act.put, List.setIfInBounds_toArray, List.set_cons_zero, List.set_cons_succ]
              refine wpAnyH_take (i := 23) (oi := ⟨some 41, .indexAddr 22 (.tmp 37) (.tmp 40), 0, "l14_delta.go:44", #[⟨19, .data⟩, ⟨22, .data⟩, ⟨18, .guard⟩], some (18, true)⟩) (v := undef) rfl (by kernel_rfl) (by kernel_rfl) (by kernel_rfl) (fun _ _ _ h => h) (Or.inr ⟨by rfl, rfl⟩) (by assumption) ?_
              try simp only [Act.put, List.setIfInBounds_toArray, List.set_cons_zero, List.set_cons_succ]
              refine wpAnyH_take (i := 24) (oi := ⟨some 42, .load 5 (.tmp 41), 5, "l14_delta.go:44", #[⟨23, .data⟩, ⟨18, .guard⟩], some (18, true)⟩) (v := undef) rfl (by kernel_rfl) (by kernel_rfl) (by kernel_rfl) (fun _ _ _ h => h) (Or.inr ⟨by rfl, rfl⟩) (by assumption) ?_
              try simp only [Act.put, List.setIfInBounds_toArray, List.set_cons_zero, List.set_cons_succ]
              refine wpAnyH_take (i := 25) (oi := ⟨some 43, .move (.tmp 1), 22, "l14_delta.go:44", #[⟨18, .guard⟩], some (18, true)⟩) (v := undef) rfl (by kernel_rfl) (by kernel_rfl) (by kernel_rfl) (fun _ _ _ h => h) (Or.inr ⟨by rfl, rfl⟩) (by assumption) ?_
              try simp only [Act.put, List.setIfInBounds_toArray, List.set_cons_zero, List.set_cons_succ]
              refine wpAnyH_take (i := 26) (oi := ⟨some 44, .move (.tmp 2), 3, "l14_delta.go:44", #[⟨18, .guard⟩], some (18, true)⟩) (v := undef) rfl (by kernel_rfl) (by kernel_rfl) (by kernel_rfl) (fun _ _ _ h => h) (Or.inr ⟨by rfl, rfl⟩) (by assumption) ?_
              try simp only [Act.put, List.setIfInBounds_toArray, List.set_cons_zero, List.set_cons_succ]
              refine wpAnyH_take (i := 27) (oi := ⟨some 45, .move (.tmp 11), 3, "l14_delta.go:44", #[⟨18, .guard⟩], some (18, true)⟩) (v := undef) rfl (by kernel_rfl) (by kernel_rfl) (by kernel_rfl) (fun _ _ _ h => h) (Or.inr ⟨by rfl, rfl⟩) (by assumption) ?_
              try simp only [Act.put, List.setIfInBounds_toArray, List.set_cons_zero, List.set_cons_succ]
              refine wpAnyH_take (i := 28) (oi := ⟨some 46, .binOp .add 3 (.tmp 44) (.tmp 45) 3, 3, "l14_delta.go:44", #[⟨26, .data⟩, ⟨27, .data⟩, ⟨18, .guard⟩], some (18, true)⟩) (v := undef) rfl (by kernel_rfl) (by kernel_rfl) (by kernel_rfl) (fun _ _ _ h => h) (Or.inr ⟨by rfl, rfl⟩) (by assumption) ?_
              try simp only [Act.put, List.setIfInBounds_toArray, List.set_cons_zero, List.set_cons_succ]
              refine wpAnyH_take (i := 29) (oi := ⟨some 47, .indexAddr 22 (.tmp 43) (.tmp 46), 0, "l14_delta.go:44", #[⟨25, .data⟩, ⟨28, .data⟩, ⟨18, .guard⟩], some (18, true)⟩) (v := undef) rfl (by kernel_rfl) (by kernel_rfl) (by kernel_rfl) (fun _ _ _ h => h) (Or.inr ⟨by rfl, rfl⟩) (by assumption) ?_
              try simp only [Act.put, List.setIfInBounds_toArray, List.set_cons_zero, List.set_cons_succ]
              refine wpAnyH_take (i := 30) (oi := ⟨some 48, .load 5 (.tmp 47), 5, "l14_delta.go:44", #[⟨29, .data⟩, ⟨18, .guard⟩], some (18, true)⟩) (v := undef) rfl (by kernel_rfl) (by kernel_rfl) (by kernel_rfl) (fun _ _ _ h => h) (Or.inr ⟨by rfl, rfl⟩) (by assumption) ?_
              try simp only [Act.put, List.setIfInBounds_toArray, List.set_cons_zero, List.set_cons_succ]
              refine wpAnyH_take (i := 31) (oi := ⟨some 49, .binOp .eql 5 (.tmp 42) (.tmp 48) 5, 4, "l14_delta.go:44", #[⟨24, .data⟩, ⟨30, .data⟩, ⟨18, .guard⟩], some (18, true)⟩) (v := undef) rfl (by kernel_rfl) (by kernel_rfl) (by kernel_rfl) (fun _ _ _ h => h) (Or.inr ⟨by rfl, rfl⟩) (by assumption) ?_
              try simp only [Act.put, List.setIfInBounds_toArray, List.set_cons_zero, List.set_cons_succ]
              refine wpAnyH_take (i := 32) (oi := ⟨some 50, .pick (.tmp 36) (.tmp 49) (.const (.bool false)), 4, "l14_delta.go:44", #[⟨18, .data⟩, ⟨31, .data⟩], none⟩) (v := ?v86) rfl (by kernel_rfl) (by kernel_rfl) (by kernel_rfl) (fun _ _ _ h => h) (Or.inl ⟨by rfl, ?hy86⟩) (by assumption) ?r86
              case hy86 => (intro w hSw; (try dsimp only at hSw); go_simp; try with_reducible rfl)
              try simp only [Act.put, List.setIfInBounds_toArray, List.set_cons_zero, List.set_cons_succ]
              refine wpAnyH_done (by kernel_rfl) ?_ _
              by_cases hgt : be < n
              · have hgt' : (be : Int) < (n : Int) := by omega
                go_wp2_with fail
                go_roundw
                case rel => exact ⟨i + 1, by omega, by go_num, by rw [HFD.out, HE.out, if_pos (by rw [← HEQ.out]; exact hgt), ← HEQ.out], by rw [HFD.out, HE.out, if_pos (by rw [← HEQ.out]; exact hgt)], HBQ.out.drew⟩
                case measure => simp [intOf]; omega
              · have hgt' : ¬ (be : Int) < (n : Int) := by omega
                go_wp2_with fail
                go_roundw
                case rel => exact ⟨i + 1, by omega, by go_num, by rw [HFD.out, HE.out, if_neg (by rw [← HEQ.out]; exact hgt)], by rw [HFD.out, HE.out, if_neg (by rw [← HEQ.out]; exact hgt)], HBQ.out.drew⟩
                case measure => simp [intOf]; omega
          · have h2' : ¬ (i : Int) + (n : Int) < (on : Int) := by omega
            have h2d : decide ((i : Int) + (n : Int) < (on : Int)) = false := decide_eq_false h2'
            have HEQ : Hid (n = ml old (fresh.drop at_) i) := HLAST.out (fun h => by obtain ⟨_, q, _⟩ := hst.1 h; rw [HON.out] at q; exact h2 q)
            clear hst
            go_wp2_with fail
            refine wp_region_held_drew (S := fun w' => True) (by kernel_rfl) (HS.out) (fun hHeld => ?_)
            refine wpAnyH_take (i := 0) (oi := ⟨some 18, .move (.tmp 11), 3, "l14_delta.go:44", #[], none⟩) (v := ?v87) rfl (by kernel_rfl) (by kernel_rfl) (by kernel_rfl) (fun _ _ _ h => h) (Or.inl ⟨by rfl, ?hy87⟩) (by assumption) ?r87
            case hy87 => (intro w hSw; (try dsimp only at hSw); go_simp; try with_reducible rfl)
            try simp only [Act.put, List.setIfInBounds_toArray, List.set_cons_zero, List.set_cons_succ]
            refine wpAnyH_take (i := 1) (oi := ⟨some 19, .binOp .lss 3 (.tmp 18) (.const (.int .i64 1000)) 3, 4, "l14_delta.go:44", #[⟨0, .data⟩], none⟩) (v := ?v88) rfl (by kernel_rfl) (by kernel_rfl) (by kernel_rfl) (fun _ _ _ h => h) (Or.inl ⟨by rfl, ?hy88⟩) (by assumption) ?r88
            case hy88 => (intro w hSw; (try dsimp only at hSw); go_simp; try with_reducible rfl)
            try simp only [Act.put, List.setIfInBounds_toArray, List.set_cons_zero, List.set_cons_succ]
            refine wpAnyH_take (i := 2) (oi := ⟨some 20, .move (.tmp 19), 4, "l14_delta.go:44", #[⟨1, .data⟩], none⟩) (v := ?v89) rfl (by kernel_rfl) (by kernel_rfl) (by kernel_rfl) (fun _ _ _ h => h) (Or.inl ⟨by rfl, ?hy89⟩) (by assumption) ?r89
            case hy89 => (intro w hSw; (try dsimp only at hSw); go_simp; try with_reducible rfl)
            try simp only [Act.put, List.setIfInBounds_toArray, List.set_cons_zero, List.set_cons_succ]
            refine wpAnyH_take (i := 3) (oi := ⟨some 21, .move (.tmp 10), 3, "l14_delta.go:44", #[⟨2, .guard⟩], some (2, true)⟩) (v := ?v90) rfl (by kernel_rfl) (by kernel_rfl) (by kernel_rfl) (fun _ _ _ h => h) (Or.inl ⟨by rfl, ?hy90⟩) (by assumption) ?r90
            case hy90 => (intro w hSw; (try dsimp only at hSw); go_simp; try with_reducible rfl)
            try simp only [Act.put, List.setIfInBounds_toArray, List.set_cons_zero, List.set_cons_succ]
            refine wpAnyH_take (i := 4) (oi := ⟨some 22, .move (.tmp 11), 3, "l14_delta.go:44", #[⟨2, .guard⟩], some (2, true)⟩) (v := ?v91) rfl (by kernel_rfl) (by kernel_rfl) (by kernel_rfl) (fun _ _ _ h => h) (Or.inl ⟨by rfl, ?hy91⟩) (by assumption) ?r91
            case hy91 => (intro w hSw; (try dsimp only at hSw); go_simp; try with_reducible rfl)
            try simp only [Act.put, List.setIfInBounds_toArray, List.set_cons_zero, List.set_cons_succ]
            refine wpAnyH_take (i := 5) (oi := ⟨some 23, .binOp .add 3 (.tmp 21) (.tmp 22) 3, 3, "l14_delta.go:44", #[⟨3, .data⟩, ⟨4, .data⟩, ⟨2, .guard⟩], some (2, true)⟩) (v := ?v92) rfl (by kernel_rfl) (by kernel_rfl) (by kernel_rfl) (fun _ _ _ h => h) (Or.inl ⟨by rfl, ?hy92⟩) (by assumption) ?r92
            case hy92 => (intro w hSw; (try dsimp only at hSw); go_simp; try with_reducible rfl)
            try simp only [Act.put, List.setIfInBounds_toArray, List.set_cons_zero, List.set_cons_succ]
            refine wpAnyH_take (i := 6) (oi := ⟨some 24, .move (.tmp 0), 22, "l14_delta.go:44", #[⟨2, .guard⟩], some (2, true)⟩) (v := ?v93) rfl (by kernel_rfl) (by kernel_rfl) (by kernel_rfl) (fun _ _ _ h => h) (Or.inl ⟨by rfl, ?hy93⟩) (by assumption) ?r93
            case hy93 => (intro w hSw; (try dsimp only at hSw); go_simp; try with_reducible rfl)
            try simp only [Act.put, List.setIfInBounds_toArray, List.set_cons_zero, List.set_cons_succ]
            refine wpAnyH_take (i := 7) (oi := ⟨some 25, .call { callee := .builtin .len, args := #[.tmp 24], argTypes := #[22] }, 3, "l14_delta.go:44", #[⟨6, .data⟩, ⟨2, .guard⟩], some (2, true)⟩) (v := ?v94) rfl (by kernel_rfl) (by kernel_rfl) (by kernel_rfl) (fun _ _ _ h => h) (Or.inl ⟨by rfl, ?hy94⟩) (by assumption) ?r94
            case hy94 => (intro w hSw; (try dsimp only at hSw); go_simp; try with_reducible rfl)
            try simp only [Act.put, List.setIfInBounds_toArray, List.set_cons_zero, List.set_cons_succ]
            refine wpAnyH_take (i := 8) (oi := ⟨some 26, .binOp .lss 3 (.tmp 23) (.tmp 25) 3, 4, "l14_delta.go:44", #[⟨5, .data⟩, ⟨7, .data⟩, ⟨2, .guard⟩], some (2, true)⟩) (v := ?v95) rfl (by kernel_rfl) (by kernel_rfl) (by kernel_rfl) (fun _ _ _ h => h) (Or.inl ⟨by rfl, ?hy95⟩) (by assumption) ?r95
            case hy95 => (intro w hSw; (try dsimp only at hSw); go_simp; try with_reducible rfl)
            try simp only [Act.put, List.setIfInBounds_toArray, List.set_cons_zero, List.set_cons_succ]
            refine wpAnyH_take (i := 9) (oi := ⟨some 27, .pick (.tmp 20) (.tmp 26) (.const (.bool false)), 4, "l14_delta.go:44", #[⟨2, .data⟩, ⟨8, .data⟩], none⟩) (v := ?v96) rfl (by kernel_rfl) (by kernel_rfl) (by kernel_rfl) (fun _ _ _ h => h) (Or.inl ⟨by rfl, ?hy96⟩) (by assumption) ?r96
            case hy96 => (intro w hSw; (try dsimp only at hSw); go_simp; try with_reducible rfl)
            try simp only [Act.put, List.setIfInBounds_toArray, List.set_cons_zero, List.set_cons_succ]
            refine wpAnyH_take (i := 10) (oi := ⟨some 28, .move (.tmp 27), 4, "l14_delta.go:44", #[⟨9, .data⟩, ⟨2, .chain⟩], none⟩) (v := ?v97) rfl (by kernel_rfl) (by kernel_rfl) (by kernel_rfl) (fun _ _ _ h => h) (Or.inl ⟨by rfl, ?hy97⟩) (by assumption) ?r97
            case hy97 => (intro w hSw; (try dsimp only at hSw); go_simp; try with_reducible rfl)
            try simp only [Act.put, List.setIfInBounds_toArray, List.set_cons_zero, List.set_cons_succ]
            refine wpAnyH_take (i := 11) (oi := ⟨some 29, .move (.tmp 2), 3, "l14_delta.go:44", #[⟨10, .guard⟩], some (10, true)⟩) (v := undef) rfl (by kernel_rfl) (by kernel_rfl) (by kernel_rfl) (fun _ _ _ h => h) (Or.inr ⟨by rfl, rfl⟩) (by assumption) ?_
            try simp only [Act.put, List.setIfInBounds_toArray, List.set_cons_zero, List.set_cons_succ]
            refine wpAnyH_take (i := 12) (oi := ⟨some 30, .move (.tmp 11), 3, "l14_delta.go:44", #[⟨10, .guard⟩], some (10, true)⟩) (v := undef) rfl (by kernel_rfl) (by kernel_rfl) (by kernel_rfl) (fun _ _ _ h => h) (Or.inr ⟨by rfl, rfl⟩) (by assumption) ?_
            try simp only [Act.put, List.setIfInBounds_toArray, List.set_cons_zero, List.set_cons_succ]
            refine wpAnyH_take (i := 13) (oi := ⟨some 31, .binOp .add 3 (.tmp 29) (.tmp 30) 3, 3, "l14_delta.go:44", #[⟨11, .data⟩, ⟨12, .data⟩, ⟨10, .guard⟩], some (10, true)⟩) (v := undef) rfl (by kernel_rfl) (by kernel_rfl) (by kernel_rfl) (fun _ _ _ h => h) (Or.inr ⟨by rfl, rfl⟩) (by assumption) ?_
            try simp only [Act.put, List.setIfInBounds_toArray, List.set_cons_zero, List.set_cons_succ]
            refine wpAnyH_take (i := 14) (oi := ⟨some 32, .move (.tmp 1), 22, "l14_delta.go:44", #[⟨10, .guard⟩], some (10, true)⟩) (v := undef) rfl (by kernel_rfl) (by kernel_rfl) (by kernel_rfl) (fun _ _ _ h => h) (Or.inr ⟨by rfl, rfl⟩) (by assumption) ?_
            try simp only [Act.put, List.setIfInBounds_toArray, List.set_cons_zero, List.set_cons_succ]
            refine wpAnyH_take (i := 15) (oi := ⟨some 33, .call { callee := .builtin .len, args := #[.tmp 32], argTypes := #[22] }, 3, "l14_delta.go:44", #[⟨14, .data⟩, ⟨10, .guard⟩], some (10, true)⟩) (v := undef) rfl (by kernel_rfl) (by kernel_rfl) (by kernel_rfl) (fun _ _ _ h => h) (Or.inr ⟨by rfl, rfl⟩) (by assumption) ?_
            try simp only [Act.put, List.setIfInBounds_toArray, List.set_cons_zero, List.set_cons_succ]
            refine wpAnyH_take (i := 16) (oi := ⟨some 34, .binOp .lss 3 (.tmp 31) (.tmp 33) 3, 4, "l14_delta.go:44", #[⟨13, .data⟩, ⟨15, .data⟩, ⟨10, .guard⟩], some (10, true)⟩) (v := undef) rfl (by kernel_rfl) (by kernel_rfl) (by kernel_rfl) (fun _ _ _ h => h) (Or.inr ⟨by rfl, rfl⟩) (by assumption) ?_
            try simp only [Act.put, List.setIfInBounds_toArray, List.set_cons_zero, List.set_cons_succ]
            refine wpAnyH_take (i := 17) (oi := ⟨some 35, .pick (.tmp 28) (.tmp 34) (.const (.bool false)), 4, "l14_delta.go:44", #[⟨10, .data⟩, ⟨16, .data⟩], none⟩) (v := ?v98) rfl (by kernel_rfl) (by kernel_rfl) (by kernel_rfl) (fun _ _ _ h => h) (Or.inl ⟨by rfl, ?hy98⟩) (by assumption) ?r98
            case hy98 => (intro w hSw; (try dsimp only at hSw); go_simp; try with_reducible rfl)
            try simp only [Act.put, List.setIfInBounds_toArray, List.set_cons_zero, List.set_cons_succ]
            refine wpAnyH_take (i := 18) (oi := ⟨some 36, .move (.tmp 35), 4, "l14_delta.go:44", #[⟨17, .data⟩, ⟨10, .chain⟩], none⟩) (v := ?v99) rfl (by kernel_rfl) (by kernel_rfl) (by kernel_rfl) (fun _ _ _ h => h) (Or.inl ⟨by rfl, ?hy99⟩) (by assumption) ?r99
            case hy99 => (intro w hSw; (try dsimp only at hSw); go_simp; try with_reducible rfl)
            try simp only [Act.put, List.setIfInBounds_toArray, List.set_cons_zero, List.set_cons_succ]
            refine wpAnyH_take (i := 19) (oi := ⟨some 37, .move (.tmp 0), 22, "l14_delta.go:44", #[⟨18, .guard⟩], some (18, true)⟩) (v := undef) rfl (by kernel_rfl) (by kernel_rfl) (by kernel_rfl) (fun _ _ _ h => h) (Or.inr ⟨by rfl, rfl⟩) (by assumption) ?_
            try simp only [Act.put, List.setIfInBounds_toArray, List.set_cons_zero, List.set_cons_succ]
            refine wpAnyH_take (i := 20) (oi := ⟨some 38, .move (.tmp 10), 3, "l14_delta.go:44", #[⟨18, .guard⟩], some (18, true)⟩) (v := undef) rfl (by kernel_rfl) (by kernel_rfl) (by kernel_rfl) (fun _ _ _ h => h) (Or.inr ⟨by rfl, rfl⟩) (by assumption) ?_
            try simp only [Act.put, List.setIfInBounds_toArray, List.set_cons_zero, List.set_cons_succ]
            refine wpAnyH_take (i := 21) (oi := ⟨some 39, .move (.tmp 11), 3, "l14_delta.go:44", #[⟨18, .guard⟩], some (18, true)⟩) (v := undef) rfl (by kernel_rfl) (by kernel_rfl) (by kernel_rfl) (fun _ _ _ h => h) (Or.inr ⟨by rfl, rfl⟩) (by assumption) ?_
            try simp only [Act.put, List.setIfInBounds_toArray, List.set_cons_zero, List.set_cons_succ]
            refine wpAnyH_take (i := 22) (oi := ⟨some 40, .binOp .add 3 (.tmp 38) (.tmp 39) 3, 3, "l14_delta.go:44", #[⟨20, .data⟩, ⟨21, .data⟩, ⟨18, .guard⟩], some (18, true)⟩) (v := undef) rfl (by kernel_rfl) (by kernel_rfl) (by kernel_rfl) (fun _ _ _ h => h) (Or.inr ⟨by rfl, rfl⟩) (by assumption) ?_
            try simp only [Act.put, List.setIfInBounds_toArray, List.set_cons_zero, List.set_cons_succ]
            refine wpAnyH_take (i := 23) (oi := ⟨some 41, .indexAddr 22 (.tmp 37) (.tmp 40), 0, "l14_delta.go:44", #[⟨19, .data⟩, ⟨22, .data⟩, ⟨18, .guard⟩], some (18, true)⟩) (v := undef) rfl (by kernel_rfl) (by kernel_rfl) (by kernel_rfl) (fun _ _ _ h => h) (Or.inr ⟨by rfl, rfl⟩) (by assumption) ?_
            try simp only [Act.put, List.setIfInBounds_toArray, List.set_cons_zero, List.set_cons_succ]
            refine wpAnyH_take (i := 24) (oi := ⟨some 42, .load 5 (.tmp 41), 5, "l14_delta.go:44", #[⟨23, .data⟩, ⟨18, .guard⟩], some (18, true)⟩) (v := undef) rfl (by kernel_rfl) (by kernel_rfl) (by kernel_rfl) (fun _ _ _ h => h) (Or.inr ⟨by rfl, rfl⟩) (by assumption) ?_
            try simp only [Act.put, List.setIfInBounds_toArray, List.set_cons_zero, List.set_cons_succ]
            refine wpAnyH_take (i := 25) (oi := ⟨some 43, .move (.tmp 1), 22, "l14_delta.go:44", #[⟨18, .guard⟩], some (18, true)⟩) (v := undef) rfl (by kernel_rfl) (by kernel_rfl) (by kernel_rfl) (fun _ _ _ h => h) (Or.inr ⟨by rfl, rfl⟩) (by assumption) ?_
            try simp only [Act.put, List.setIfInBounds_toArray, List.set_cons_zero, List.set_cons_succ]
            refine wpAnyH_take (i := 26) (oi := ⟨some 44, .move (.tmp 2), 3, "l14_delta.go:44", #[⟨18, .guard⟩], some (18, true)⟩) (v := undef) rfl (by kernel_rfl) (by kernel_rfl) (by kernel_rfl) (fun _ _ _ h => h) (Or.inr ⟨by rfl, rfl⟩) (by assumption) ?_
            try simp only [Act.put, List.setIfInBounds_toArray, List.set_cons_zero, List.set_cons_succ]
            refine wpAnyH_take (i := 27) (oi := ⟨some 45, .move (.tmp 11), 3, "l14_delta.go:44", #[⟨18, .guard⟩], some (18, true)⟩) (v := undef) rfl (by kernel_rfl) (by kernel_rfl) (by kernel_rfl) (fun _ _ _ h => h) (Or.inr ⟨by rfl, rfl⟩) (by assumption) ?_
            try simp only [Act.put, List.setIfInBounds_toArray, List.set_cons_zero, List.set_cons_succ]
            refine wpAnyH_take (i := 28) (oi := ⟨some 46, .binOp .add 3 (.tmp 44) (.tmp 45) 3, 3, "l14_delta.go:44", #[⟨26, .data⟩, ⟨27, .data⟩, ⟨18, .guard⟩], some (18, true)⟩) (v := undef) rfl (by kernel_rfl) (by kernel_rfl) (by kernel_rfl) (fun _ _ _ h => h) (Or.inr ⟨by rfl, rfl⟩) (by assumption) ?_
            try simp only [Act.put, List.setIfInBounds_toArray, List.set_cons_zero, List.set_cons_succ]
            refine wpAnyH_take (i := 29) (oi := ⟨some 47, .indexAddr 22 (.tmp 43) (.tmp 46), 0, "l14_delta.go:44", #[⟨25, .data⟩, ⟨28, .data⟩, ⟨18, .guard⟩], some (18, true)⟩) (v := undef) rfl (by kernel_rfl) (by kernel_rfl) (by kernel_rfl) (fun _ _ _ h => h) (Or.inr ⟨by rfl, rfl⟩) (by assumption) ?_
            try simp only [Act.put, List.setIfInBounds_toArray, List.set_cons_zero, List.set_cons_succ]
            refine wpAnyH_take (i := 30) (oi := ⟨some 48, .load 5 (.tmp 47), 5, "l14_delta.go:44", #[⟨29, .data⟩, ⟨18, .guard⟩], some (18, true)⟩) (v := undef) rfl (by kernel_rfl) (by kernel_rfl) (by kernel_rfl) (fun _ _ _ h => h) (Or.inr ⟨by rfl, rfl⟩) (by assumption) ?_
            try simp only [Act.put, List.setIfInBounds_toArray, List.set_cons_zero, List.set_cons_succ]
            refine wpAnyH_take (i := 31) (oi := ⟨some 49, .binOp .eql 5 (.tmp 42) (.tmp 48) 5, 4, "l14_delta.go:44", #[⟨24, .data⟩, ⟨30, .data⟩, ⟨18, .guard⟩], some (18, true)⟩) (v := undef) rfl (by kernel_rfl) (by kernel_rfl) (by kernel_rfl) (fun _ _ _ h => h) (Or.inr ⟨by rfl, rfl⟩) (by assumption) ?_
            try simp only [Act.put, List.setIfInBounds_toArray, List.set_cons_zero, List.set_cons_succ]
            refine wpAnyH_take (i := 32) (oi := ⟨some 50, .pick (.tmp 36) (.tmp 49) (.const (.bool false)), 4, "l14_delta.go:44", #[⟨18, .data⟩, ⟨31, .data⟩], none⟩) (v := ?v100) rfl (by kernel_rfl) (by kernel_rfl) (by kernel_rfl) (fun _ _ _ h => h) (Or.inl ⟨by rfl, ?hy100⟩) (by assumption) ?r100
            case hy100 => (intro w hSw; (try dsimp only at hSw); go_simp; try with_reducible rfl)
            try simp only [Act.put, List.setIfInBounds_toArray, List.set_cons_zero, List.set_cons_succ]
            refine wpAnyH_done (by kernel_rfl) ?_ _
            by_cases hgt : be < n
            · have hgt' : (be : Int) < (n : Int) := by omega
              go_wp2_with fail
              go_roundw
              case rel => exact ⟨i + 1, by omega, by go_num, by rw [HFD.out, HE.out, if_pos (by rw [← HEQ.out]; exact hgt), ← HEQ.out], by rw [HFD.out, HE.out, if_pos (by rw [← HEQ.out]; exact hgt)], HBQ.out.drew⟩
              case measure => simp [intOf]; omega
            · have hgt' : ¬ (be : Int) < (n : Int) := by omega
              go_wp2_with fail
              go_roundw
              case rel => exact ⟨i + 1, by omega, by go_num, by rw [HFD.out, HE.out, if_neg (by rw [← HEQ.out]; exact hgt)], by rw [HFD.out, HE.out, if_neg (by rw [← HEQ.out]; exact hgt)], HBQ.out.drew⟩
              case measure => simp [intOf]; omega
        · have h1' : ¬ (n : Int) < 1000 := by omega
          have h1d : decide ((n : Int) < 1000) = false := decide_eq_false h1'
          have HEQ : Hid (n = ml old (fresh.drop at_) i) := HLAST.out (fun h => by have := (hst.1 h).1; omega)
          clear hst
          go_wp2_with fail
          refine wp_region_held_drew (S := fun w' => True) (by kernel_rfl) (HS.out) (fun hHeld => ?_)
          refine wpAnyH_take (i := 0) (oi := ⟨some 18, .move (.tmp 11), 3, "l14_delta.go:44", #[], none⟩) (v := ?v101) rfl (by kernel_rfl) (by kernel_rfl) (by kernel_rfl) (fun _ _ _ h => h) (Or.inl ⟨by rfl, ?hy101⟩) (by assumption) ?r101
          case hy101 => (intro w hSw; (try dsimp only at hSw); go_simp; try with_reducible rfl)
          try simp only [Act.put, List.setIfInBounds_toArray, List.set_cons_zero, List.set_cons_succ]
          refine wpAnyH_take (i := 1) (oi := ⟨some 19, .binOp .lss 3 (.tmp 18) (.const (.int .i64 1000)) 3, 4, "l14_delta.go:44", #[⟨0, .data⟩], none⟩) (v := ?v102) rfl (by kernel_rfl) (by kernel_rfl) (by kernel_rfl) (fun _ _ _ h => h) (Or.inl ⟨by rfl, ?hy102⟩) (by assumption) ?r102
          case hy102 => (intro w hSw; (try dsimp only at hSw); go_simp; try with_reducible rfl)
          try simp only [Act.put, List.setIfInBounds_toArray, List.set_cons_zero, List.set_cons_succ]
          refine wpAnyH_take (i := 2) (oi := ⟨some 20, .move (.tmp 19), 4, "l14_delta.go:44", #[⟨1, .data⟩], none⟩) (v := ?v103) rfl (by kernel_rfl) (by kernel_rfl) (by kernel_rfl) (fun _ _ _ h => h) (Or.inl ⟨by rfl, ?hy103⟩) (by assumption) ?r103
          case hy103 => (intro w hSw; (try dsimp only at hSw); go_simp; try with_reducible rfl)
          try simp only [Act.put, List.setIfInBounds_toArray, List.set_cons_zero, List.set_cons_succ]
          refine wpAnyH_take (i := 3) (oi := ⟨some 21, .move (.tmp 10), 3, "l14_delta.go:44", #[⟨2, .guard⟩], some (2, true)⟩) (v := undef) rfl (by kernel_rfl) (by kernel_rfl) (by kernel_rfl) (fun _ _ _ h => h) (Or.inr ⟨by rfl, rfl⟩) (by assumption) ?_
          try simp only [Act.put, List.setIfInBounds_toArray, List.set_cons_zero, List.set_cons_succ]
          refine wpAnyH_take (i := 4) (oi := ⟨some 22, .move (.tmp 11), 3, "l14_delta.go:44", #[⟨2, .guard⟩], some (2, true)⟩) (v := undef) rfl (by kernel_rfl) (by kernel_rfl) (by kernel_rfl) (fun _ _ _ h => h) (Or.inr ⟨by rfl, rfl⟩) (by assumption) ?_
          try simp only [Act.put, List.setIfInBounds_toArray, List.set_cons_zero, List.set_cons_succ]
          refine wpAnyH_take (i := 5) (oi := ⟨some 23, .binOp .add 3 (.tmp 21) (.tmp 22) 3, 3, "l14_delta.go:44", #[⟨3, .data⟩, ⟨4, .data⟩, ⟨2, .guard⟩], some (2, true)⟩) (v := undef) rfl (by kernel_rfl) (by kernel_rfl) (by kernel_rfl) (fun _ _ _ h => h) (Or.inr ⟨by rfl, rfl⟩) (by assumption) ?_
          try simp only [Act.put, List.setIfInBounds_toArray, List.set_cons_zero, List.set_cons_succ]
          refine wpAnyH_take (i := 6) (oi := ⟨some 24, .move (.tmp 0), 22, "l14_delta.go:44", #[⟨2, .guard⟩], some (2, true)⟩) (v := undef) rfl (by kernel_rfl) (by kernel_rfl) (by kernel_rfl) (fun _ _ _ h => h) (Or.inr ⟨by rfl, rfl⟩) (by assumption) ?_
          try simp only [Act.put, List.setIfInBounds_toArray, List.set_cons_zero, List.set_cons_succ]
          refine wpAnyH_take (i := 7) (oi := ⟨some 25, .call { callee := .builtin .len, args := #[.tmp 24], argTypes := #[22] }, 3, "l14_delta.go:44", #[⟨6, .data⟩, ⟨2, .guard⟩], some (2, true)⟩) (v := undef) rfl (by kernel_rfl) (by kernel_rfl) (by kernel_rfl) (fun _ _ _ h => h) (Or.inr ⟨by rfl, rfl⟩) (by assumption) ?_
          try simp only [Act.put, List.setIfInBounds_toArray, List.set_cons_zero, List.set_cons_succ]
          refine wpAnyH_take (i := 8) (oi := ⟨some 26, .binOp .lss 3 (.tmp 23) (.tmp 25) 3, 4, "l14_delta.go:44", #[⟨5, .data⟩, ⟨7, .data⟩, ⟨2, .guard⟩], some (2, true)⟩) (v := undef) rfl (by kernel_rfl) (by kernel_rfl) (by kernel_rfl) (fun _ _ _ h => h) (Or.inr ⟨by rfl, rfl⟩) (by assumption) ?_
          try simp only [Act.put, List.setIfInBounds_toArray, List.set_cons_zero, List.set_cons_succ]
          refine wpAnyH_take (i := 9) (oi := ⟨some 27, .pick (.tmp 20) (.tmp 26) (.const (.bool false)), 4, "l14_delta.go:44", #[⟨2, .data⟩, ⟨8, .data⟩], none⟩) (v := ?v104) rfl (by kernel_rfl) (by kernel_rfl) (by kernel_rfl) (fun _ _ _ h => h) (Or.inl ⟨by rfl, ?hy104⟩) (by assumption) ?r104
          case hy104 => (intro w hSw; (try dsimp only at hSw); go_simp; try with_reducible rfl)
          try simp only [Act.put, List.setIfInBounds_toArray, List.set_cons_zero, List.set_cons_succ]
          refine wpAnyH_take (i := 10) (oi := ⟨some 28, .move (.tmp 27), 4, "l14_delta.go:44", #[⟨9, .data⟩, ⟨2, .chain⟩], none⟩) (v := ?v105) rfl (by kernel_rfl) (by kernel_rfl) (by kernel_rfl) (fun _ _ _ h => h) (Or.inl ⟨by rfl, ?hy105⟩) (by assumption) ?r105
          case hy105 => (intro w hSw; (try dsimp only at hSw); go_simp; try with_reducible rfl)
          try simp only [Act.put, List.setIfInBounds_toArray, List.set_cons_zero, List.set_cons_succ]
          refine wpAnyH_take (i := 11) (oi := ⟨some 29, .move (.tmp 2), 3, "l14_delta.go:44", #[⟨10, .guard⟩], some (10, true)⟩) (v := undef) rfl (by kernel_rfl) (by kernel_rfl) (by kernel_rfl) (fun _ _ _ h => h) (Or.inr ⟨by rfl, rfl⟩) (by assumption) ?_
          try simp only [Act.put, List.setIfInBounds_toArray, List.set_cons_zero, List.set_cons_succ]
          refine wpAnyH_take (i := 12) (oi := ⟨some 30, .move (.tmp 11), 3, "l14_delta.go:44", #[⟨10, .guard⟩], some (10, true)⟩) (v := undef) rfl (by kernel_rfl) (by kernel_rfl) (by kernel_rfl) (fun _ _ _ h => h) (Or.inr ⟨by rfl, rfl⟩) (by assumption) ?_
          try simp only [Act.put, List.setIfInBounds_toArray, List.set_cons_zero, List.set_cons_succ]
          refine wpAnyH_take (i := 13) (oi := ⟨some 31, .binOp .add 3 (.tmp 29) (.tmp 30) 3, 3, "l14_delta.go:44", #[⟨11, .data⟩, ⟨12, .data⟩, ⟨10, .guard⟩], some (10, true)⟩) (v := undef) rfl (by kernel_rfl) (by kernel_rfl) (by kernel_rfl) (fun _ _ _ h => h) (Or.inr ⟨by rfl, rfl⟩) (by assumption) ?_
          try simp only [Act.put, List.setIfInBounds_toArray, List.set_cons_zero, List.set_cons_succ]
          refine wpAnyH_take (i := 14) (oi := ⟨some 32, .move (.tmp 1), 22, "l14_delta.go:44", #[⟨10, .guard⟩], some (10, true)⟩) (v := undef) rfl (by kernel_rfl) (by kernel_rfl) (by kernel_rfl) (fun _ _ _ h => h) (Or.inr ⟨by rfl, rfl⟩) (by assumption) ?_
          try simp only [Act.put, List.setIfInBounds_toArray, List.set_cons_zero, List.set_cons_succ]
          refine wpAnyH_take (i := 15) (oi := ⟨some 33, .call { callee := .builtin .len, args := #[.tmp 32], argTypes := #[22] }, 3, "l14_delta.go:44", #[⟨14, .data⟩, ⟨10, .guard⟩], some (10, true)⟩) (v := undef) rfl (by kernel_rfl) (by kernel_rfl) (by kernel_rfl) (fun _ _ _ h => h) (Or.inr ⟨by rfl, rfl⟩) (by assumption) ?_
          try simp only [Act.put, List.setIfInBounds_toArray, List.set_cons_zero, List.set_cons_succ]
          refine wpAnyH_take (i := 16) (oi := ⟨some 34, .binOp .lss 3 (.tmp 31) (.tmp 33) 3, 4, "l14_delta.go:44", #[⟨13, .data⟩, ⟨15, .data⟩, ⟨10, .guard⟩], some (10, true)⟩) (v := undef) rfl (by kernel_rfl) (by kernel_rfl) (by kernel_rfl) (fun _ _ _ h => h) (Or.inr ⟨by rfl, rfl⟩) (by assumption) ?_
          try simp only [Act.put, List.setIfInBounds_toArray, List.set_cons_zero, List.set_cons_succ]
          refine wpAnyH_take (i := 17) (oi := ⟨some 35, .pick (.tmp 28) (.tmp 34) (.const (.bool false)), 4, "l14_delta.go:44", #[⟨10, .data⟩, ⟨16, .data⟩], none⟩) (v := ?v106) rfl (by kernel_rfl) (by kernel_rfl) (by kernel_rfl) (fun _ _ _ h => h) (Or.inl ⟨by rfl, ?hy106⟩) (by assumption) ?r106
          case hy106 => (intro w hSw; (try dsimp only at hSw); go_simp; try with_reducible rfl)
          try simp only [Act.put, List.setIfInBounds_toArray, List.set_cons_zero, List.set_cons_succ]
          refine wpAnyH_take (i := 18) (oi := ⟨some 36, .move (.tmp 35), 4, "l14_delta.go:44", #[⟨17, .data⟩, ⟨10, .chain⟩], none⟩) (v := ?v107) rfl (by kernel_rfl) (by kernel_rfl) (by kernel_rfl) (fun _ _ _ h => h) (Or.inl ⟨by rfl, ?hy107⟩) (by assumption) ?r107
          case hy107 => (intro w hSw; (try dsimp only at hSw); go_simp; try with_reducible rfl)
          try simp only [Act.put, List.setIfInBounds_toArray, List.set_cons_zero, List.set_cons_succ]
          refine wpAnyH_take (i := 19) (oi := ⟨some 37, .move (.tmp 0), 22, "l14_delta.go:44", #[⟨18, .guard⟩], some (18, true)⟩) (v := undef) rfl (by kernel_rfl) (by kernel_rfl) (by kernel_rfl) (fun _ _ _ h => h) (Or.inr ⟨by rfl, rfl⟩) (by assumption) ?_
          try simp only [Act.put, List.setIfInBounds_toArray, List.set_cons_zero, List.set_cons_succ]
          refine wpAnyH_take (i := 20) (oi := ⟨some 38, .move (.tmp 10), 3, "l14_delta.go:44", #[⟨18, .guard⟩], some (18, true)⟩) (v := undef) rfl (by kernel_rfl) (by kernel_rfl) (by kernel_rfl) (fun _ _ _ h => h) (Or.inr ⟨by rfl, rfl⟩) (by assumption) ?_
          try simp only [Act.put, List.setIfInBounds_toArray, List.set_cons_zero, List.set_cons_succ]
          refine wpAnyH_take (i := 21) (oi := ⟨some 39, .move (.tmp 11), 3, "l14_delta.go:44", #[⟨18, .guard⟩], some (18, true)⟩) (v := undef) rfl (by kernel_rfl) (by kernel_rfl) (by kernel_rfl) (fun _ _ _ h => h) (Or.inr ⟨by rfl, rfl⟩) (by assumption) ?_
          try simp only [Act.put, List.setIfInBounds_toArray, List.set_cons_zero, List.set_cons_succ]
          refine wpAnyH_take (i := 22) (oi := ⟨some 40, .binOp .add 3 (.tmp 38) (.tmp 39) 3, 3, "l14_delta.go:44", #[⟨20, .data⟩, ⟨21, .data⟩, ⟨18, .guard⟩], some (18, true)⟩) (v := undef) rfl (by kernel_rfl) (by kernel_rfl) (by kernel_rfl) (fun _ _ _ h => h) (Or.inr ⟨by rfl, rfl⟩) (by assumption) ?_
          try simp only [Act.put, List.setIfInBounds_toArray, List.set_cons_zero, List.set_cons_succ]
          refine wpAnyH_take (i := 23) (oi := ⟨some 41, .indexAddr 22 (.tmp 37) (.tmp 40), 0, "l14_delta.go:44", #[⟨19, .data⟩, ⟨22, .data⟩, ⟨18, .guard⟩], some (18, true)⟩) (v := undef) rfl (by kernel_rfl) (by kernel_rfl) (by kernel_rfl) (fun _ _ _ h => h) (Or.inr ⟨by rfl, rfl⟩) (by assumption) ?_
          try simp only [Act.put, List.setIfInBounds_toArray, List.set_cons_zero, List.set_cons_succ]
          refine wpAnyH_take (i := 24) (oi := ⟨some 42, .load 5 (.tmp 41), 5, "l14_delta.go:44", #[⟨23, .data⟩, ⟨18, .guard⟩], some (18, true)⟩) (v := undef) rfl (by kernel_rfl) (by kernel_rfl) (by kernel_rfl) (fun _ _ _ h => h) (Or.inr ⟨by rfl, rfl⟩) (by assumption) ?_
          try simp only [Act.put, List.setIfInBounds_toArray, List.set_cons_zero, List.set_cons_succ]
          refine wpAnyH_take (i := 25) (oi := ⟨some 43, .move (.tmp 1), 22, "l14_delta.go:44", #[⟨18, .guard⟩], some (18, true)⟩) (v := undef) rfl (by kernel_rfl) (by kernel_rfl) (by kernel_rfl) (fun _ _ _ h => h) (Or.inr ⟨by rfl, rfl⟩) (by assumption) ?_
          try simp only [Act.put, List.setIfInBounds_toArray, List.set_cons_zero, List.set_cons_succ]
          refine wpAnyH_take (i := 26) (oi := ⟨some 44, .move (.tmp 2), 3, "l14_delta.go:44", #[⟨18, .guard⟩], some (18, true)⟩) (v := undef) rfl (by kernel_rfl) (by kernel_rfl) (by kernel_rfl) (fun _ _ _ h => h) (Or.inr ⟨by rfl, rfl⟩) (by assumption) ?_
          try simp only [Act.put, List.setIfInBounds_toArray, List.set_cons_zero, List.set_cons_succ]
          refine wpAnyH_take (i := 27) (oi := ⟨some 45, .move (.tmp 11), 3, "l14_delta.go:44", #[⟨18, .guard⟩], some (18, true)⟩) (v := undef) rfl (by kernel_rfl) (by kernel_rfl) (by kernel_rfl) (fun _ _ _ h => h) (Or.inr ⟨by rfl, rfl⟩) (by assumption) ?_
          try simp only [Act.put, List.setIfInBounds_toArray, List.set_cons_zero, List.set_cons_succ]
          refine wpAnyH_take (i := 28) (oi := ⟨some 46, .binOp .add 3 (.tmp 44) (.tmp 45) 3, 3, "l14_delta.go:44", #[⟨26, .data⟩, ⟨27, .data⟩, ⟨18, .guard⟩], some (18, true)⟩) (v := undef) rfl (by kernel_rfl) (by kernel_rfl) (by kernel_rfl) (fun _ _ _ h => h) (Or.inr ⟨by rfl, rfl⟩) (by assumption) ?_
          try simp only [Act.put, List.setIfInBounds_toArray, List.set_cons_zero, List.set_cons_succ]
          refine wpAnyH_take (i := 29) (oi := ⟨some 47, .indexAddr 22 (.tmp 43) (.tmp 46), 0, "l14_delta.go:44", #[⟨25, .data⟩, ⟨28, .data⟩, ⟨18, .guard⟩], some (18, true)⟩) (v := undef) rfl (by kernel_rfl) (by kernel_rfl) (by kernel_rfl) (fun _ _ _ h => h) (Or.inr ⟨by rfl, rfl⟩) (by assumption) ?_
          try simp only [Act.put, List.setIfInBounds_toArray, List.set_cons_zero, List.set_cons_succ]
          refine wpAnyH_take (i := 30) (oi := ⟨some 48, .load 5 (.tmp 47), 5, "l14_delta.go:44", #[⟨29, .data⟩, ⟨18, .guard⟩], some (18, true)⟩) (v := undef) rfl (by kernel_rfl) (by kernel_rfl) (by kernel_rfl) (fun _ _ _ h => h) (Or.inr ⟨by rfl, rfl⟩) (by assumption) ?_
          try simp only [Act.put, List.setIfInBounds_toArray, List.set_cons_zero, List.set_cons_succ]
          refine wpAnyH_take (i := 31) (oi := ⟨some 49, .binOp .eql 5 (.tmp 42) (.tmp 48) 5, 4, "l14_delta.go:44", #[⟨24, .data⟩, ⟨30, .data⟩, ⟨18, .guard⟩], some (18, true)⟩) (v := undef) rfl (by kernel_rfl) (by kernel_rfl) (by kernel_rfl) (fun _ _ _ h => h) (Or.inr ⟨by rfl, rfl⟩) (by assumption) ?_
          try simp only [Act.put, List.setIfInBounds_toArray, List.set_cons_zero, List.set_cons_succ]
          refine wpAnyH_take (i := 32) (oi := ⟨some 50, .pick (.tmp 36) (.tmp 49) (.const (.bool false)), 4, "l14_delta.go:44", #[⟨18, .data⟩, ⟨31, .data⟩], none⟩) (v := ?v108) rfl (by kernel_rfl) (by kernel_rfl) (by kernel_rfl) (fun _ _ _ h => h) (Or.inl ⟨by rfl, ?hy108⟩) (by assumption) ?r108
          case hy108 => (intro w hSw; (try dsimp only at hSw); go_simp; try with_reducible rfl)
          try simp only [Act.put, List.setIfInBounds_toArray, List.set_cons_zero, List.set_cons_succ]
          refine wpAnyH_done (by kernel_rfl) ?_ _
          by_cases hgt : be < n
          · have hgt' : (be : Int) < (n : Int) := by omega
            go_wp2_with fail
            go_roundw
            case rel => exact ⟨i + 1, by omega, by go_num, by rw [HFD.out, HE.out, if_pos (by rw [← HEQ.out]; exact hgt), ← HEQ.out], by rw [HFD.out, HE.out, if_pos (by rw [← HEQ.out]; exact hgt)], HBQ.out.drew⟩
            case measure => simp [intOf]; omega
          · have hgt' : ¬ (be : Int) < (n : Int) := by omega
            go_wp2_with fail
            go_roundw
            case rel => exact ⟨i + 1, by omega, by go_num, by rw [HFD.out, HE.out, if_neg (by rw [← HEQ.out]; exact hgt)], by rw [HFD.out, HE.out, if_neg (by rw [← HEQ.out]; exact hgt)], HBQ.out.drew⟩
            case measure => simp [intOf]; omega
    · have hin' : ¬ (i : Int) < (on : Int) := by omega
      obtain rfl : i = on := by omega
      go_wp2
      go_ret2
      exact ⟨by rw [HE.out]; rfl, HBE.out⟩

end Go.Proofs.Ytogakignaaoklaa.dl
