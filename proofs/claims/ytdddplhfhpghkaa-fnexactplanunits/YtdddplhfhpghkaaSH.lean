import Derived.Test.YtdddplhfhpghkaaSG
namespace Go.Proofs.Ytdddplhfhpghkaa.hp
open Go.ChangeShapes Go.WideShapes Go.ChangeAt Go.RowKit Go.Deep Go.Maps
open Go.Conc (scase rcase)
set_option linter.unusedVariables false
set_option linter.unusedSimpArgs false

/-! ### stand: plainly, and its walk -/

/-- One lack less. -/
def st1 (s : (Nat → Nat) × List Nat) (y : Nat) : (Nat → Nat) × List Nat := (upd s.1 y (s.1 y - 1), if s.1 y - 1 = 0 then s.2 ++ [y] else s.2)
def stA (s : (Nat → Nat) × List Nat) (B : List Nat) : (Nat → Nat) × List Nat := B.foldl st1 s
theorem stA_step (s : (Nat → Nat) × List Nat) {B : List Nat} {j y : Nat} (h : B[j]? = some y) : stA s (B.take (j + 1)) = st1 (stA s (B.take j)) y := by
  unfold stA
  rw [List.take_add_one, h]
  simp

/-- Whom a number stands behind, as it lies. -/
def Bd (U n : Nat) (Lb : Nat → List Nat) (ad : Nat → Option Addr) (cp : Nat → Nat) (w : World) : Prop := ∀ x : Nat, x ≤ n → w.cell? ⟨U, x, none⟩ = some (.slice (ad x) (Lb x).length (cp x)) ∧ ∀ (j y : Nat), (Lb x)[j]? = some y → ∃ g o, ad x = some ⟨g, o, none⟩ ∧ w.cell? ⟨g, o + j, none⟩ = some (.int .i64 (y : Int))

set_option maxRecDepth 100000 in
set_option maxHeartbeats 4000000 in
theorem stand_any {M S A U L C n : Nat} {f : Nat → Nat} {buf hp : List Nat} {v : Value} {Lb : Nat → List Nat} {ad : Nat → Option Addr} {cp : Nat → Nat} (w : World) (h : Sg M S A U L C n f buf hp v w) (hBd : ∀ W, Oth (fun k => k = L ∨ k = C) w W → Bd U n Lb ad cp W) (x : Nat) (hx : x < n) (hn : n ≤ 1000) (hl : (Lb x).length ≤ 1000000)
    (hst : ∀ (j y : Nat), (Lb x)[j]? = some y → y < n ∧ 1 ≤ (stA (f, buf) ((Lb x).take j)).1 y ∧ (stA (f, buf) ((Lb x).take j)).1 y ≤ 1000000 ∧ ((stA (f, buf) ((Lb x).take j)).1 y = 1 → (stA (f, buf) ((Lb x).take j)).2.length < n)) :
    Calls Try.prog 68 #[.pointer (some ⟨S, 0, none⟩), .int .i64 (x : Int)] w fun e w' => e = .returned (.tuple #[]) ∧ Sg M S A U L C n (stA (f, buf) (Lb x)).1 (stA (f, buf) (Lb x)).2 hp v w' ∧ Oth (fun k => k = L ∨ k = C) w w' := by
  have c1 : w.cell? ⟨S, 1, none⟩ = some (.slice (some ⟨U, 0, none⟩) (n + 1) (n + 1)) := h.ho.row.cell (i := 1) (by decide)
  have cx := (hBd w (Oth.refl _ _) x (by omega)).1
  have HEL : Hid (∀ W, Oth (fun k => k = L ∨ k = C) w W → ∀ (j y : Nat), (Lb x)[j]? = some y → ∃ g o, ad x = some ⟨g, o, none⟩ ∧ W.cell? ⟨g, o + j, none⟩ = some (.int .i64 (y : Int))) := fun W hW j y hy => (hBd W hW x (by omega)).2 j y hy
  have HS0 := Lib.hid h
  have HST := Lib.hid hst
  obtain ⟨a, ha⟩ : ∃ a, ad x = a := ⟨_, rfl⟩
  obtain ⟨B, hB⟩ : ∃ B, Lb x = B := ⟨_, rfl⟩
  rw [hB] at hl HST HEL cx ⊢
  rw [ha] at HEL cx
  obtain ⟨m, hm⟩ : ∃ m, B.length = m := ⟨_, rfl⟩
  have HM : Hid (B.length = m) := hm
  rw [hm] at hl cx
  have hx0 : (0 : Int) ≤ (x : Int) := by omega
  have hx' : (x : Int) < (n : Int) + 1 := by omega
  have HTA : Hid (B.take m = B) := by show _ = _; rw [← hm]; exact List.take_length
  clear h hst hBd ha hB hm
  go_enter Try.func68, Try.ntmps68
  go_upto_region 1 with fail
  go_loopw [5, 15] (fun _ jv wr => ∃ j : Nat, jv = .int .i64 (j : Int) ∧ j ≤ m ∧ Sg M S A U L C n (stA (f, buf) (B.take j)).1 (stA (f, buf) (B.take j)).2 hp v wr ∧ Oth (fun k => k = L ∨ k = C) w wr) (fun _ jv _ => m - (intOf jv).toNat)
  case atStart => exact ⟨0, rfl, Nat.zero_le _, HS0.out, Oth.refl _ _⟩
  case round =>
    obtain ⟨j, rfl, hj, hs, ho⟩ := hrel
    have HS := Lib.hid hs
    have HO := Lib.hid ho
    clear hs ho HS0
    by_cases hjm : j < m
    · have hjm' : (j : Int) < (m : Int) := by omega
      have hj0 : (0 : Int) ≤ (j : Int) := by omega
      obtain ⟨y, hy⟩ : ∃ y, B[j]? = some y := ⟨_, List.getElem?_eq_getElem (by rw [HM.out]; exact hjm)⟩
      obtain ⟨g, o, rfl, cy⟩ := HEL.out wr HO.out j y hy
      obtain ⟨h1, h2, h3, h4⟩ := HST.out j y hy
      have HLK := Lib.hid (lack_any wr HS.out y (-1) ((stA (f, buf) (B.take j)).1 y - 1) h1 hn (by omega) (by omega) (fun e => h4 (by omega)))
      have HSE : Hid (upd (stA (f, buf) (B.take j)).1 y ((stA (f, buf) (B.take j)).1 y - 1) = (stA (f, buf) (B.take (j + 1))).1) := by show _ = _; rw [stA_step _ hy]; rfl
      have HSF : Hid ((if (stA (f, buf) (B.take j)).1 y - 1 = 0 then (stA (f, buf) (B.take j)).2 ++ [y] else (stA (f, buf) (B.take j)).2) = (stA (f, buf) (B.take (j + 1))).2) := by show _ = _; rw [stA_step _ hy]; rfl
      rw [HSE.out, HSF.out] at HLK
      have hwj : IntKind.i64.wrap ((j : Int) + 1) = (j : Int) + 1 := by rw [IntKind.wrap_i64]; omega
      clear hy h1 h2 h3 h4 c1 cx HSE HSF
      go_wp2_with (go_at_call 87; refine HLK.out.mono ?_; rintro e w5 ⟨rfl, h51, h52⟩; refine Hid.out ?_)
      refine Lib.hid ?_
      have HS5 := Lib.hid h51
      have HO5 := Lib.hid (HO.out.trans h52)
      clear h51 h52 cy
      go_wp2
      go_roundw
      case rel => exact ⟨j + 1, by go_num, by omega, HS5.out, HO5.out⟩
      case measure => simp [intOf]; omega
    · have hjm' : ¬ (j : Int) < (m : Int) := by omega
      obtain rfl : j = m := by omega
      rw [HTA.out] at HS
      clear c1 cx
      go_wp2
      go_end0
      exact ⟨rfl, HS.out, HO.out⟩

end Go.Proofs.Ytdddplhfhpghkaa.hp
