import Derived.Test.YtheponigjofknaaDoorRows
import Derived.Test.YtheponigjofknaaDoorMB
namespace Go.Proofs.YtheponigjofknaaDoor.mt
open Go.ChangeShapes Go.WideShapes Go.ChangeAt Go.RowKit Go.Deep
open bf
set_option linter.unusedVariables false
set_option linter.unusedSimpArgs false

/-- A row of bytes, or none yet; not the block of the words. -/
def To (base : Nat) (w : World) (v : Value) (L : List UInt8) (b : Nat) : Prop := (v = .slice none 0 0 ∧ L = []) ∨ ∃ g c z, v = .slice (some ⟨g, 0, none⟩) z c ∧ z = L.length ∧ Bf base w g c L ∧ b ≠ g

def RowL (base : Nat) (w : World) (v : Value) (L : List UInt8) (b : Nat) : Prop := ∃ g c z, v = .slice (some ⟨g, 0, none⟩) z c ∧ z = L.length ∧ Bf base w g c L ∧ b ≠ g

theorem info5 : (Tryd.prog.info? 5).map (fun i => (i.zero, i.size, i.bytes)) = some (some (.int .u8 0), 1, 1) := by kernel_rfl

theorem one_at (w : World) (x : UInt8) (V : Int) (e : TypeId) (hV : V = (x.toNat : Int)) : ∀ j u, (byteVals [x])[j]? = some u → (w.alloc (.cells #[.int .u8 V] e)).cell? ((⟨w.heap.size, 0, none⟩ : Addr).add j) = some u := by
  subst hV
  exact one_new w _ e

/-- A line more. -/
def LineR (base : Nat) (w w' : World) (e : Ending) (L : List UInt8) : Prop := ∃ g c z, e = .returned (.slice (some ⟨g, 0, none⟩) z c) ∧ z = L.length ∧ Bf base w' g c L ∧ Below base w w'

theorem keep_cell {w w' : World} {g b j : Nat} {v : Value} (h : w.grownBy w' (some g)) (hne : b ≠ g) (hc : w.cell? ⟨b, j, none⟩ = some v) : w'.cell? ⟨b, j, none⟩ = some v :=
  h.cell hc (fun e => hne (by have := Option.some.inj e; simpa using this))

theorem ap_ne {base : Nat} {w w' : World} {g g' c' b : Nat} {l' : List UInt8} (h : Ap base w g w' g' c' l') (hb : b < w.heap.size) (hne : b ≠ g) : b ≠ g' := by
  rcases h.here with e | e
  · rw [e]; exact hne
  · omega

set_option maxHeartbeats 2000000 in
theorem line_any (base : Nat) (v : Value) (L : List UInt8) (x y : ByteArray) (b : Nat) (w : World) (hv : To base w v L b) (hx : 0 < x.size) (hsz : L.length + x.size + y.size + 2 ≤ 1000000000) (hbw : b < w.heap.size) (c0 : w.cell? ⟨b, 0, none⟩ = some (.string x)) (c1 : w.cell? ⟨b, 1, none⟩ = some (.string y)) (hB : base ≤ w.heap.size) :
    Calls Tryd.prog 24 #[v, .slice (some ⟨b, 0, none⟩) 2 2] w fun e w' => LineR base w w' e (L ++ x.data.toList ++ [32] ++ y.data.toList ++ [10]) := by
  have hxl : x.data.toList.length = x.size := by simp
  have hyl : y.data.toList.length = y.size := by simp
  go_enter Tryd.func24, Tryd.ntmps24
  go_wp2
  go_loopw [0, 5, 6, 9] (fun va _ _ vi wr => ∃ i : Nat, i ≤ 2 ∧ vi = .int .i64 (i : Int) ∧ b < wr.heap.size ∧ wr.cell? ⟨b, 0, none⟩ = some (.string x) ∧ wr.cell? ⟨b, 1, none⟩ = some (.string y) ∧ Below base w wr ∧ ((i = 0 ∧ va = v ∧ wr = w) ∨ (i = 1 ∧ RowL base wr va (L ++ x.data.toList) b) ∨ (i = 2 ∧ RowL base wr va (L ++ x.data.toList ++ [32] ++ y.data.toList) b))) (fun _ _ _ vi _ => 2 - (intOf vi).toNat)
  case atStart => exact ⟨0, by omega, rfl, hbw, c0, c1, Below.refl _ _, .inl ⟨rfl, rfl, rfl⟩⟩
  case round =>
    obtain ⟨i, hi, rfl, hbr, d0, d1, hbel, h3⟩ := hrel
    rcases h3 with ⟨rfl, rfl, rfl⟩ | ⟨rfl, g, c, z, rfl, hz, hbf, hne⟩ | ⟨rfl, g, c, z, rfl, hz, hbf, hne⟩
    · rcases hv with ⟨rfl, rfl⟩ | ⟨g, c, z, rfl, hz, hbf, hne⟩
      · obtain ⟨cap', w', hr, hbf', hb'⟩ := nil_text (P := Tryd.prog) (w := wr) 46 9 5 Tryd.underlying46 Tryd.underlying9 info5 x hx (by omega)
        have hbf2 : Bf base w' wr.heap.size cap' x.data.toList := ⟨hB, hbf'.lt, hbf'.cells, hbf'.spare, hbf'.le, hbf'.max⟩
        have e0 := (bcell hb').1 b 0 hbr
        have e1 := (bcell hb').1 b 1 hbr
        rw [d0] at e0
        rw [d1] at e1
        have HBF : Hid (Bf base w' wr.heap.size cap' x.data.toList) := hbf2
        have HB2 : Hid (Below base wr w') := hb'.mono hB
        have hbs := hb'.size
        clear hbf' hbf2 hb'
        go_wp2_with (first
          | (at_builtin; refine bf.app_any _ rfl _ _ 46 9 rfl _ _ rfl rfl _ _ hr ?_; refine Hid.out ?_)
          | go_in)
        refine Lib.hid ?_
        go_wp2
        go_roundw
        case rel => exact ⟨1, by omega, by go_num, by omega, e0, e1, HB2.out, .inr (.inl ⟨rfl, _, _, _, rfl, by simp, by simpa using HBF.out, by omega⟩)⟩
        case measure => simp [intOf]
      · go_wp2_with (first
          | (at_builtin; refine bf.app_text _ rfl _ _ 46 9 rfl 5 Tryd.underlying46 Tryd.underlying9 info5 rfl hz.symm x rfl hbf (by omega) ?_)
          | go_in)
        intro g1 c1' wa n1 hn1 hap1
        have BB := hbel.grown hap1.grown hB (fun k hk => by cases hk; exact hbf.new)
        have f0 := keep_cell hap1.grown hne d0
        have f1 := keep_cell hap1.grown hne d1
        have hne1 := ap_ne hap1 hbr hne
        have HAP := hap1.bf
        have hs1 := hap1.grown.size
        clear hap1
        go_wp2
        go_roundw
        case rel => exact ⟨1, by omega, by go_num, by omega, f0, f1, BB, .inr (.inl ⟨rfl, _, _, _, rfl, by have h := hn1.out; simp at h ⊢; exact h, HAP, hne1⟩)⟩
        case measure => simp [intOf]
    · go_wp2_with (first
        | (at_builtin; refine bf.app_bytes _ rfl _ _ 46 rfl 5 Tryd.underlying46 info5 rfl hz.symm ⟨wr.heap.size, 0, none⟩ 1 (m := [32]) rfl rfl (hbf.below ((Below.refl _ _).alloc (Nat.le_refl _) _)) (one_at _ _ _ _ rfl) (by simp; omega) ?_)
        | go_in)
      intro g1 c1' wa n1 hn1 hap1
      have hb1 := hbel.alloc (Nat.le_trans hB hbel.size) (.cells #[.int .u8 32] 5)
      have BB := hb1.grown hap1.grown (Nat.le_trans hB hb1.size) (fun k hk => by cases hk; exact hbf.new)
      have f0 := keep_cell hap1.grown hne (((bcell ((Below.refl _ _).alloc (Nat.le_refl _) _)).1 b 0 hbr).trans d0)
      have f1 := keep_cell hap1.grown hne (((bcell ((Below.refl _ _).alloc (Nat.le_refl _) _)).1 b 1 hbr).trans d1)
      have hne1 := ap_ne hap1 (by simp; omega) hne
      obtain ⟨M1, hM1⟩ : ∃ M1, M1 = L ++ x.data.toList ++ [32] := ⟨_, rfl⟩
      have HAP : Bf base wa g1 c1' M1 := by rw [hM1]; simpa using hap1.bf
      have HM1 : Hid (M1 = L ++ x.data.toList ++ [32]) := hM1
      have hs1 := hap1.grown.size
      have hbr1 : b < wa.heap.size := by simp at hs1; omega
      have hn1' : M1.length = n1 := by rw [hM1]; have h := hn1.out; simp at h ⊢; omega
      have hn1l : M1.length = L.length + x.size + 1 := by rw [hM1]; simp; omega
      clear hap1 hs1 hn1 hM1
      go_wp2_with (first
        | (at_builtin; refine bf.app_text _ rfl _ _ 46 9 rfl 5 Tryd.underlying46 Tryd.underlying9 info5 rfl hn1' y rfl HAP (by omega) ?_)
        | go_in)
      intro g2 c2' wb n2 hn2 hap2
      have BC := BB.grown hap2.grown (Nat.le_trans hB BB.size) (fun k hk => by cases hk; exact HAP.new)
      have e0 := keep_cell hap2.grown hne1 f0
      have e1 := keep_cell hap2.grown hne1 f1
      have hne2 := ap_ne hap2 hbr1 hne1
      have HAP2 := hap2.bf
      have hs2 := hap2.grown.size
      clear hap2
      go_wp2
      go_roundw
      case rel => exact ⟨2, by omega, by go_num, by omega, e0, e1, BC, .inr (.inr ⟨rfl, _, _, _, rfl, by have h := hn2.out; have h2 := hn1l; simp at h ⊢; omega, by rw [← HM1.out]; exact HAP2, hne2⟩)⟩
      case measure => simp [intOf]
    · go_wp2_with (first
        | (at_builtin; refine bf.app_bytes _ rfl _ _ 46 rfl 5 Tryd.underlying46 info5 rfl hz.symm ⟨wr.heap.size, 0, none⟩ 1 (m := [10]) rfl rfl (hbf.below ((Below.refl _ _).alloc (Nat.le_refl _) _)) (one_at _ _ _ _ rfl) (by simp; omega) ?_)
        | go_in)
      intro g1 c1' wa n1 hn1 hap1
      have hb1 := hbel.alloc (Nat.le_trans hB hbel.size) (.cells #[.int .u8 10] 5)
      have BB := hb1.grown hap1.grown (Nat.le_trans hB hb1.size) (fun k hk => by cases hk; exact hbf.new)
      have HAP := hap1.bf
      clear hap1
      go_wp2
      go_ret
      exact ⟨g1, c1', n1, rfl, by have h := hn1.out; simp at h ⊢; omega, by simpa using HAP, BB⟩

end Go.Proofs.YtheponigjofknaaDoor.mt
