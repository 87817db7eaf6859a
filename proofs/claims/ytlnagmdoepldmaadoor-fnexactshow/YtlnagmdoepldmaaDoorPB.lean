import Derived.Test.YtlnagmdoepldmaaDoorPA
import Derived.Test.YtlnagmdoepldmaaDoorSS
import Derived.Test.YtlnagmdoepldmaaDoorXH
namespace Go.Proofs.YtlnagmdoepldmaaDoor.ex
open Go.ChangeShapes Go.WideShapes Go.ChangeAt Go.RowKit Go.Deep
set_option linter.unusedVariables false
set_option linter.unusedSimpArgs false

/-- What the specification's l3Text says of the node at a place. -/
def TxC (E : Nat → Ex) (b n r : Nat) : Prop := ∀ (p len cap : Nat) (w : World), ok E r p len = true → exprK (E p).kind = true → XsB w b n E → 0 < len → p + len ≤ n → len ≤ cap → cap ≤ 1099511627776 →
  Calls Tryd.prog 11 #[.slice (some ⟨b, p * 4, none⟩) len cap] w fun e w' => e = .returned (.string ⟨(txt r (treeP E r p)).toArray⟩) ∧ Below w.heap.size w w'

theorem str_app (a b : List UInt8) : (⟨a.toArray⟩ : ByteArray) ++ ⟨b.toArray⟩ = ⟨(a ++ b).toArray⟩ := by
  apply ByteArray.ext; simp

set_option maxRecDepth 100000 in
set_option maxHeartbeats 1000000 in
theorem l3show_any {E : Nat → Ex} {b n r : Nat} (hn : n ≤ 3000) (H : TxC E b n r) (p len cap : Nat) (w : World) (hok : ok E r p len = true) (hk : exprK (E p).kind = true) (hX : XsB w b n E) (hl : 0 < len) (hp : p + len ≤ n) (hc : len ≤ cap) (hcap : cap ≤ 1099511627776) :
    Calls Tryd.prog 20 #[.slice (some ⟨b, p * 4, none⟩) len cap] w fun e w' => e = .returned (.string ⟨(brak (E p).kind (txt r (treeP E r p))).toArray⟩) ∧ Below w.heap.size w w' := by
  have HC := H p len cap w hok hk hX hl hp hc hcap
  have hlen := txt_len hn r p len hok hl hp
  have c0 := (hX p (by omega)).1
  obtain ⟨L, hL⟩ : ∃ L, txt r (treeP E r p) = L := ⟨_, rfl⟩
  rw [hL] at HC hlen ⊢
  obtain ⟨s, hs⟩ : ∃ s : ByteArray, (⟨L.toArray⟩ : ByteArray) = s := ⟨_, rfl⟩
  have hsz : s.size = L.length := by rw [← hs]; simp [ByteArray.size]
  rw [hs] at HC
  have HB : Hid ((⟨#[40]⟩ : ByteArray) ++ s ++ ⟨#[41]⟩ = ⟨(40 :: (L ++ [41])).toArray⟩) := by
    show _ = _
    rw [← hs]
    apply ByteArray.ext; simp
  have HS : Hid ((⟨L.toArray⟩ : ByteArray) = s) := hs
  have HC' : Hid (Calls Tryd.prog 11 #[.slice (some ⟨b, p * 4, none⟩) len cap] w fun e w' => e = .returned (.string s) ∧ Below w.heap.size w w') := HC
  clear HC hs hL H hok hX
  obtain ⟨k, hkk⟩ : ∃ k, (E p).kind = k := ⟨_, rfl⟩
  rw [hkk] at c0 hk ⊢
  clear hkk
  have hl' : (0 : Int) < (len : Int) := by omega
  have hsm : s.size ≤ 100000000 := by rw [hsz]; omega
  clear hsz hlen
  by_cases h5 : 1 ≤ k ∧ k ≤ 5
  · rw [brak, if_pos h5, HS.out]
    have h5' : k = 1 ∨ k = 2 ∨ k = 3 ∨ k = 4 ∨ k = 5 := by omega
    clear h5
    rcases h5' with rfl | rfl | rfl | rfl | rfl <;>
    · go_enter Tryd.func20, Tryd.ntmps20
      go_wp2_with (go_at_call 11; refine HC'.out.mono ?_; rintro e w1 ⟨rfl, hb1⟩)
      go_ret
      exact ⟨rfl, hb1⟩
  · rw [brak, if_neg h5, ← HB.out]
    have e1 : (k == 1) = false := by simp; omega
    have e2 : (k == 2) = false := by simp; omega
    have e3 : (k == 3) = false := by simp; omega
    have e4 : (k == 4) = false := by simp; omega
    have e5 : (k == 5) = false := by simp; omega
    have g1 : ¬ 9223372036854775807 < 1 + s.size := by omega
    have g2 : ¬ 9223372036854775807 < 1 + s.size + 1 := by omega
    clear h5
    go_enter Tryd.func20, Tryd.ntmps20
    go_wp2_with (go_at_call 11; refine HC'.out.mono ?_; rintro e w1 ⟨rfl, hb1⟩)
    go_ret
    exact ⟨rfl, hb1⟩

end Go.Proofs.YtlnagmdoepldmaaDoor.ex
