import Derived.Test.YtkmhaemcpakobaaGreatDoorG24
import Derived.Test.YtkmhaemcpakobaaGreatDoorG07
import Derived.Test.YtkmhaemcpakobaaGreatDoorG09
import Derived.Test.YtkmhaemcpakobaaGreatDoorG06
import Derived.Deep.RegionHeld3
import Derived.Deep.QuietTactic
import Derived.BigQuiet
import Derived.Lib.Hide
namespace Go.Proofs.YtkmhaemcpakobaaGreatDoor.ac
open Go.ChangeShapes Go.WideShapes Go.ChangeAt Go.RowKit Go.Deep
set_option linter.unusedVariables false
set_option linter.unusedSimpArgs false

/-! ### Accept: the specification -/

def Lt64 (n : Nat) : Prop := n < 18446744073709551616

set_option maxHeartbeats 8000000 in
set_option maxRecDepth 100000 in
theorem str_any (path sum key : ByteArray) (z : Int) (sig : Nat) (l : List ByteArray) (a0 : Option Addr) (n0 cap0 : Nat) (ks : List ty.Tr) (a : Option Addr) (cap : Nat) (w : World) (hb : st.Ss w a0 n0 l) (hn : n0 ≤ 300) (hs : ∀ i, i < n0 → (st.atS l i).size ≤ 1048576) (hp : path.size ≤ 1048576) (hsu : sum.size ≤ 1048576) (hok : mt.hokB path sum z l n0 = true) (hz0 : 0 ≤ z) (hz1 : z ≤ 1000000) (hsig : sig < 18446744073709551616)
    (hR : ty.SrcTr none w a ks) (hkn : ks.length ≤ 1048576) (hks : ∀ x ∈ ks, ty.U64 x.fN ∧ ty.U64 x.fE) :
    Calls Tryz.prog 15 #[.agg #[.string path, .string sum, .int .i64 z, .slice a0 n0 cap0, .string key, .int .u64 (sig : Int)], .slice a ks.length cap] w fun e w' => e = .returned (.bool (trB key (sV (mt.headL path sum z l n0)) sig ks)) ∧ Below w.heap.size w w' := by
  obtain ⟨hlen, hpos⟩ := mt.head_len hok hp hsu hs
  obtain ⟨W1, hW1⟩ : ∃ W1, W1 = w.alloc (.cells #[.string path, .string sum, .int .i64 z, .slice a0 n0 cap0, .string key, .int .u64 (sig : Int)] 43) := ⟨_, rfl⟩
  have HW1 : Hid (W1 = w.alloc (.cells #[.string path, .string sum, .int .i64 z, .slice a0 n0 cap0, .string key, .int .u64 (sig : Int)] 43)) := hW1
  have HB1 : Hid (Below w.heap.size w W1) := by show Below _ _ _; rw [hW1]; exact (Below.refl _ _).alloc (Nat.le_refl _) _
  have HS1 : Hid (W1.heap.size = w.heap.size + 1) := by show _ = _; rw [hW1]; simp
  have HBW : Hid (∀ W, Below W1.heap.size W1 W → Below w.heap.size w W) := fun W h => HB1.out.trans (h.mono HB1.out.size)
  have HSX : Hid (∀ W, Below W1.heap.size W1 W → W.cell? ⟨w.heap.size, 0, none⟩ = some (.string path) ∧ W.cell? ⟨w.heap.size, 1, none⟩ = some (.string sum) ∧ W.cell? ⟨w.heap.size, 2, none⟩ = some (.int .i64 z) ∧ W.cell? ⟨w.heap.size, 3, none⟩ = some (.slice a0 n0 cap0) ∧ W.cell? ⟨w.heap.size, 4, none⟩ = some (.string key) ∧ W.cell? ⟨w.heap.size, 5, none⟩ = some (.int .u64 (sig : Int))) := fun W h => by
    have q := (bcell h).1 w.heap.size
    rw [q 0 (by rw [HS1.out]; omega), q 1 (by rw [HS1.out]; omega), q 2 (by rw [HS1.out]; omega), q 3 (by rw [HS1.out]; omega), q 4 (by rw [HS1.out]; omega), q 5 (by rw [HS1.out]; omega), hW1]
    exact ⟨by simp [go_sem], by simp [go_sem], by simp [go_sem], by simp [go_sem], by simp [go_sem], by simp [go_sem]⟩
  obtain ⟨L, hLL⟩ : ∃ L, mt.headL path sum z l n0 = L := ⟨_, rfl⟩
  obtain ⟨H, hH⟩ : ∃ H : ByteArray, H = ⟨L.toArray⟩ := ⟨_, rfl⟩
  have hHs : H.size = L.length := by rw [hH]; simp [ByteArray.size]
  have hHl : H.data.toList = L := by rw [hH]
  have HHD : Hid (∀ W, Below W1.heap.size W1 W → Calls Tryz.prog 32 #[.agg #[.string path, .string sum, .int .i64 z, .slice a0 n0 cap0, .string key, .int .u64 (sig : Int)]] W fun e w' => e = .returned (.string H) ∧ Below W.heap.size W w') := fun W h => by
    rw [hH, ← hLL]
    exact mt.shd_any path sum key z sig l a0 n0 cap0 W (hb.below (HBW.out W h)) hn hs hp hsu hz0 hz1
  rw [hLL] at hlen ⊢
  have HCV : Hid (∀ W, ∃ cap W1, (convert 9 22 (.string H)).run Tryz.prog W = .ok (.slice (some ⟨W.heap.size, 0, none⟩) L.length cap) W1 ∧ bf.Bf W.heap.size W1 W.heap.size cap L ∧ Below W.heap.size W W1) := fun W => by
    obtain ⟨cap, W1, h1, h2, h3, _⟩ := bf.conv_bf (P := Tryz.prog) W 9 22 5 H (by omega) Tryz.underlying9 Tryz.underlying22 Tryz.underlying5
    rw [hHl] at h2
    rw [hHs] at h1
    exact ⟨cap, W1, h1, h2, h3⟩
  obtain ⟨f, hf⟩ : ∃ f, f = tr1 key (sV L) sig := ⟨_, rfl⟩
  have HCC : Hid (∀ N E, Lt64 N → Lt64 E → ∀ W base g c, bf.Bf base W g c L → Calls Tryz.prog 31 #[.int .u64 (N : Int), .int .u64 (E : Int), .slice (some ⟨g, 0, none⟩) L.length c, .int .u64 (sig : Int)] W fun e w' => e = .returned (.bool (sg.chB N E (sV L) sig)) ∧ Below W.heap.size W w') := fun N E hN hE W base g c h => sg.scheck_any N E sig hN hE hsig _ L.length c (inL L) W (bs_of h) (by omega)
  have HKR : Hid (ty.SrcTr none w a ks) := hR
  have HKS : Hid (∀ x ∈ ks, ty.U64 x.fN ∧ ty.U64 x.fE) := hks
  have HFN : Hid (∀ (t : ty.Tr), t.fName ≠ key → f t = false) := fun t h => by rw [hf]; exact tr1_no h
  have HFY : Hid (∀ (t : ty.Tr) (N E : Nat), t.fName = key → t.fN = (N : Int) → t.fE = (E : Int) → f t = sg.chB N E (sV L) sig) := fun t N E h1 h2 h3 => by rw [hf]; exact tr1_at h1 h2 h3
  have hV : trB key (sV L) sig ks = anyB f ks := by rw [hf]; rfl
  rw [hV]
  obtain ⟨n, hnn⟩ : ∃ n, ks.length = n := ⟨_, rfl⟩
  have HNN : Hid (ks.length = n) := hnn
  rw [hnn] at hkn ⊢
  clear hb hn hs hp hsu hok hz0 hz1 hsig hR hks hlen hpos hLL hH hHs hHl hf hV hnn hW1
  go_enter Tryz.func15, Tryz.ntmps15
  go_wp2
  rw [← HW1.out]
  go_loopw [5] (fun y wr => ∃ i : Nat, i ≤ n ∧ y = .int .i64 (i : Int) ∧ (∀ (j : Nat) (y : ty.Tr), j < i → ks[j]? = some y → f y = false) ∧ Below W1.heap.size W1 wr) (fun y _ => n - (intOf y).toNat)
  case atStart => exact ⟨0, Nat.zero_le _, rfl, fun j y h => by omega, Below.refl _ _⟩
  case round =>
    obtain ⟨i, hi, rfl, h1, hbel⟩ := hrel
    have H1 : Hid (∀ (j : Nat) (y : ty.Tr), j < i → ks[j]? = some y → f y = false) := h1
    have HBE : Hid (Below W1.heap.size W1 wr) := hbel
    have HBd : Hid (Below W1.heap.size W1 wr.drew) := hbel.drew
    clear h1
    by_cases hin : i < n
    · have hin' : (i : Int) < (n : Int) := by omega
      have hi0 : (0 : Int) ≤ (i : Int) := by omega
      obtain ⟨x, hx⟩ : ∃ x, ks[i]? = some x := ⟨_, List.getElem?_eq_getElem (by rw [HNN.out]; exact hin)⟩
      rcases HKR.out with ⟨_, h⟩ | ⟨kb, ko, rfl, _, hc⟩
      · have := HNN.out; rw [h] at this; simp at this; omega
      obtain ⟨⟨N, hxN, hN1⟩, ⟨E, hxE, hE1⟩⟩ := HKS.out x (List.mem_of_getElem? hx)
      obtain ⟨A, hxA⟩ : ∃ A, x.fName = A := ⟨_, rfl⟩
      have HX : Hid (ks[i]? = some x) := hx
      have HKC : Hid (∀ W, Below W1.heap.size W1 W → W.cell? ⟨kb, ko + i * 3, none⟩ = some (.string A) ∧ W.cell? ⟨kb, ko + i * 3 + 1, none⟩ = some (.int .u64 (N : Int)) ∧ W.cell? ⟨kb, ko + i * 3 + 2, none⟩ = some (.int .u64 (E : Int))) := fun W h => by
        have := (hc i x hx).below (HBW.out W h)
        rw [← hxA, ← hxN, ← hxE]
        exact this
      have HCK : Hid (∀ W base g c, bf.Bf base W g c L → Calls Tryz.prog 31 #[.int .u64 (N : Int), .int .u64 (E : Int), .slice (some ⟨g, 0, none⟩) L.length c, .int .u64 (sig : Int)] W fun e w' => e = .returned (.bool (sg.chB N E (sV L) sig)) ∧ Below W.heap.size W w') := HCC.out N E hN1 hE1
      have HFX : Hid (A = key → f x = sg.chB N E (sV L) sig) := fun h => HFY.out x N E (hxA.trans h) hxN hxE
      have HFZ : Hid (A ≠ key → f x = false) := fun h => HFN.out x (by rw [hxA]; exact h)
      obtain ⟨C, hC⟩ : ∃ C, sg.chB N E (sV L) sig = C := ⟨_, rfl⟩
      rw [hC] at HCK HFX
      have HNX : Hid (f x = false → ∀ (j : Nat) (y : ty.Tr), j < i + 1 → ks[j]? = some y → f y = false) := fun hp j y hj hy => by
        rcases Nat.lt_or_ge j i with h | h
        · exact H1.out j y h hy
        · obtain rfl : j = i := by omega
          rw [HX.out] at hy
          cases hy
          exact hp
      clear hx hc hxN hxE hN1 hE1 hxA hC hbel
      by_cases hk : A = key
      · have hq := ba_eq hk
        have hfx := HFX.out hk
        clear hk HFX HFZ
        cases C with
        | true =>
          have HF : Hid (anyB f ks = true) := any_at HX.out hfx
          clear hfx
          go_wp2_with fail
          refine wq 26 (S := (fun W => (W.cell? ⟨kb, ko + i * 3, none⟩ = some (.string A) ∧ W.cell? ⟨kb, ko + i * 3 + 1, none⟩ = some (.int .u64 (N : Int)) ∧ W.cell? ⟨kb, ko + i * 3 + 2, none⟩ = some (.int .u64 (E : Int))) ∧ (W.cell? ⟨w.heap.size, 0, none⟩ = some (.string path) ∧ W.cell? ⟨w.heap.size, 1, none⟩ = some (.string sum) ∧ W.cell? ⟨w.heap.size, 2, none⟩ = some (.int .i64 z) ∧ W.cell? ⟨w.heap.size, 3, none⟩ = some (.slice a0 n0 cap0) ∧ W.cell? ⟨w.heap.size, 4, none⟩ = some (.string key) ∧ W.cell? ⟨w.heap.size, 5, none⟩ = some (.int .u64 (sig : Int))))) (by kernel_rfl) ⟨HKC.out _ HBd.out, HSX.out _ HBd.out⟩ fun hHeld => ?_
          refine uq (i := 0) rfl ?_
          try simp only [aP]
          refine uq (i := 1) rfl ?_
          try simp only [aP]
          refine uq (i := 2) rfl ?_
          try simp only [aP]
          refine uq (i := 3) rfl ?_
          try simp only [aP]
          refine uq (i := 4) rfl ?_
          try simp only [aP]
          refine uq (i := 5) rfl ?_
          try simp only [aP]
          refine uq (i := 6) rfl ?_
          try simp only [aP]
          refine uq (i := 7) rfl ?_
          try simp only [aP]
          refine uq (i := 8) rfl ?_
          try simp only [aP]
          refine uq (i := 9) rfl ?_
          try simp only [aP]
          refine uq (i := 10) rfl ?_
          try simp only [aP]
          refine uq (i := 11) rfl ?_
          try simp only [aP]
          refine uq (i := 12) rfl ?_
          try simp only [aP]
          refine uq (i := 13) rfl ?_
          try simp only [aP]
          refine uq (i := 14) rfl ?_
          try simp only [aP]
          refine uq (i := 15) rfl ?_
          try simp only [aP]
          refine uq (i := 16) rfl ?_
          try simp only [aP]
          refine uq (i := 17) rfl ?_
          try simp only [aP]
          refine uq (i := 18) rfl ?_
          try simp only [aP]
          refine uq (i := 19) rfl ?_
          try simp only [aP]
          refine uq (i := 22) rfl ?_
          try simp only [aP]
          refine uq (i := 23) rfl ?_
          try simp only [aP]
          refine rq 20 rfl fun K hK => ?_
          go_simp
          go_at_call 32
          refine (HHD.out _ HBd.out).mono ?_
          rintro e w3 ⟨rfl, hl3⟩
          have HL3 := Lib.hid (HBd.out.trans (hl3.mono HBd.out.size))
          obtain ⟨cc, W5, hcv, hbf, hbw⟩ := HCV.out w3
          have HL5 := Lib.hid (HL3.out.trans (hbw.mono HL3.out.size))
          have HBF := Lib.hid hbf
          clear hl3 hbf hbw
          try go_wp2_with fail
          refine hK.out _ _ (⟨HKC.out _ HL3.out, HSX.out _ HL3.out⟩) (fun hHeld => ?_)
          clear hK K
          try simp only [aP]
          refine rq 21 rfl fun K hK => ?_
          go_simp
          skip
          try go_wp2_with fail
          refine hK.out _ _ (⟨HKC.out _ HL5.out, HSX.out _ HL5.out⟩) (fun hHeld => ?_)
          clear hK K
          try simp only [aP]
          refine rq 24 rfl fun K hK => ?_
          go_simp
          go_at_call 31
          refine (HCK.out _ _ _ _ HBF.out).mono ?_
          rintro e w6 ⟨rfl, hl6⟩
          have HL6 := Lib.hid (HL5.out.trans (hl6.mono HL5.out.size))
          clear hl6
          try go_wp2_with fail
          refine hK.out _ _ (⟨HKC.out _ HL6.out, HSX.out _ HL6.out⟩) (fun hHeld => ?_)
          clear hK K
          try simp only [aP]
          refine uq (i := 25) rfl ?_
          try simp only [aP]
          refine dq ?_
          go_wp2
          go_ret
          exact ⟨by rw [HF.out]; first | done | rfl, HBW.out _ HL6.out⟩
        | false =>
          have HN := Lib.hid (HNX.out hfx)
          clear hfx
          go_wp2_with fail
          refine wq 26 (S := (fun W => (W.cell? ⟨kb, ko + i * 3, none⟩ = some (.string A) ∧ W.cell? ⟨kb, ko + i * 3 + 1, none⟩ = some (.int .u64 (N : Int)) ∧ W.cell? ⟨kb, ko + i * 3 + 2, none⟩ = some (.int .u64 (E : Int))) ∧ (W.cell? ⟨w.heap.size, 0, none⟩ = some (.string path) ∧ W.cell? ⟨w.heap.size, 1, none⟩ = some (.string sum) ∧ W.cell? ⟨w.heap.size, 2, none⟩ = some (.int .i64 z) ∧ W.cell? ⟨w.heap.size, 3, none⟩ = some (.slice a0 n0 cap0) ∧ W.cell? ⟨w.heap.size, 4, none⟩ = some (.string key) ∧ W.cell? ⟨w.heap.size, 5, none⟩ = some (.int .u64 (sig : Int))))) (by kernel_rfl) ⟨HKC.out _ HBd.out, HSX.out _ HBd.out⟩ fun hHeld => ?_
          refine uq (i := 0) rfl ?_
          try simp only [aP]
          refine uq (i := 1) rfl ?_
          try simp only [aP]
          refine uq (i := 2) rfl ?_
          try simp only [aP]
          refine uq (i := 3) rfl ?_
          try simp only [aP]
          refine uq (i := 4) rfl ?_
          try simp only [aP]
          refine uq (i := 5) rfl ?_
          try simp only [aP]
          refine uq (i := 6) rfl ?_
          try simp only [aP]
          refine uq (i := 7) rfl ?_
          try simp only [aP]
          refine uq (i := 8) rfl ?_
          try simp only [aP]
          refine uq (i := 9) rfl ?_
          try simp only [aP]
          refine uq (i := 10) rfl ?_
          try simp only [aP]
          refine uq (i := 11) rfl ?_
          try simp only [aP]
          refine uq (i := 12) rfl ?_
          try simp only [aP]
          refine uq (i := 13) rfl ?_
          try simp only [aP]
          refine uq (i := 14) rfl ?_
          try simp only [aP]
          refine uq (i := 15) rfl ?_
          try simp only [aP]
          refine uq (i := 16) rfl ?_
          try simp only [aP]
          refine uq (i := 17) rfl ?_
          try simp only [aP]
          refine uq (i := 18) rfl ?_
          try simp only [aP]
          refine uq (i := 19) rfl ?_
          try simp only [aP]
          refine uq (i := 22) rfl ?_
          try simp only [aP]
          refine uq (i := 23) rfl ?_
          try simp only [aP]
          refine rq 20 rfl fun K hK => ?_
          go_simp
          go_at_call 32
          refine (HHD.out _ HBd.out).mono ?_
          rintro e w3 ⟨rfl, hl3⟩
          have HL3 := Lib.hid (HBd.out.trans (hl3.mono HBd.out.size))
          obtain ⟨cc, W5, hcv, hbf, hbw⟩ := HCV.out w3
          have HL5 := Lib.hid (HL3.out.trans (hbw.mono HL3.out.size))
          have HBF := Lib.hid hbf
          clear hl3 hbf hbw
          try go_wp2_with fail
          refine hK.out _ _ (⟨HKC.out _ HL3.out, HSX.out _ HL3.out⟩) (fun hHeld => ?_)
          clear hK K
          try simp only [aP]
          refine rq 21 rfl fun K hK => ?_
          go_simp
          skip
          try go_wp2_with fail
          refine hK.out _ _ (⟨HKC.out _ HL5.out, HSX.out _ HL5.out⟩) (fun hHeld => ?_)
          clear hK K
          try simp only [aP]
          refine rq 24 rfl fun K hK => ?_
          go_simp
          go_at_call 31
          refine (HCK.out _ _ _ _ HBF.out).mono ?_
          rintro e w6 ⟨rfl, hl6⟩
          have HL6 := Lib.hid (HL5.out.trans (hl6.mono HL5.out.size))
          clear hl6
          try go_wp2_with fail
          refine hK.out _ _ (⟨HKC.out _ HL6.out, HSX.out _ HL6.out⟩) (fun hHeld => ?_)
          clear hK K
          try simp only [aP]
          refine uq (i := 25) rfl ?_
          try simp only [aP]
          refine dq ?_
          go_wp2
          go_roundw
          case rel => exact ⟨i + 1, by omega, by go_num, HN.out, HL6.out⟩
          case measure => simp [intOf] <;> omega
      · have hq := ba_ne hk
        have hfx := HFZ.out hk
        have HN := Lib.hid (HNX.out hfx)
        clear hk HFX HFZ hfx
        go_wp2_with fail
        refine wq 26 (S := (fun W => (W.cell? ⟨kb, ko + i * 3, none⟩ = some (.string A) ∧ W.cell? ⟨kb, ko + i * 3 + 1, none⟩ = some (.int .u64 (N : Int)) ∧ W.cell? ⟨kb, ko + i * 3 + 2, none⟩ = some (.int .u64 (E : Int))) ∧ (W.cell? ⟨w.heap.size, 0, none⟩ = some (.string path) ∧ W.cell? ⟨w.heap.size, 1, none⟩ = some (.string sum) ∧ W.cell? ⟨w.heap.size, 2, none⟩ = some (.int .i64 z) ∧ W.cell? ⟨w.heap.size, 3, none⟩ = some (.slice a0 n0 cap0) ∧ W.cell? ⟨w.heap.size, 4, none⟩ = some (.string key) ∧ W.cell? ⟨w.heap.size, 5, none⟩ = some (.int .u64 (sig : Int))))) (by kernel_rfl) ⟨HKC.out _ HBd.out, HSX.out _ HBd.out⟩ fun hHeld => ?_
        refine uq (i := 0) rfl ?_
        try simp only [aP]
        refine uq (i := 1) rfl ?_
        try simp only [aP]
        refine uq (i := 2) rfl ?_
        try simp only [aP]
        refine uq (i := 3) rfl ?_
        try simp only [aP]
        refine uq (i := 4) rfl ?_
        try simp only [aP]
        refine uq (i := 5) rfl ?_
        try simp only [aP]
        refine uq (i := 6) rfl ?_
        try simp only [aP]
        refine uq (i := 7) rfl ?_
        try simp only [aP]
        refine uq (i := 8) rfl ?_
        try simp only [aP]
        refine sq (i := 9) rfl ?_
        try simp only [aP]
        refine sq (i := 10) rfl ?_
        try simp only [aP]
        refine sq (i := 11) rfl ?_
        try simp only [aP]
        refine sq (i := 12) rfl ?_
        try simp only [aP]
        refine sq (i := 13) rfl ?_
        try simp only [aP]
        refine sq (i := 14) rfl ?_
        try simp only [aP]
        refine sq (i := 15) rfl ?_
        try simp only [aP]
        refine sq (i := 16) rfl ?_
        try simp only [aP]
        refine sq (i := 17) rfl ?_
        try simp only [aP]
        refine sq (i := 18) rfl ?_
        try simp only [aP]
        refine sq (i := 19) rfl ?_
        try simp only [aP]
        refine sq (i := 20) rfl ?_
        try simp only [aP]
        refine sq (i := 21) rfl ?_
        try simp only [aP]
        refine sq (i := 22) rfl ?_
        try simp only [aP]
        refine sq (i := 23) rfl ?_
        try simp only [aP]
        refine sq (i := 24) rfl ?_
        try simp only [aP]
        refine uq (i := 25) rfl ?_
        try simp only [aP]
        refine dq ?_
        go_wp2
        go_roundw
        case rel => exact ⟨i + 1, by omega, by go_num, HN.out, HBd.out⟩
        case measure => simp [intOf] <;> omega
    · have hin' : ¬ (i : Int) < (n : Int) := by omega
      have HF : Hid (anyB f ks = false) := any_no HNN.out (fun j y hj hy => H1.out j y (by omega) hy)
      clear hbel
      go_wp2
      go_ret
      exact ⟨by rw [HF.out]; first | done | rfl, HBW.out _ HBE.out⟩

end Go.Proofs.YtkmhaemcpakobaaGreatDoor.ac

namespace Go.Proofs.YtkmhaemcpakobaaGreatDoor.ac
open Go.ChangeShapes Go.WideShapes Go.ChangeAt Go.RowKit Go.Deep
set_option linter.unusedVariables false
set_option linter.unusedSimpArgs false

/-! ### Accept: the specification's -/

set_option maxHeartbeats 8000000 in
set_option maxRecDepth 100000 in
theorem sac_any (mi s path : ByteArray) (bb : Nat) (l : List UInt8) (ks : List ty.Tr) (a : Option Addr) (cap : Nat) (w : World) (hs : s.size ≤ 1048576) (hl : l.length ≤ 1048576) (hB : up.By w bb l) (hbb : bb < w.heap.size) (hR : ty.SrcTr none w a ks) (hkn : ks.length ≤ 1048576) (hks : ∀ x ∈ ks, ty.U64 x.fN ∧ ty.U64 x.fE) :
    Calls Tryz.prog 6 #[.agg #[.string mi, .string s, .slice (some ⟨bb, 0, none⟩) l.length l.length], .string path, .slice a ks.length cap] w fun e w' => e = .returned (.int .i64 (acV s path ks l)) ∧ Below w.heap.size w w' := by
  obtain ⟨N, hN⟩ : ∃ N, l.length = N := ⟨_, rfl⟩
  have HN : Hid (l.length = N) := hN
  obtain ⟨W2, hW2⟩ : ∃ W2, W2 = w.alloc (.cells #[.string mi, .string s, .slice (some ⟨bb, 0, none⟩) N N] 29) := ⟨_, rfl⟩
  have HS2 : Hid (W2.heap.size = w.heap.size + 1) := by show _ = _; rw [hW2]; simp
  have HB2 : Hid (Below w.heap.size w W2) := by show Below _ _ _; rw [hW2]; exact (Below.refl _ _).alloc (Nat.le_refl _) _
  have HBX : Hid (∀ W, Below W2.heap.size W2 W → W.cell? ⟨w.heap.size, 2, none⟩ = some (.slice (some ⟨bb, 0, none⟩) N N)) := fun W h => by
    rw [(bcell h).1 w.heap.size 2 (by rw [HS2.out]; omega), hW2]
    simp [go_sem]
  have HBW : Hid (∀ W, Below W2.heap.size W2 W → Below w.heap.size w W) := fun W h => HB2.out.trans (h.mono HB2.out.size)
  obtain ⟨M, hM⟩ : ∃ M, mt.rdM s.data.toList = M := ⟨_, rfl⟩
  obtain ⟨R, hRR⟩ : ∃ R, mt.rdB s.data.toList = R := ⟨_, rfl⟩
  have HRM : Hid (Calls Tryz.prog 14 #[.string s] W2 fun e w' => RdT M R W2 w' e) := by
    rw [← hM, ← hRR]
    exact (mt.sread_any s hs W2).mono fun e w' h => rdt_of h
  have HVN : Hid (R = false → acV s path ks l = 1) := fun h => acV_no (hRR.trans h)
  have HVY : Hid (R = true → acV s path ks l = acM M path ks l) := fun h => by rw [acV_yes (hRR.trans h), hM]
  have HMO : Hid (R = true → MOk M) := fun h => by rw [← hM]; exact mok_of (hRR.trans h)
  have HTR : Hid (R = true → ∀ (W : World) av cv, Below W2.heap.size W2 W → st.Ss W av M.l.length M.l → Calls Tryz.prog 15 #[.agg #[.string M.path, .string M.sum, .int .i64 M.z, .slice av M.l.length cv, .string M.key, .int .u64 (M.sig : Int)], .slice a ks.length cap] W fun e w' => e = .returned (.bool (trB M.key (sV (hdL M)) M.sig ks)) ∧ Below W.heap.size W w') := fun h W av cv hb hss =>
    have o := HMO.out h
    str_any M.path M.sum M.key M.z M.sig M.l av M.l.length cv ks a cap W hss o.few o.refs o.path o.sum o.hok o.z0 o.z1 o.sig (hR.below (HBW.out W hb)) hkn hks
  have HBY : Hid (∀ W, Below W2.heap.size W2 W → up.By W bb l) := fun W hb => hB.below (HBW.out W hb)
  have HSU : Hid (∀ W, Below W2.heap.size W2 W → Calls Tryz.prog 17 #[.slice (some ⟨bb, 0, none⟩) N N] W fun e w' => e = .returned (.int .u64 ((sV l : Nat) : Int)) ∧ w' = W) := fun W hb => by
    rw [← hN]
    exact sg.ssum_any _ l.length l.length (inL l) W (by_bs (HBY.out W hb)) (by omega)
  have HWD : Hid (∀ W, Calls Tryz.prog 16 #[.int .u64 ((sV l : Nat) : Int)] W fun e w' => e = .returned (.string (wd.wordA (sV l))) ∧ Below W.heap.size W w') := fun W => wd.spec_any (sV l) (sV_lt l) W
  have HUN : Hid (∀ W, Below W2.heap.size W2 W → Calls Tryz.prog 18 #[.slice (some ⟨bb, 0, none⟩) N N] W fun e w' => up.UnR W w' l e ∧ Below W.heap.size W w') := fun W hb => up.sunp_any bb N l hN.symm hl W (HBY.out W hb) (by have := hb.size; have := HS2.out; omega)
  have HRF : Hid (MOk M → ∀ (W : World) (E : Nat → tt.En) (b n cp : Nat) av cv, tt.EnR W b 0 n E → tt.SmE n E → n ≤ 500 → RowOk W av cv M.l → Calls Tryz.prog 20 #[.slice (some ⟨b, 0, none⟩) n cp, .slice av M.l.length cv] W fun e w' => (∃ a2 c2, e = .returned (.slice a2 ((rf.rfs E n (toL M.l)).map mt.BA).length c2) ∧ ty.SrcS none w' a2 ((rf.rfs E n (toL M.l)).map mt.BA)) ∧ Below W.heap.size W w') := fun o W E b n cp av cv hen hsm hn5 hr => srefs2_any E b n cp M.l av cv W hen hsm (by omega) hr (toL_small o.refs) o.few
  have HEQ : Hid (MOk M → ∀ (W : World) (L : List ByteArray) a2 c2 av cv, ty.SrcS none W a2 L → L.length ≤ M.l.length → RowOk W av cv M.l → Calls Tryz.prog 19 #[.slice a2 L.length c2, .slice av M.l.length cv] W fun e w' => e = .returned (.bool (so.eqT L (toL M.l))) ∧ Below W.heap.size W w') := fun o W L a2 c2 av cv h1 h2 h3 => same2_any L a2 c2 M.l av cv W h1 h2 o.few h3
  rw [hN]
  rw [hW2] at HRM
  obtain ⟨K, hK⟩ : ∃ K, ks.length = K := ⟨_, rfl⟩
  rw [hK] at HTR ⊢
  obtain ⟨V, hV⟩ : ∃ V, acV s path ks l = V := ⟨_, rfl⟩
  rw [hV] at HVN HVY ⊢
  obtain ⟨mp, hmp⟩ : ∃ x, M.path = x := ⟨_, rfl⟩
  obtain ⟨ms, hms⟩ : ∃ x, M.sum = x := ⟨_, rfl⟩
  obtain ⟨mz, hmz⟩ : ∃ x, M.z = x := ⟨_, rfl⟩
  obtain ⟨mk, hmk⟩ : ∃ x, M.key = x := ⟨_, rfl⟩
  obtain ⟨mg, hmg⟩ : ∃ x, M.sig = x := ⟨_, rfl⟩
  obtain ⟨nl, hnl⟩ : ∃ x, M.l.length = x := ⟨_, rfl⟩
  have HX : Hid (M.path = mp ∧ M.sum = ms ∧ M.z = mz ∧ M.l.length = nl) := ⟨hmp, hms, hmz, hnl⟩
  obtain ⟨tb, htb⟩ : ∃ x, trB M.key (sV (hdL M)) M.sig ks = x := ⟨_, rfl⟩
  have HTB : Hid (trB M.key (sV (hdL M)) M.sig ks = tb) := htb
  rw [htb] at HTR
  obtain ⟨wa, hwa⟩ : ∃ x, wd.wordA (sV l) = x := ⟨_, rfl⟩
  have HWA : Hid (wd.wordA (sV l) = wa) := hwa
  rw [hwa] at HWD
  obtain ⟨sv, hsv⟩ : ∃ x, sV l = x := ⟨_, rfl⟩
  rw [hsv] at HWD HSU
  have HRM2 : Hid (Calls Tryz.prog 14 #[.string s] (w.alloc (.cells #[.string mi, .string s, .slice (some ⟨bb, 0, none⟩) N N] 29)) fun e w' => ∃ av cv, e = .returned (.tuple #[.agg #[.string mp, .string ms, .int .i64 mz, .slice av nl cv, .string mk, .int .u64 (mg : Int)], .bool R]) ∧ RowOk w' av cv M.l ∧ Below W2.heap.size W2 w') := HRM.out.mono fun e w' ⟨av, cv, he, h1, h3⟩ => ⟨av, cv, by rw [he, hmp, hms, hmz, hmk, hmg, hnl], h1, by rw [← hW2] at h3; exact h3⟩
  rw [hmp, hms, hmz, hmk, hmg, hnl] at HTR
  clear hs hB hbb hR hkn hks HRM hM hRR hN hK hV hW2 hmp hms hmz hmk hmg htb hwa hsv
  have HNL : Hid (M.l.length = nl) := hnl
  clear hnl
  go_enter Tryz.func6, Tryz.ntmps6
  go_wp2_with (first | (go_at_call 14; refine HRM2.out.mono ?_; rintro e w3 ⟨av, cv, rfl, hrow, hl3⟩; have HROW := Lib.hid hrow; have HL3 := Lib.hid hl3; clear hrow hl3; refine Hid.out ?_) | go_in)
  refine Lib.hid ?_
  obtain ⟨W4, hW4⟩ : ∃ W4, W4 = w3.alloc (.cells #[.string mp, .string ms, .int .i64 mz, .slice av nl cv, .string mk, .int .u64 (mg : Int)] 43) := ⟨_, rfl⟩
  have HW4 : Hid (W4 = w3.alloc (.cells #[.string mp, .string ms, .int .i64 mz, .slice av nl cv, .string mk, .int .u64 (mg : Int)] 43)) := hW4
  have HB34 : Hid (Below w3.heap.size w3 W4) := by show Below _ _ _; rw [hW4]; exact (Below.refl _ _).alloc (Nat.le_refl _) _
  have HS4 : Hid (W4.heap.size = w3.heap.size + 1) := by show _ = _; rw [hW4]; simp
  have HL4 : Hid (∀ W, Below W4.heap.size W4 W → Below W2.heap.size W2 W) := fun W h => (HL3.out.trans (HB34.out.mono HL3.out.size)).trans (h.mono (HL3.out.trans (HB34.out.mono HL3.out.size)).size)
  have HMX : Hid (∀ W, Below W4.heap.size W4 W → W.cell? ⟨w3.heap.size, 1, none⟩ = some (.string ms) ∧ W.cell? ⟨w3.heap.size, 2, none⟩ = some (.int .i64 mz) ∧ W.cell? ⟨w3.heap.size, 3, none⟩ = some (.slice av nl cv)) := fun W h => by
    have q := (bcell h).1 w3.heap.size
    rw [q 1 (by rw [HS4.out]; omega), q 2 (by rw [HS4.out]; omega), q 3 (by rw [HS4.out]; omega), hW4]
    exact ⟨by simp [go_sem], by simp [go_sem], by simp [go_sem]⟩
  have HRO : Hid (∀ W, Below W4.heap.size W4 W → RowOk W av cv M.l) := fun W h => (HROW.out.below HB34.out).below h
  cases R with
  | false =>
    obtain rfl := HVN.out rfl
    clear hW4
    go_wp2
    go_ret
    exact ⟨rfl, by rw [← HW4.out]; exact HBW.out _ (HL4.out _ (Below.refl _ _))⟩
  | true =>
    have o := HMO.out rfl
    have HMK : Hid (MOk M) := o
    have hVM : V = acM M path ks l := HVY.out rfl
    have HZZ : Hid (M.z = mz) := HX.out.2.2.1
    by_cases hpp : mp = path
    rotate_left
    · obtain rfl : V = 2 := hVM.trans (acM_2 (by rw [HX.out.1]; exact hpp))
      have hq := ba_ne hpp
      clear hW4 hpp hVM o
      go_wp2
      go_ret
      exact ⟨rfl, by rw [← HW4.out]; exact HBW.out _ (HL4.out _ (Below.refl _ _))⟩
    have hq := ba_eq hpp
    have HPP : Hid (M.path = path) := HX.out.1.trans hpp
    have HTR2 : Hid (Calls Tryz.prog 15 #[.agg #[.string mp, .string ms, .int .i64 mz, .slice av nl cv, .string mk, .int .u64 (mg : Int)], .slice a K cap] W4 fun e w' => e = .returned (.bool tb) ∧ Below W4.heap.size W4 w') := HTR.out rfl W4 _ cv (HL4.out _ (Below.refl _ _)) (by rw [← HX.out.2.2.2]; exact (HRO.out _ (Below.refl _ _)).ss)
    rw [hW4] at HTR2
    clear hpp HTR
    have HVM : Hid (V = acM M path ks l) := hVM
    clear hVM o
    go_wp2_with (first | (go_at_call 15; refine HTR2.out.mono ?_; rintro e w5 ⟨rfl, hl5⟩; rw [← hW4] at hl5; have HL5 := Lib.hid hl5; clear hl5; refine Hid.out ?_) | go_in)
    refine Lib.hid ?_
    clear hW4 HTR2
    obtain ⟨q1, q2, q3⟩ := HMX.out _ HL5.out
    have qb := HBX.out _ (HL4.out _ HL5.out)
    cases tb with
    | false =>
      obtain rfl : V = 3 := HVM.out.trans (acM_3 HPP.out HTB.out)
      go_wp2
      go_ret
      exact ⟨rfl, HBW.out _ (HL4.out _ HL5.out)⟩
    | true =>
      by_cases hzz : (N : Int) = mz
      rotate_left
      · obtain rfl : V = 4 := HVM.out.trans (acM_4 HPP.out HTB.out (by rw [HZZ.out, HN.out]; exact hzz))
        have hzb : ((N : Int) != mz) = true := by simpa using hzz
        go_wp2
        go_ret
        exact ⟨rfl, HBW.out _ (HL4.out _ HL5.out)⟩
      have hzb : ((N : Int) != mz) = false := by simpa using hzz
      have HZE : Hid ((l.length : Int) = M.z) := by show _ = _; rw [HZZ.out, HN.out]; exact hzz
      clear hzz
      by_cases hss : ms = wa
      rotate_left
      · obtain rfl : V = 5 := HVM.out.trans (acM_5 HPP.out HTB.out HZE.out (by rw [HX.out.2.1, HWA.out]; exact hss))
        have hsq := ba_ne (fun e => hss e.symm : wa ≠ ms)
        clear hss
        go_wp2_with fail
        clear q1 q2 q3 qb
        have HL5d : Hid (Below W4.heap.size W4 w5.drew) := HL5.out.drew
        refine wq 8 (S := (fun W => W.cell? ⟨w3.heap.size, 1, none⟩ = some (.string ms) ∧ W.cell? ⟨w.heap.size, 2, none⟩ = some (.slice (some ⟨bb, 0, none⟩) N N))) (by kernel_rfl) ⟨(HMX.out _ HL5d.out).1, HBX.out _ (HL4.out _ HL5d.out)⟩ fun hHeld => ?_
        refine uq (i := 0) rfl ?_
        try simp only [aP]
        refine uq (i := 1) rfl ?_
        try simp only [aP]
        refine uq (i := 4) rfl ?_
        try simp only [aP]
        refine uq (i := 5) rfl ?_
        try simp only [aP]
        refine rq 2 rfl fun K hK => ?_
        go_simp
        go_at_call 17
        refine (HSU.out _ (HL4.out _ HL5d.out)).mono ?_
        rintro e w6 ⟨rfl, hw6⟩
        obtain rfl := hw6.symm
        clear hw6
        try go_wp2_with fail
        refine hK.out _ _ (⟨(HMX.out _ HL5d.out).1, HBX.out _ (HL4.out _ HL5d.out)⟩) (fun hHeld => ?_)
        clear hK K
        try simp only [aP]
        refine rq 3 rfl fun K hK => ?_
        go_simp
        go_at_call 16
        refine (HWD.out _).mono ?_
        rintro e w7 ⟨rfl, hl7⟩
        have HL7 := Lib.hid (HL5d.out.trans (hl7.mono HL5d.out.size))
        clear hl7
        try go_wp2_with fail
        refine hK.out _ _ (⟨(HMX.out _ HL7.out).1, HBX.out _ (HL4.out _ HL7.out)⟩) (fun hHeld => ?_)
        clear hK K
        try simp only [aP]
        refine uq (i := 6) rfl ?_
        try simp only [aP]
        refine uq (i := 7) rfl ?_
        try simp only [aP]
        refine dq ?_
        obtain ⟨q1, q2, q3⟩ := HMX.out _ HL7.out
        have qb := HBX.out _ (HL4.out _ HL7.out)
        go_wp2
        go_ret
        exact ⟨rfl, HBW.out _ (HL4.out _ HL7.out)⟩
      have hsq := ba_eq hss.symm
      have HSE : Hid (M.sum = wd.wordA (sV l)) := by show _ = _; rw [HX.out.2.1, HWA.out]; exact hss
      clear hss
      go_wp2_with fail
      clear q1 q2 q3 qb
      have HL5d : Hid (Below W4.heap.size W4 w5.drew) := HL5.out.drew
      refine wq 8 (S := (fun W => W.cell? ⟨w3.heap.size, 1, none⟩ = some (.string ms) ∧ W.cell? ⟨w.heap.size, 2, none⟩ = some (.slice (some ⟨bb, 0, none⟩) N N))) (by kernel_rfl) ⟨(HMX.out _ HL5d.out).1, HBX.out _ (HL4.out _ HL5d.out)⟩ fun hHeld => ?_
      refine uq (i := 0) rfl ?_
      try simp only [aP]
      refine uq (i := 1) rfl ?_
      try simp only [aP]
      refine uq (i := 4) rfl ?_
      try simp only [aP]
      refine uq (i := 5) rfl ?_
      try simp only [aP]
      refine rq 2 rfl fun K hK => ?_
      go_simp
      go_at_call 17
      refine (HSU.out _ (HL4.out _ HL5d.out)).mono ?_
      rintro e w6 ⟨rfl, hw6⟩
      obtain rfl := hw6.symm
      clear hw6
      try go_wp2_with fail
      refine hK.out _ _ (⟨(HMX.out _ HL5d.out).1, HBX.out _ (HL4.out _ HL5d.out)⟩) (fun hHeld => ?_)
      clear hK K
      try simp only [aP]
      refine rq 3 rfl fun K hK => ?_
      go_simp
      go_at_call 16
      refine (HWD.out _).mono ?_
      rintro e w7 ⟨rfl, hl7⟩
      have HL7 := Lib.hid (HL5d.out.trans (hl7.mono HL5d.out.size))
      clear hl7
      try go_wp2_with fail
      refine hK.out _ _ (⟨(HMX.out _ HL7.out).1, HBX.out _ (HL4.out _ HL7.out)⟩) (fun hHeld => ?_)
      clear hK K
      try simp only [aP]
      refine uq (i := 6) rfl ?_
      try simp only [aP]
      refine uq (i := 7) rfl ?_
      try simp only [aP]
      refine dq ?_
      obtain ⟨q1, q2, q3⟩ := HMX.out _ HL7.out
      have qb := HBX.out _ (HL4.out _ HL7.out)
      go_wp2_with (go_at_call 18; refine (HUN.out _ (HL4.out _ HL7.out)).mono ?_; rintro e w8 ⟨⟨v8, ok, n8, X, rfl, hrow8, hn5, hcase⟩, hl8⟩; obtain ⟨ge, cpe, fe, rfl, _, _, _, _, hen⟩ := hrow8; have HL8 := Lib.hid (HL7.out.trans (hl8.mono HL7.out.size)); have HEN := Lib.hid hen; have HCA := Lib.hid hcase; clear hl8 hen hcase; refine Hid.out ?_)
      refine Lib.hid ?_
      clear q1 q2 q3 qb
      obtain ⟨q1, q2, q3⟩ := HMX.out _ HL8.out
      have qb := HBX.out _ (HL4.out _ HL8.out)
      rcases HCA.out with ⟨rfl, hgd, hun⟩ | ⟨rfl, rfl, hno⟩
      rotate_left
      · obtain rfl : V = 6 := HVM.out.trans (acM_6 HPP.out HTB.out HZE.out HSE.out (gT_no hno))
        clear hno HCA
        go_wp2
        go_ret
        exact ⟨rfl, HBW.out _ (HL4.out _ HL8.out)⟩
      have HGT : Hid (gT l = true) := gT_yes hgd
      have HGR : Hid (gR l (toL M.l) = eqR X n8 (toL M.l)) := gR_is _ hgd hun
      have HSME : Hid (tt.SmE n8 X) := hgd.2.1
      have HRL : Hid (((rf.rfs X n8 (toL M.l)).map mt.BA).length ≤ M.l.length) := by
        show _ ≤ _
        rw [List.length_map]
        have h1 : (rf.rfs X n8 (toL M.l)).length ≤ (toL M.l).length := rfs_len _ _ _
        rw [toL_len] at h1
        exact h1
      obtain ⟨q, hqq⟩ : ∃ q, so.eqT ((rf.rfs X n8 (toL M.l)).map mt.BA) (toL M.l) = q := ⟨_, rfl⟩
      have HQQ : Hid (eqR X n8 (toL M.l) = q) := hqq
      have HEQ2 : Hid (∀ (W : World) a2 c2, ty.SrcS none W a2 ((rf.rfs X n8 (toL M.l)).map mt.BA) → RowOk W av cv M.l → Calls Tryz.prog 19 #[.slice a2 ((rf.rfs X n8 (toL M.l)).map mt.BA).length c2, .slice av nl cv] W fun e w' => e = .returned (.bool q) ∧ Below W.heap.size W w') := fun W a2 c2 h1 h2 => by rw [← hqq, ← HNL.out]; exact HEQ.out HMK.out W _ a2 c2 av cv h1 HRL.out h2
      obtain ⟨LL, hLL⟩ : ∃ x, ((rf.rfs X n8 (toL M.l)).map mt.BA).length = x := ⟨_, rfl⟩
      have HRF2 : Hid (∀ (W : World) (b cp : Nat), tt.EnR W b 0 n8 X → RowOk W av cv M.l → Calls Tryz.prog 20 #[.slice (some ⟨b, 0, none⟩) n8 cp, .slice av nl cv] W fun e w' => (∃ a2 c2, e = .returned (.slice a2 LL c2) ∧ ty.SrcS none w' a2 ((rf.rfs X n8 (toL M.l)).map mt.BA)) ∧ Below W.heap.size W w') := fun W b cp h2 h3 => by rw [← hLL, ← HNL.out]; exact HRF.out HMK.out W X b n8 cp av cv h2 HSME.out (by omega) h3
      rw [hLL] at HEQ2
      clear hgd hun HCA hqq HRF HEQ hLL
      cases q with
      | false =>
        obtain rfl : V = 7 := HVM.out.trans (acM_7 HPP.out HTB.out HZE.out HSE.out HGT.out (HGR.out.trans HQQ.out))
        go_wp2_with fail
        clear q1 q2 q3 qb
        have HL8d : Hid (Below W4.heap.size W4 w8.drew) := HL8.out.drew
        have HB8d : Hid (Below w8.heap.size w8 w8.drew) := (Below.refl _ _).drew
        refine wq 8 (S := (fun W => W.cell? ⟨w3.heap.size, 3, none⟩ = some (.slice av nl cv))) (by kernel_rfl) ((HMX.out _ HL8d.out).2.2) fun hHeld => ?_
        refine uq (i := 0) rfl ?_
        try simp only [aP]
        refine uq (i := 1) rfl ?_
        try simp only [aP]
        refine uq (i := 2) rfl ?_
        try simp only [aP]
        refine uq (i := 4) rfl ?_
        try simp only [aP]
        refine uq (i := 5) rfl ?_
        try simp only [aP]
        refine rq 3 rfl fun K hK => ?_
        go_simp
        go_at_call 20
        refine (HRF2.out _ _ _ (HEN.out.below HB8d.out) (HRO.out _ HL8d.out)).mono ?_
        rintro e w9 ⟨⟨a2, c2, rfl, hs9⟩, hl9⟩
        have HL9 := Lib.hid (HL8d.out.trans (hl9.mono HL8d.out.size))
        have HS9 := Lib.hid hs9
        clear hs9 hl9
        try go_wp2_with fail
        refine hK.out _ _ ((HMX.out _ HL9.out).2.2) (fun hHeld => ?_)
        clear hK K
        try simp only [aP]
        refine rq 6 rfl fun K hK => ?_
        go_simp
        go_at_call 19
        refine (HEQ2.out _ _ _ HS9.out (HRO.out _ HL9.out)).mono ?_
        rintro e w10 ⟨rfl, hl10⟩
        have HL10 := Lib.hid (HL9.out.trans (hl10.mono HL9.out.size))
        clear hl10
        try go_wp2_with fail
        refine hK.out _ _ ((HMX.out _ HL10.out).2.2) (fun hHeld => ?_)
        clear hK K
        try simp only [aP]
        refine uq (i := 7) rfl ?_
        try simp only [aP]
        refine dq ?_
        obtain ⟨q1, q2, q3⟩ := HMX.out _ HL10.out
        have qb := HBX.out _ (HL4.out _ HL10.out)
        go_wp2
        go_ret
        exact ⟨rfl, HBW.out _ (HL4.out _ HL10.out)⟩
      | true =>
        obtain rfl : V = 0 := HVM.out.trans (acM_0 HPP.out HTB.out HZE.out HSE.out HGT.out (HGR.out.trans HQQ.out))
        go_wp2_with fail
        clear q1 q2 q3 qb
        have HL8d : Hid (Below W4.heap.size W4 w8.drew) := HL8.out.drew
        have HB8d : Hid (Below w8.heap.size w8 w8.drew) := (Below.refl _ _).drew
        refine wq 8 (S := (fun W => W.cell? ⟨w3.heap.size, 3, none⟩ = some (.slice av nl cv))) (by kernel_rfl) ((HMX.out _ HL8d.out).2.2) fun hHeld => ?_
        refine uq (i := 0) rfl ?_
        try simp only [aP]
        refine uq (i := 1) rfl ?_
        try simp only [aP]
        refine uq (i := 2) rfl ?_
        try simp only [aP]
        refine uq (i := 4) rfl ?_
        try simp only [aP]
        refine uq (i := 5) rfl ?_
        try simp only [aP]
        refine rq 3 rfl fun K hK => ?_
        go_simp
        go_at_call 20
        refine (HRF2.out _ _ _ (HEN.out.below HB8d.out) (HRO.out _ HL8d.out)).mono ?_
        rintro e w9 ⟨⟨a2, c2, rfl, hs9⟩, hl9⟩
        have HL9 := Lib.hid (HL8d.out.trans (hl9.mono HL8d.out.size))
        have HS9 := Lib.hid hs9
        clear hs9 hl9
        try go_wp2_with fail
        refine hK.out _ _ ((HMX.out _ HL9.out).2.2) (fun hHeld => ?_)
        clear hK K
        try simp only [aP]
        refine rq 6 rfl fun K hK => ?_
        go_simp
        go_at_call 19
        refine (HEQ2.out _ _ _ HS9.out (HRO.out _ HL9.out)).mono ?_
        rintro e w10 ⟨rfl, hl10⟩
        have HL10 := Lib.hid (HL9.out.trans (hl10.mono HL9.out.size))
        clear hl10
        try go_wp2_with fail
        refine hK.out _ _ ((HMX.out _ HL10.out).2.2) (fun hHeld => ?_)
        clear hK K
        try simp only [aP]
        refine uq (i := 7) rfl ?_
        try simp only [aP]
        refine dq ?_
        obtain ⟨q1, q2, q3⟩ := HMX.out _ HL10.out
        have qb := HBX.out _ (HL4.out _ HL10.out)
        go_wp2
        go_ret
        exact ⟨rfl, HBW.out _ (HL4.out _ HL10.out)⟩

end Go.Proofs.YtkmhaemcpakobaaGreatDoor.ac

namespace Go.Proofs.YtkmhaemcpakobaaGreatDoor.ty
open Go.ChangeShapes Go.WideShapes Go.ChangeAt Go.RowKit Go.Deep
set_option linter.unusedVariables false
set_option linter.unusedSimpArgs false

/-! ### Equal lists -/

set_option maxRecDepth 100000 in
set_option maxHeartbeats 2000000 in
theorem eq1Tr_any (y0 : ByteArray) (y1 : Int) (y2 : Int)  (w : World)  :
    Calls Tryz.prog 25 #[.agg #[.string y0, .int .u64 y1, .int .u64 y2], .agg #[.string y0, .int .u64 y1, .int .u64 y2]] w fun e w' => e = .returned (.bool true) ∧ Below w.heap.size w w' := by

  have HB0 : Hid (Below w.heap.size w ((w.alloc (.cells #[.string y0, .int .u64 y1, .int .u64 y2] 55)).alloc (.cells #[.string y0, .int .u64 y1, .int .u64 y2] 55))) := ((Below.refl _ _).alloc (Nat.le_refl _) _).alloc (by simp) _
  go_enter Tryz.func25, Tryz.ntmps25
  go_wp2
  go_ret
  first
    | exact ⟨by first | rfl | simp, HB0.out⟩
    | exact ⟨by first | rfl | simp, HB0.out.drew⟩
    | exact ⟨by first | rfl | simp, below_drewN HB0.out _⟩

set_option maxRecDepth 100000 in
set_option maxHeartbeats 4000000 in
theorem eqTr_any (a a' : Option Addr) (c c' : Nat) (l : List Tr) (w : World) (hb : SrcTr none w a l) (hb' : SrcTr none w a' l) (hn : wtTr l ≤ 1048576) :
    Calls Tryz.prog 11 #[.slice a l.length c, .slice a' l.length c'] w fun e w' => e = .returned (.bool true) ∧ Below w.heap.size w w' := by
  have hl := wtTr_len l
  have hn1 : l.length ≤ 1048576 := by omega
  have HB : Hid (SrcTr none w a l) := hb
  have HB' : Hid (SrcTr none w a' l) := hb'
  clear hb hb' hl
  go_enter Tryz.func11, Tryz.ntmps11
  go_wp2
  go_loopw [5] (fun i wr => ∃ k : Nat, k ≤ l.length ∧ i = .int .i64 (k : Int) ∧ Below w.heap.size w wr) (fun i _ => l.length - (intOf i).toNat)
  case atStart => exact ⟨0, Nat.zero_le _, rfl, Below.refl _ _⟩
  case round =>
    obtain ⟨k, hk, rfl, hbel⟩ := hrel
    have HBE : Hid (Below w.heap.size w wr) := hbel
    by_cases hlt : k < l.length
    · obtain ⟨x, hx⟩ : ∃ x, l[k]? = some x := ⟨_, List.getElem?_eq_getElem hlt⟩
      have hwx := wtTr_mem (List.mem_of_getElem? hx)
      rcases HB.out with ⟨_, h⟩ | ⟨b, o, rfl, _, hc⟩
      · rw [h] at hlt; simp at hlt
      rcases HB'.out with ⟨_, h⟩ | ⟨b', o', rfl, _, hc'⟩
      · rw [h] at hlt; simp at hlt
      have hlt' : (k : Int) < (l.length : Int) := by omega
      have hk0 : (0 : Int) ≤ (k : Int) := by omega
      obtain ⟨e0, e1, e2⟩ := hc k x hx
      obtain ⟨e0', e1', e2'⟩ := hc' k x hx
      have K : ∀ {W : World} {q p v}, Below w.heap.size w W → w.cell? ⟨q, p, none⟩ = some v → W.cell? ⟨q, p, none⟩ = some v := fun {W q p v} hW h => (hW.cell (p := ⟨q, p, none⟩) (World.block_lt_of_cell? _ _ h)).trans h
      have HC : Hid (∀ W : World, Below w.heap.size w W → (W.cell? ⟨b, o + k * 3, none⟩ = some (.string x.fName) ∧ W.cell? ⟨b, o + k * 3 + 1, none⟩ = some (.int .u64 x.fN) ∧ W.cell? ⟨b, o + k * 3 + 2, none⟩ = some (.int .u64 x.fE)) ∧ W.cell? ⟨b', o' + k * 3, none⟩ = some (.string x.fName) ∧ W.cell? ⟨b', o' + k * 3 + 1, none⟩ = some (.int .u64 x.fN) ∧ W.cell? ⟨b', o' + k * 3 + 2, none⟩ = some (.int .u64 x.fE)) := fun W h => ⟨⟨K h e0, K h e1, K h e2⟩, K h e0', K h e1', K h e2'⟩
      have HEQ : Hid (∀ W, Below w.heap.size w W → Calls Tryz.prog 25 #[.agg #[.string x.fName, .int .u64 x.fN, .int .u64 x.fE], .agg #[.string x.fName, .int .u64 x.fN, .int .u64 x.fE]] W fun e w' => e = .returned (.bool true) ∧ Below W.heap.size W w') := fun W h => eq1Tr_any x.fName x.fN x.fE  W 
      obtain ⟨z0, hz0⟩ : ∃ z, x.fName = z := ⟨_, rfl⟩
      obtain ⟨z1, hz1⟩ : ∃ z, x.fN = z := ⟨_, rfl⟩
      obtain ⟨z2, hz2⟩ : ∃ z, x.fE = z := ⟨_, rfl⟩
      rw [hz0, hz1, hz2] at HC HEQ
      clear hbel hc hc' hx HB HB' hz0 hz1 hz2 e0 e1 e2 e0' e1' e2' K hwx
      go_wp2_with fail
      go_region_held3 (fun W => (W.cell? ⟨b, o + k * 3, none⟩ = some (.string z0) ∧ W.cell? ⟨b, o + k * 3 + 1, none⟩ = some (.int .u64 z1) ∧ W.cell? ⟨b, o + k * 3 + 2, none⟩ = some (.int .u64 z2)) ∧ W.cell? ⟨b', o' + k * 3, none⟩ = some (.string z0) ∧ W.cell? ⟨b', o' + k * 3 + 1, none⟩ = some (.int .u64 z1) ∧ W.cell? ⟨b', o' + k * 3 + 2, none⟩ = some (.int .u64 z2))
        (first | exact HC.out _ HBE.out.drew | exact HC.out _ hb2 | exact HC.out _ HBE.out | go_keep)
        (((go_at_call 25; refine (HEQ.out _ HBE.out.drew).mono ?_; rintro e w2 ⟨rfl, hl2⟩; have hb2 : Below w.heap.size w w2 := HBE.out.drew.trans (hl2.mono HBE.out.size))))
      go_wp2_with fail
      go_roundw
      case rel => exact ⟨k + 1, by omega, by go_num, hb2⟩
      case measure => simp [intOf]; omega
    · have hlt' : ¬ (k : Int) < (l.length : Int) := by omega
      go_wp2
      go_ret
      exact ⟨rfl, hbel⟩

end Go.Proofs.YtkmhaemcpakobaaGreatDoor.ty

namespace Go.Proofs.YtkmhaemcpakobaaGreatDoor.ty
open Go.ChangeShapes Go.WideShapes Go.ChangeAt Go.RowKit Go.Deep
set_option linter.unusedVariables false
set_option linter.unusedSimpArgs false

/-! ### Copies of lists that came in -/

theorem makeN {P : Program} (t e : TypeId) (z : Value) (sz bytes : Nat) (ht : P.underlying t = some (.slice e)) (hinfo : (P.info? e).map (fun i => (i.zero, i.size, i.bytes)) = some (some z, sz, bytes))
    (kl kc : IntKind) (n : Nat) (hbytes : bytes * n ≤ 281474976710656) (h63 : n ≤ 9223372036854775807) (w : World) :
    (Instr.makeSlice t (.int kl (n : Int)) (.int kc (n : Int))).run P w = .ok (.slice (some ⟨w.heap.size, 0, none⟩) n n) (w.alloc (.cells (madeCells z.cells (n * sz)) e)) := by
  obtain ⟨i, hi, hzz⟩ := Option.map_eq_some_iff.1 hinfo
  simp only [Prod.mk.injEq] at hzz
  obtain ⟨hz, hs, hb⟩ := hzz
  have hb' : (i.bytes : Int) * (n : Int) ≤ 281474976710656 := by
    have h : ((i.bytes * n : Nat) : Int) ≤ 281474976710656 := by rw [hb]; omega
    rwa [Int.natCast_mul] at h
  have hr := run_make (P := P) w t e i z ht hi hz kl kc n n (by omega) (Int.le_refl _) hb' (by omega)
  simp only [Int.toNat_natCast, hs] at hr
  exact hr

theorem rowIs_madeN (w : World) (z : Array Value) (n sz : Nat) (t : TypeId) (hz : z.size = sz) (hs : 0 < sz) : (w.alloc (.cells (madeCells z (n * sz)) t)).rowIs w.heap.size t (n * sz) (fun j => z[j % sz]!) :=
  ⟨_, blk_alloc_new _ _, size_madeCells _ _, fun i hi => by simp [madeCells, hi, hz]⟩

theorem blk_oth {w : World} {b c i : Nat} {v : Value} (h : c ≠ b) : (w.setCell ⟨b, i, none⟩ v).heap[c]? = w.heap[c]? := by
  simp only [World.setCell]
  rw [Array.getElem?_modify, if_neg (fun e => h e.symm)]

theorem far {w : World} {b c i j : Nat} {v : Value} (h : b ≠ c) : (w.setCell ⟨b, i, none⟩ v).cell? ⟨c, j, none⟩ = w.cell? ⟨c, j, none⟩ := World.cell?_of_block (a := ⟨c, j, none⟩) (blk_oth (fun e => h e.symm))

theorem oth {w : World} {b i j : Nat} {v : Value} (h : i ≠ j) : (w.setCell ⟨b, i, none⟩ v).cell? ⟨b, j, none⟩ = w.cell? ⟨b, j, none⟩ := World.cell?_setCell_other w ⟨b, i, none⟩ ⟨b, j, none⟩ v (by simp [h])

theorem Kep.set {lo b i : Nat} {w w' : World} {v : Value} (h : Kep (some lo) w w') (hb : b < lo) : Kep (some lo) w (w'.setCell ⟨b, i, none⟩ v) := fun j hj hs => by
  have := hj lo rfl
  rw [blk_oth (by omega)]
  exact h j hj hs

theorem Kep.refl (md : Option Nat) (w : World) : Kep md w w := fun _ _ _ => rfl
theorem Kep.trans {md : Option Nat} {a b c : World} (h : Kep md a b) (h2 : Kep md b c) (hs : a.heap.size ≤ b.heap.size) : Kep md a c := fun j hj hl => (h2 j hj (by omega)).trans (h j hj hl)

theorem Okb.row {lo b : Nat} {w : World} {t : TypeId} {n : Nat} {f : Nat → Value} (hl : lo ≤ b) (h : w.rowIs b t n f) : Okb (some lo) w b := fun q hq => by
  cases hq
  obtain ⟨c, h1, _⟩ := h
  exact ⟨hl, c, t, h1⟩

theorem infoS : (Tryz.prog.info? 9).map (fun i => (i.zero, i.size, i.bytes)) = some (some (.string ⟨#[]⟩), 1, 16) := by kernel_rfl

theorem stored3o {W : World} {b o : Nat} {u0 u1 u2 v0 v1 v2 : Value} (h0 : W.cell? ⟨b, o, none⟩ = some u0) (h1 : W.cell? ⟨b, o + 1, none⟩ = some u1) (h2 : W.cell? ⟨b, o + 2, none⟩ = some u2) :
    (((W.setCell ⟨b, o, none⟩ v0).setCell ⟨b, o + 1, none⟩ v1).setCell ⟨b, o + 2, none⟩ v2).cell? ⟨b, o, none⟩ = some v0 ∧ (((W.setCell ⟨b, o, none⟩ v0).setCell ⟨b, o + 1, none⟩ v1).setCell ⟨b, o + 2, none⟩ v2).cell? ⟨b, o + 1, none⟩ = some v1 ∧ (((W.setCell ⟨b, o, none⟩ v0).setCell ⟨b, o + 1, none⟩ v1).setCell ⟨b, o + 2, none⟩ v2).cell? ⟨b, o + 2, none⟩ = some v2 :=
  ⟨(oth (by omega)).trans ((oth (by omega)).trans (World.cell?_setCell_same _ _ _ (h0))), (oth (by omega)).trans (World.cell?_setCell_same _ _ _ ((oth (by omega)).trans (h1))), World.cell?_setCell_same _ _ _ ((oth (by omega)).trans ((oth (by omega)).trans (h2)))⟩

theorem infoTr : (Tryz.prog.info? 55).map (fun i => (i.zero, i.size, i.bytes)) = some (some (.agg #[.string ⟨#[]⟩, .int .u64 0, .int .u64 0]), 3, 32) := by kernel_rfl

/-- Cells stored one behind the other are there. -/
theorem stored3 {W : World} {b : Nat} {u0 u1 u2 v0 v1 v2 : Value} (h0 : W.cell? ⟨b, 0, none⟩ = some u0) (h1 : W.cell? ⟨b, 1, none⟩ = some u1) (h2 : W.cell? ⟨b, 2, none⟩ = some u2) :
    (((W.setCell ⟨b, 0, none⟩ v0).setCell ⟨b, 1, none⟩ v1).setCell ⟨b, 2, none⟩ v2).cell? ⟨b, 0, none⟩ = some v0 ∧ (((W.setCell ⟨b, 0, none⟩ v0).setCell ⟨b, 1, none⟩ v1).setCell ⟨b, 2, none⟩ v2).cell? ⟨b, 1, none⟩ = some v1 ∧ (((W.setCell ⟨b, 0, none⟩ v0).setCell ⟨b, 1, none⟩ v1).setCell ⟨b, 2, none⟩ v2).cell? ⟨b, 2, none⟩ = some v2 :=
  ⟨(oth (by omega)).trans ((oth (by omega)).trans (World.cell?_setCell_same _ _ _ (h0))), (oth (by omega)).trans (World.cell?_setCell_same _ _ _ ((oth (by omega)).trans (h1))), World.cell?_setCell_same _ _ _ ((oth (by omega)).trans ((oth (by omega)).trans (h2)))⟩


theorem retTr {fn : Func} {i : Tmp} (hf : fn.results = #[.cell i 55]) {tmps : Array Value} {W : World} {b : Nat} {v0 v1 v2 : Value} {R : Ending → World → Prop} (h4 : tmps.getD i undef = .pointer (some ⟨b, 0, none⟩))
    (k0 : W.cell? ⟨b, 0, none⟩ = some v0) (k1 : W.cell? ⟨b, 1, none⟩ = some v1) (k2 : W.cell? ⟨b, 2, none⟩ = some v2) (hR : R (.returned (.agg #[v0, v1, v2])) W) :
    bodyPost Tryz.prog fn R Exit.ret { tmps := tmps, defers := [] } W := by
  have h4' : tmps[i]?.getD undef = .pointer (some ⟨b, 0, none⟩) := by simpa using h4
  exact bodyPost_ret (v := .agg #[v0, v1, v2]) (by simp [results, hf, go_sem, h4', k0, k1, k2]) rfl hR

set_option maxRecDepth 100000 in
set_option maxHeartbeats 2000000 in
theorem to1Tr_any (y0 : ByteArray) (y1 : Int) (y2 : Int)  (w : World)  :
    Calls Tryz.prog 22 #[.agg #[.string y0, .int .u64 y1, .int .u64 y2]] w fun e w' => (e = .returned (.agg #[.string y0, .int .u64 y1, .int .u64 y2])) ∧ Below w.heap.size w w' := by

  go_enter Tryz.func22, Tryz.ntmps22
  go_wp2
  refine retTr (fn := Tryz.f22) Tryz.results22 rfl (v0 := .string y0) (v1 := .int .u64 y1) (v2 := .int .u64 y2) (by simp [go_sem]) (by simp [go_sem]) (by simp [go_sem]) ⟨rfl, (((Below.refl _ _).alloc (Nat.le_refl _) _).alloc (by simp) _).alloc (by simp; omega) _⟩

set_option maxRecDepth 100000 in
set_option maxHeartbeats 4000000 in
theorem toTr_any (a : Option Addr) (cap : Nat) (l : List Tr) (w : World) (hb : SrcTr none w a l) (hn : wtTr l ≤ 1048576) :
    Calls Tryz.prog 8 #[.slice a l.length cap] w fun e w' => e = .returned (.slice (some ⟨w.heap.size, 0, none⟩) l.length l.length) ∧ SrcTr (some w.heap.size) w' (some ⟨w.heap.size, 0, none⟩) l ∧ Below w.heap.size w w' := by
  have hl := wtTr_len l
  have hn1 : l.length ≤ 1048576 := by omega
  have hmk := makeN (P := Tryz.prog) 31 55 (.agg #[.string ⟨#[]⟩, .int .u64 0, .int .u64 0]) 3 32 Tryz.underlying31 infoTr .i64 .i64 l.length (by omega) (by omega)
  clear hl
  go_enter Tryz.func8, Tryz.ntmps8
  go_wp2
  clear hmk
  go_loopw [4] (fun i wr => ∃ (k : Nat) (f : Nat → Value), k ≤ l.length ∧ i = .int .i64 (k : Int) ∧ wr.rowIs w.heap.size 55 (l.length * 3) f ∧ (∀ (i : Nat) (x : Tr), i < k → l[i]? = some x → CTr (some (w.heap.size + 1)) wr w.heap.size (i * 3) x) ∧ Below w.heap.size w wr) (fun i _ => l.length - (intOf i).toNat)
  case atStart => exact ⟨0, _, Nat.zero_le _, rfl, rowIs_madeN w #[.string ⟨#[]⟩, .int .u64 0, .int .u64 0] l.length 3 55 rfl (by omega), fun i x h => by omega, (Below.refl _ _).alloc (Nat.le_refl _) _⟩
  case round =>
    obtain ⟨k, f, hk, rfl, hrow, hcop, hbel⟩ := hrel
    have HCP : Hid (∀ (i : Nat) (x : Tr), i < k → l[i]? = some x → CTr (some (w.heap.size + 1)) wr w.heap.size (i * 3) x) := hcop
    by_cases hlt : k < l.length
    · rcases hb with ⟨_, rfl⟩ | ⟨b, off, rfl, _, hc⟩
      · simp at hlt
      obtain ⟨x, hx⟩ : ∃ x, l[k]? = some x := ⟨_, List.getElem?_eq_getElem hlt⟩
      have hwx := wtTr_mem (List.mem_of_getElem? hx)
      obtain ⟨q0, q1, q2⟩ := (hc k x hx).below hbel
      have hki : (k : Int) < (l.length : Int) := by omega
      have hwl : w.heap.size < wr.heap.size := hrow.lt
      have HTO : Hid (Calls Tryz.prog 22 #[.agg #[.string x.fName, .int .u64 x.fN, .int .u64 x.fE]] wr fun e w' => (e = .returned (.agg #[.string x.fName, .int .u64 x.fN, .int .u64 x.fE])) ∧ Below wr.heap.size wr w') := to1Tr_any x.fName x.fN x.fE  wr 
      have HX : Hid (l[k]? = some x) := hx
      obtain ⟨z0, hz0⟩ : ∃ z, x.fName = z := ⟨_, rfl⟩
      obtain ⟨z1, hz1⟩ : ∃ z, x.fN = z := ⟨_, rfl⟩
      obtain ⟨z2, hz2⟩ : ∃ z, x.fE = z := ⟨_, rfl⟩
      rw [hz0] at q0 HTO
      rw [hz1] at q1 HTO
      rw [hz2] at q2 HTO
      have HE : Hid (x.fName = z0 ∧ x.fN = z1 ∧ x.fE = z2) := ⟨hz0, hz1, hz2⟩
      clear hc hx hcop hwx hz0 hz1 hz2 
      go_wp2_with (go_at_call 22; refine HTO.out.mono ?_; rintro e w1 ⟨⟨rfl⟩, hl1⟩; have hrow1 := hrow.of_block (hl1.block _ hwl); have r0 := hrow1.cell (i := k * 3) (by omega); have r1 := hrow1.cell (i := k * 3 + 1) (by omega); have r2 := hrow1.cell (i := k * 3 + 2) (by omega); have f0 := hrow1.frozen (k * 3); have f1 := hrow1.frozen (k * 3 + 1); have f2 := hrow1.frozen (k * 3 + 2))
      go_roundw
      case rel =>
        obtain ⟨hz0, hz1, hz2⟩ := HE.out
        refine ⟨k + 1, _, by omega, by go_num, (((hrow1.set (k * 3) _).set (k * 3 + 1) _).set (k * 3 + 2) _), fun i y hi hy => ?_, ((((hbel.trans (hl1.mono hbel.size)).setCell (Nat.le_refl _) _).setCell (Nat.le_refl _) _).setCell (Nat.le_refl _) _)⟩
        by_cases he : i = k
        · subst he
          rw [HX.out] at hy
          obtain rfl := Option.some.inj hy
          obtain ⟨t0, t1, t2⟩ := stored3o (o := i * 3) (v0 := .string z0) (v1 := .int .u64 z1) (v2 := .int .u64 z2) r0 r1 r2
          exact ⟨by rw [hz0]; exact t0, by rw [hz1]; exact t1, by rw [hz2]; exact t2⟩
        · exact (HCP.out i y (by omega) hy).kept (fun j hj => (oth (by omega)).trans ((oth (by omega)).trans ((oth (by omega)).trans (World.cell?_of_block (a := ⟨w.heap.size, _, none⟩) (hl1.block _ hwl))))) (((((Kep.of_below hl1).set (by omega)).set (by omega)).set (by omega)))
      case measure => simp [intOf]; omega
    · have hki : ¬ (k : Int) < (l.length : Int) := by omega
      obtain rfl : k = l.length := by omega
      go_wp2
      go_ret
      exact ⟨rfl, .inr ⟨_, 0, rfl, Okb.row (Nat.le_refl _) hrow, fun i x hx => by rw [Nat.zero_add]; exact (HCP.out i x (List.getElem?_eq_some_iff.1 hx).1 hx).mono (by omega)⟩, hbel⟩

end Go.Proofs.YtkmhaemcpakobaaGreatDoor.ty
