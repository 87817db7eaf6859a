import Derived.Test.YthklplfpnciodaaGreatDoorXB
namespace Go.Proofs.YthklplfpnciodaaGreatDoor.ex
open Go.ChangeShapes Go.WideShapes Go.ChangeAt Go.RowKit Go.Deep
set_option linter.unusedVariables false
set_option linter.unusedSimpArgs false

/-- A list of nodes in a block. -/
def XsB (w : World) (b n : Nat) (E : Nat → Ex) : Prop := ∀ i, i < n → w.cell? ⟨b, i * 4, none⟩ = some (.int .i64 (E i).kind) ∧ w.cell? ⟨b, i * 4 + 1, none⟩ = some (.string (E i).text) ∧ w.cell? ⟨b, i * 4 + 2, none⟩ = some (.int .i64 (E i).n) ∧ w.cell? ⟨b, i * 4 + 3, none⟩ = some (.int .i64 (E i).size)

theorem XsB.below {w w' : World} {b n : Nat} {E : Nat → Ex} (h : XsB w b n E) (hb : Below w.heap.size w w') : XsB w' b n E := by
  intro i hi
  obtain ⟨h0, h1, h2, h3⟩ := h i hi
  have hl : b < w.heap.size := World.block_lt_of_cell? _ _ h0
  exact ⟨(hb.cell (p := ⟨b, _, none⟩) hl).trans h0, (hb.cell (p := ⟨b, _, none⟩) hl).trans h1, (hb.cell (p := ⟨b, _, none⟩) hl).trans h2, (hb.cell (p := ⟨b, _, none⟩) hl).trans h3⟩

def lenV : Value → Nat | .slice _ n _ => n | _ => 0

/-- A part as a slice: the capacity goes to C. -/
def partV (E : Nat → Ex) (b C q : Nat) : Value := .slice (some ⟨b, q * 4, none⟩) ((E q).size.toNat + 1) (C - q)

theorem infoX : (Tryz.prog.info? 26).map (fun i => (i.zero, i.size, i.bytes)) = some (some (.slice none 0 0), 1, 24) := by kernel_rfl

theorem parts_one (E : Nat → Ex) (b C : Nat) (l : List Nat) : ∀ u ∈ l.map (partV E b C), u.oneCell' = true := by
  intro u hu
  obtain ⟨q, _, rfl⟩ := List.mem_map.1 hu
  rfl

theorem own_none (w : World) (e : TypeId) : (w.alloc (.cells #[] e)).ownsRow w.heap.size e 1 (.slice (some ⟨w.heap.size, 0, none⟩) 0 0) 0 [] := World.ownsRow_made w #[] 0 (Nat.le_refl _) (by decide) rfl

abbrev SZX : Value := .func (.func 41) #[] #[]

theorem sizeOf_any (k n z : Int) (s : ByteArray) (w : World) : Calls Tryz.prog 41 #[.agg #[.int .i64 k, .string s, .int .i64 n, .int .i64 z]] w fun e w' => e = .returned (.int .i64 z) ∧ Below w.heap.size w w' := by
  go_enter Tryz.func41, Tryz.ntmps41
  go_wp2
  go_ret
  exact ⟨rfl, (Below.refl _ _).alloc (Nat.le_refl _) _⟩

set_option maxRecDepth 100000 in
set_option maxHeartbeats 1000000 in
theorem cut_any (E : Nat → Ex) (b n p len cap : Nat) (a : Option Addr) (w : World) (hX : XsB w b n E) (hp : p + len ≤ n) (hn : n ≤ 3000) (hc : len ≤ cap ∧ cap ≤ 1099511627776) (ha : len = 0 ∨ a = some ⟨b, p * 4, none⟩) :
    Calls Tryz.prog 40 #[.slice a len cap, SZX] w fun e w' => (cutP E p len = none ∧ e = .returned (.tuple #[.slice none 0 0, .bool false]) ∨ ∃ ps v, cutP E p len = some ps ∧ e = .returned (.tuple #[v, .bool true]) ∧ w'.ownsRow w.heap.size 26 1 v ps.length (ps.map (partV E b (p + cap)))) ∧ Below w.heap.size w w' := by
  go_enter Tryz.func40, Tryz.ntmps40
  go_wp2
  go_loopw [0, 6, 7] (fun es v _ wr => ∃ (q : Nat) (pre : List Nat) (a' : Option Addr), p ≤ q ∧ q ≤ p + len ∧ pre.length ≤ q - p ∧ es = .slice a' (p + len - q) (p + cap - q) ∧ (p + len - q = 0 ∨ a' = some ⟨b, q * 4, none⟩) ∧ cutP E p len = (cutP E q (p + len - q)).map (pre ++ ·) ∧ wr.ownsRow w.heap.size 26 1 v pre.length (pre.map (partV E b (p + cap))) ∧ Below w.heap.size w wr) (fun es _ _ _ => lenV es)
  case atStart => exact ⟨p, [], a, Nat.le_refl _, by omega, by simp, by rw [Nat.add_sub_cancel_left, Nat.add_sub_cancel_left], by rw [Nat.add_sub_cancel_left]; exact ha, by rw [Nat.add_sub_cancel_left]; simp, own_none w _, (Below.refl _ _).alloc (Nat.le_refl _) _⟩
  case round =>
    obtain ⟨q, pre, a', hq0, hq1, hpl, rfl, ha', hcut, hown, hbel⟩ := hrel
    have HC : Hid (cutP E p len = (cutP E q (p + len - q)).map (pre ++ ·)) := hcut
    clear hcut
    have hsz := hbel.size
    obtain ⟨L, hL⟩ : ∃ L, p + len - q = L := ⟨_, rfl⟩
    obtain ⟨C, hC⟩ : ∃ C, p + cap - q = C := ⟨_, rfl⟩
    rw [hL] at ha' HC ⊢
    rw [hC]
    by_cases h0 : 0 < L
    · have h0' : (0 : Int) < (L : Int) := by omega
      rcases ha' with ha' | rfl
      · omega
      obtain ⟨g0, g1, g2, g3⟩ := (hX.below hbel) q (by omega)
      by_cases hb : (E q).size < 0 ∨ (L : Int) ≤ (E q).size
      · have HN : Hid (cutP E p len = none) := by show _ = _; rw [HC.out, cut_bad h0 hb]; rfl
        by_cases hb0 : (E q).size < 0
        · clear hb
          go_wp2_with (go_at_call 41; refine (sizeOf_any _ _ _ _ _).mono ?_; rintro e w1 ⟨rfl, hl1⟩)
          go_ret2
          exact ⟨.inl ⟨HN.out, rfl⟩, hbel.trans (hl1.mono hsz)⟩
        · have hb1 : (L : Int) ≤ (E q).size := by omega
          clear hb
          go_wp2_with (go_at_call 41; refine (sizeOf_any _ _ _ _ _).mono ?_; rintro e w1 ⟨rfl, hl1⟩)
          go_ret2
          exact ⟨.inl ⟨HN.out, rfl⟩, hbel.trans (hl1.mono hsz)⟩
      · have HS : Hid (cutP E q L = (cutP E (q + ((E q).size.toNat + 1)) (L - ((E q).size.toNat + 1))).map (q :: ·)) := cut_step h0 hb
        have hb0 : ¬ (E q).size < 0 := by omega
        have hb1 : ¬ (L : Int) ≤ (E q).size := by omega
        obtain ⟨z, hz⟩ : ∃ z : Nat, (E q).size = z := ⟨(E q).size.toNat, by omega⟩
        have hpv : partV E b (p + cap) q = .slice (some ⟨b, q * 4, none⟩) (z + 1) C := by simp [partV, hz, hC]
        have hz' : (E q).size.toNat = z := by omega
        clear hb
        rw [hz] at g3 hb0 hb1
        rw [hz'] at HS
        have HZ : Hid ((E q).size = z) := hz
        clear hz hz'
        go_wp2_with (first
          | (go_at_call 41; refine (sizeOf_any _ _ _ _ _).mono ?_; rintro e w1 ⟨rfl, hl1⟩; have hown1 := own_below hown hl1; have hbel1 := hbel.trans (hl1.mono hsz); have hsz1 := hbel1.size)
          | (at_builtin; refine app_own _ rfl _ _ 80 rfl w.heap.size 26 (.slice none 0 0) 24 Tryz.underlying80 infoX rfl _ _ _ rfl (hown1.alloc _) ⟨w1.heap.size, 0, none⟩ 1 1 [.slice (some ⟨b, q * 4, none⟩) (z + 1) C] rfl rfl (one_new _ _ _) ?c2 ?c3 ?c4 ?c5 ?_)
          | go_in)
        case c2 => first | rfl | (intro u hu; simp at hu; subst hu; rfl)
        case c3 => unfold maxLen; omega
        case c4 => omega
        case c5 => first | omega | (simp; omega)
        intro v' w' hown' hg
        have hb' := below_grown (hbel1.alloc hsz1 _) (hown1.alloc _) hg (by simp; omega)
        rw [← hpv, ← List.map_singleton (f := partV E b (p + cap)) (a := q), ← List.map_append] at hown'
        clear hown hown1 hg hpv
        go_wp2
        go_roundw
        case rel =>
          refine ⟨q + (z + 1), pre ++ [q], (if C = z + 1 then some ⟨b, q * 4, none⟩ else some ⟨b, q * 4 + (z + 1) * 4, none⟩), by omega, by omega, by simp; omega, ?_, ?_, ?_, by simpa using hown', hb'⟩
          · rw [show p + len - (q + (z + 1)) = L - (z + 1) by omega, show p + cap - (q + (z + 1)) = C - (z + 1) by omega]
          · by_cases hCz : C = z + 1
            · exact .inl (by omega)
            · right
              rw [if_neg hCz, show (q + (z + 1)) * 4 = q * 4 + (z + 1) * 4 by omega]
          · rw [HC.out, HS.out, show p + len - (q + (z + 1)) = L - (z + 1) by omega, Option.map_map]
            congr 1
            funext x
            simp
        case measure => simp [lenV]; omega
    · go_wp2
      go_ret2
      refine ⟨.inr ⟨pre, _, ?_, rfl, hown⟩, hbel⟩
      obtain rfl : L = 0 := by omega
      rw [HC.out, cut_zero]
      simp

end Go.Proofs.YthklplfpnciodaaGreatDoor.ex
