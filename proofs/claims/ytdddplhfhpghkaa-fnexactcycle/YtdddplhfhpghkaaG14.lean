import Derived.Test.YtdddplhfhpghkaaG02
import Derived.Deep.RegionHeld3
import Derived.WalkLawsBesides
import Derived.Lib.ItoaLen
import Derived.Test.YtdddplhfhpghkaaG01
import Derived.Deep.QuietTactic
import Derived.BigQuiet
namespace Go.Proofs.Ytdddplhfhpghkaa.sr
open Go.ChangeShapes Go.WideShapes Go.ChangeAt Go.RowKit Go.Deep
set_option linter.unusedVariables false
set_option linter.unusedSimpArgs false

/-! ### The marks -/

def dgt (k : Nat) : UInt8 := UInt8.ofNat (48 + k % 10)
theorem dgt_nat (k : Nat) : ((dgt k).toNat : Int) = 48 + ((k % 10 : Nat) : Int) := by
  have : (48 + k % 10) % 256 = 48 + k % 10 := Nat.mod_eq_of_lt (by omega)
  simp [dgt, UInt8.toNat_ofNat', this]

theorem dgt_conv (k : Nat) (wr : World) (z : Int) (hz : z = 48 + ((k % 10 : Nat) : Int)) : (convert 83 9 (.slice (some ⟨wr.heap.size, 0, none⟩) 1 1)).run Try.prog (wr.alloc (.cells #[.int .u8 z] 5)) = .ok (.string ⟨[dgt k].toArray⟩) (wr.alloc (.cells #[.int .u8 z] 5)) := by
  subst hz
  refine own_string (base := wr.heap.size) (n := 1) Try.underlying83 Try.underlying5 Try.underlying9 ?_
  rw [byteCells_one, dgt_nat]
  exact ⟨rfl, .inr ⟨wr.heap.size, 1, #[.int .u8 (48 + ((k % 10 : Nat) : Int))], rfl, Nat.le_refl _, heap_alloc_new wr _, by decide, by decide, rfl, rfl⟩⟩

theorem dec_step {k : Nat} (h : 9 < k) : Lib.decDigits k = Lib.decDigits (k / 10) ++ [dgt k] := by
  rw [Lib.decDigits, dif_neg (by omega)]; rfl
theorem dec_last {k : Nat} (h : ¬ 9 < k) : Lib.decDigits k = [dgt k] := by
  rw [Lib.decDigits, dif_pos (by omega), dgt, Nat.mod_eq_of_lt (by omega)]

/-- Digits of what is left; none of 0. -/
def dig (k : Nat) : List UInt8 := if k = 0 then [] else Lib.decDigits k
theorem dig_step {k : Nat} (h : 0 < k) : dig k = dig (k / 10) ++ [dgt k] := by
  unfold dig
  rw [if_neg (by omega)]
  by_cases h9 : 9 < k
  · rw [if_neg (by omega), dec_step h9]
  · rw [if_pos (by omega), dec_last h9]; rfl

def mark (k : Nat) : ByteArray := ⟨(109 :: Lib.decDigits k).toArray⟩

set_option maxRecDepth 100000 in
set_option maxHeartbeats 1000000 in
theorem mark_any (k0 : Nat) (h0 : 0 < k0) (h1 : k0 ≤ 9223372036854775807) (w : World) :
    Calls Try.prog 36 #[.int .i64 (k0 : Int)] w fun e w' => e = .returned (.string (mark k0)) ∧ Below w.heap.size w w' := by
  obtain ⟨G, hG⟩ : ∃ G, Lib.decDigits k0 = G := ⟨_, rfl⟩
  have hgl : G.length ≤ 21 := by
    have h := Lib.itoa_length_le (k0 : Int) (by omega) (by omega)
    have hN : Lib.itoa (k0 : Int) = Lib.decDigits k0 := by simp [Lib.itoa]
    rw [hN, hG] at h
    exact h
  have hd0 : dig k0 = G := by rw [dig, if_neg (by omega), hG]
  have HGG : Hid (mark k0 = ⟨(109 :: G).toArray⟩) := by show _ = _; rw [mark, hG]
  rw [HGG.out]
  have hpos : ¬ (k0 : Int) ≤ 0 := by omega
  clear hG
  go_enter Try.func36, Try.ntmps36
  go_wp2
  go_loopw [0, 3] (fun a b wr => ∃ (k : Nat) (l : List UInt8), a = .int .i64 (k : Int) ∧ b = .string ⟨l.toArray⟩ ∧ k ≤ 9223372036854775807 ∧ dig k ++ l = G ∧ Below w.heap.size w wr) (fun a _ _ => (intOf a).toNat)
  case atStart => exact ⟨k0, [], rfl, rfl, h1, by rw [List.append_nil]; exact hd0, Below.refl _ _⟩
  case round =>
    obtain ⟨k, l, rfl, rfl, hk, hd, hbel⟩ := hrel
    have HD : Hid (dig k ++ l = G) := hd
    have hll : l.length ≤ 21 := by rw [← hd, List.length_append] at hgl; omega
    clear hd hd0 hgl
    have hsz : (⟨l.toArray⟩ : ByteArray).size = l.length := by simp [ByteArray.size]
    obtain ⟨s, hs⟩ : ∃ s : ByteArray, (⟨l.toArray⟩ : ByteArray) = s := ⟨_, rfl⟩
    rw [hs] at hsz ⊢
    have hcat : ¬ 9223372036854775807 < 1 + s.size := by omega
    have HS : Hid ((⟨l.toArray⟩ : ByteArray) = s) := hs
    clear hs hsz
    have HC : Hid ((⟨#[dgt k]⟩ : ByteArray) ++ s = ⟨(dgt k :: l).toArray⟩) := by
      show _ = _
      rw [← HS.out]
      apply ByteArray.ext
      simp
    by_cases hlt : 0 < k
    · have hlti : 0 < (k : Int) := by omega
      have hconv := dgt_conv k wr (48 + (k : Int) % 10) (by omega)
      go_wp2
      go_roundw
      case rel => exact ⟨k / 10, dgt k :: l, by go_num, by rw [← HC.out], by omega, by rw [← HD.out, dig_step hlt]; simp, hbel.alloc hbel.size _⟩
      case measure => simp [intOf]; omega
    · have hlti : ¬ 0 < (k : Int) := by omega
      obtain rfl : k = 0 := by omega
      have HR : Hid ((⟨#[109]⟩ : ByteArray) ++ s = ⟨(109 :: G).toArray⟩) := by
        show _ = _
        rw [← HD.out, ← HS.out]
        apply ByteArray.ext; simp [dig]
      go_wp2
      go_ret
      exact ⟨ret_str HR.out, hbel⟩

/-- The cells of a row, the first ones marked. -/
def MkR (w : World) (bb off n k i : Nat) : Prop := (∃ cs, w.heap[bb]? = some (.cells cs 9 (0, 0)) ∧ off + n ≤ cs.size) ∧ ∀ j, j < i → w.cell? ⟨bb, off + j, none⟩ = some (.string (mark (k + j)))

theorem MkR.below {w w' : World} {bb off n k i : Nat} (h : MkR w bb off n k i) (hb : Below w.heap.size w w') : MkR w' bb off n k i := by
  obtain ⟨⟨cs, hc, hs⟩, hm⟩ := h
  have hlt := (Array.getElem?_eq_some_iff.1 hc).1
  exact ⟨⟨cs, (hb.block bb hlt).trans hc, hs⟩, fun j hj => (hb.cell (p := ⟨bb, _, none⟩) hlt).trans (hm j hj)⟩

theorem MkR.step {w : World} {bb off n k i : Nat} (h : MkR w bb off n k i) (hi : i < n) : MkR (w.setCell ⟨bb, off + i, none⟩ (.string (mark (k + i)))) bb off n k (i + 1) := by
  obtain ⟨⟨cs, hc, hs⟩, hm⟩ := h
  have hlt := (Array.getElem?_eq_some_iff.1 hc).1
  have e : (w.setCell ⟨bb, off + i, none⟩ (.string (mark (k + i)))).heap[bb]? = some (.cells (cs.setIfInBounds (off + i) (.string (mark (k + i)))) 9 (0, 0)) := by
    simp [World.setCell, Array.getElem?_modify, hc]
  refine ⟨⟨_, e, by simp; omega⟩, fun j hj => ?_⟩
  have key : (w.setCell ⟨bb, off + i, none⟩ (.string (mark (k + i)))).cell? ⟨bb, off + j, none⟩ = (cs.setIfInBounds (off + i) (.string (mark (k + i))))[off + j]? := by simp [World.cell?, e]
  rw [key, Array.getElem?_setIfInBounds]
  by_cases hji : j = i
  · subst hji
    rw [if_pos rfl, if_pos (by omega)]
  · have := hm j (by omega)
    simp only [World.cell?, hc] at this
    rw [if_neg (by omega)]
    simpa using this

theorem MkR.cell {w : World} {bb off n k i : Nat} (h : MkR w bb off n k i) (j : Nat) (hj : j < n) : ∃ x, w.cell? ⟨bb, off + j, none⟩ = some x ∧ w.frozen? ⟨bb, off + j, none⟩ = false := by
  obtain ⟨⟨cs, hc, hs⟩, _⟩ := h
  have hlt : off + j < cs.size := by omega
  exact ⟨cs[off + j], by simp [World.cell?, hc, hlt], by simp [World.frozen?, hc]⟩

set_option maxRecDepth 100000 in
set_option maxHeartbeats 1000000 in
theorem markS_any (bb off n c k0 : Nat) (w : World) (hM : MkR w bb off n k0 0) (B : Nat) (hB : B ≤ bb) (hBw : B ≤ w.heap.size) (h0 : 0 < k0) (hn : k0 + n ≤ 2000000) :
    Calls Try.prog 13 #[.slice (some ⟨bb, off, none⟩) n c, .int .i64 (k0 : Int)] w fun e w' => e = .returned (.int .i64 ((k0 + n : Nat) : Int)) ∧ MkR w' bb off n k0 n ∧ Below B w w' := by
  go_enter Try.func13, Try.ntmps13
  go_wp2
  go_loopw [1, 5] (fun a x wr => ∃ (i : Nat), i ≤ n ∧ x = .int .i64 (i : Int) ∧ a = .int .i64 ((k0 + i : Nat) : Int) ∧ MkR wr bb off n k0 i ∧ Below B w wr) (fun _ x _ => n - (intOf x).toNat)
  case atStart => exact ⟨0, Nat.zero_le _, rfl, rfl, hM, Below.refl _ _⟩
  case round =>
    clear hM
    obtain ⟨i, hi, rfl, rfl, hM, hbel⟩ := hrel
    by_cases h : i < n
    · have h' : (i : Int) < (n : Int) := by omega
      have HMT : Hid (Calls Try.prog 36 #[.int .i64 ((k0 + i : Nat) : Int)] wr fun e w' => e = .returned (.string (mark (k0 + i))) ∧ Below wr.heap.size wr w') := mark_any (k0 + i) (by omega) (by omega) wr
      obtain ⟨s, hs⟩ : ∃ s, mark (k0 + i) = s := ⟨_, rfl⟩
      obtain ⟨K, hK⟩ : ∃ K : Nat, k0 + i = K := ⟨_, rfl⟩
      rw [hs, hK] at HMT
      have HKK : Hid (k0 + i = K) := hK
      have HSS : Hid (mark (k0 + i) = s) := hs
      have HMM : Hid (MkR wr bb off n k0 i) := hM
      have HBB : Hid (Below B w wr) := hbel
      rw [hK]
      have hKb : K ≤ 2000000 := by omega
      clear hs hK hM
      go_wp2_with (go_at_call 36; refine HMT.out.mono ?_; rintro e w1 ⟨rfl, hb1⟩; obtain ⟨x, hx, hfx⟩ := (HMM.out.below hb1).cell i h)
      go_roundw
      case rel =>
        refine ⟨i + 1, by omega, by go_num, by rw [← Nat.add_assoc, HKK.out]; go_num, ?_, ?_⟩
        · have := (HMM.out.below hb1).step h
          rw [HSS.out] at this
          exact this
        · exact (HBB.out.trans (hb1.mono (Nat.le_trans hBw HBB.out.size))).setCell hB _
      case measure => simp [intOf]; omega
    · have h' : ¬ (i : Int) < (n : Int) := by omega
      obtain rfl : i = n := by omega
      go_wp2
      go_ret
      exact ⟨rfl, hM, hbel⟩

set_option maxRecDepth 100000 in
set_option maxHeartbeats 1000000 in
theorem heldS_any (bb off n c k0 : Nat) (w : World) (hM : MkR w bb off n k0 n) (h0 : 0 < k0) (hn : k0 + n ≤ 2000000) :
    Calls Try.prog 14 #[.slice (some ⟨bb, off, none⟩) n c, .int .i64 (k0 : Int)] w fun e w' => e = .returned (.int .i64 ((k0 + n : Nat) : Int)) ∧ Below w.heap.size w w' := by
  go_enter Try.func14, Try.ntmps14
  go_wp2
  go_loopw [1, 5] (fun a x wr => ∃ (i : Nat), i ≤ n ∧ x = .int .i64 (i : Int) ∧ a = .int .i64 ((k0 + i : Nat) : Int) ∧ Below w.heap.size w wr) (fun _ x _ => n - (intOf x).toNat)
  case atStart => exact ⟨0, Nat.zero_le _, rfl, rfl, Below.refl _ _⟩
  case round =>
    obtain ⟨i, hi, rfl, rfl, hbel⟩ := hrel
    by_cases h : i < n
    · have h' : (i : Int) < (n : Int) := by omega
      have HMT : Hid (Calls Try.prog 36 #[.int .i64 ((k0 + i : Nat) : Int)] wr.drew fun e w' => e = .returned (.string (mark (k0 + i))) ∧ Below wr.drew.heap.size wr.drew w') := mark_any (k0 + i) (by omega) (by omega) wr.drew
      have ce := (hM.below hbel).2 i h
      obtain ⟨s, hs⟩ : ∃ s, mark (k0 + i) = s := ⟨_, rfl⟩
      obtain ⟨K, hK⟩ : ∃ K : Nat, k0 + i = K := ⟨_, rfl⟩
      rw [hs] at HMT ce
      rw [hK] at HMT
      have HKK : Hid (k0 + i = K) := hK
      have HBB : Hid (Below w.heap.size w wr) := hbel
      have HCE : Hid (∀ w2, Below wr.drew.heap.size wr.drew w2 → w2.cell? ⟨bb, off + i, none⟩ = some (.string s)) := fun w2 h2 => (h2.cell (p := ⟨bb, _, none⟩) (World.block_lt_of_cell? _ _ ce)).trans ce
      rw [hK]
      have hKb : K ≤ 2000000 := by omega
      clear hs hK
      go_wp2_with fail
      go_region_held3 (fun w' => w'.cell? ⟨bb, off + i, none⟩ = some (.string s))
        (first
          | go_keep
          | exact HCE.out _ hb1)
        (first | ((go_at_call 36; refine HMT.out.mono ?_; rintro e w1 ⟨rfl, hb1⟩)))
      go_wp2_with fail
      go_roundw
      case rel => exact ⟨i + 1, by omega, by go_num, by rw [← Nat.add_assoc, HKK.out]; go_num, HBB.out.drew.trans (hb1.mono HBB.out.size)⟩
      case measure => simp [intOf]; omega
    · have h' : ¬ (i : Int) < (n : Int) := by omega
      obtain rfl : i = n := by omega
      go_wp2
      go_ret
      exact ⟨rfl, hbel⟩

end Go.Proofs.Ytdddplhfhpghkaa.sr

namespace Go.Proofs.Ytdddplhfhpghkaa.ty
open Go.ChangeShapes Go.WideShapes Go.ChangeAt Go.RowKit Go.Deep
set_option linter.unusedVariables false
set_option linter.unusedSimpArgs false

/-! ### The law's marks over lists that are own -/

def isSl : Value → Bool
  | .slice _ _ _ => true
  | _ => false
/-- A cell before and behind marks. -/
def K1 (v v' : Value) : Prop := (isSl v = true → v' = v) ∧ (isSl v = false → isSl v' = false)
theorem K1.refl (v : Value) : K1 v v := ⟨fun _ => rfl, fun h => h⟩
theorem K1.trans {u v x : Value} (h : K1 u v) (k : K1 v x) : K1 u x := ⟨fun e => by have := h.1 e; subst this; exact k.1 e, fun e => k.2 (h.2 e)⟩
/-- Marks keep the shape of every block. -/
def Shp (w w' : World) : Prop := ∀ (j : Nat) (cs : Array Value) (t : TypeId), w.heap[j]? = some (.cells cs t (0, 0)) → ∃ cs' : Array Value, w'.heap[j]? = some (.cells cs' t (0, 0)) ∧ ∀ (i : Nat) (v : Value), cs[i]? = some v → ∃ v' : Value, cs'[i]? = some v' ∧ K1 v v'
theorem Shp.refl (w : World) : Shp w w := fun j cs t h => ⟨cs, h, fun i v hv => ⟨v, hv, K1.refl v⟩⟩
theorem Shp.trans {A B C : World} (h : Shp A B) (k : Shp B C) : Shp A C := fun j cs t e => by
  obtain ⟨c1, e1, h1⟩ := h j cs t e
  obtain ⟨c2, e2, h2⟩ := k j c1 t e1
  exact ⟨c2, e2, fun i v hv => by
    obtain ⟨v1, g1, k1⟩ := h1 i v hv
    obtain ⟨v2, g2, k2⟩ := h2 i v1 g1
    exact ⟨v2, g2, k1.trans k2⟩⟩
theorem Shp.below {A B : World} (k : Below A.heap.size A B) : Shp A B := fun j cs t e => ⟨cs, (k.block j (Array.getElem?_eq_some_iff.1 e).1).trans e, fun i v hv => ⟨v, hv, K1.refl v⟩⟩
theorem Shp.set {w : World} {b p : Nat} {v x : Value} (hc : w.cell? ⟨b, p, none⟩ = some v) (hv : isSl v = false) (hx : isSl x = false) : Shp w (w.setCell ⟨b, p, none⟩ x) := fun j cs t e => by
  by_cases hj : j = b
  · subst hj
    have he : (w.setCell ⟨j, p, none⟩ x).heap[j]? = some (.cells (cs.setIfInBounds p x) t (0, 0)) := by simp [World.setCell, Array.getElem?_modify, e]
    refine ⟨_, he, fun i u hu => ?_⟩
    rw [Array.getElem?_setIfInBounds]
    by_cases hi : p = i
    · subst hi
      rw [if_pos rfl, if_pos (Array.getElem?_eq_some_iff.1 hu).1]
      have hcv : w.cell? ⟨j, p, none⟩ = some u := by simp [World.cell?, e, hu]
      rw [hc] at hcv
      have := Option.some.inj hcv
      subst this
      exact ⟨x, rfl, ⟨(fun h => by rw [hv] at h; cases h), fun _ => hx⟩⟩
    · rw [if_neg hi]
      exact ⟨u, hu, K1.refl u⟩
  · exact ⟨cs, by rw [show (w.setCell ⟨b, p, none⟩ x).heap[j]? = w.heap[j]? by simp only [World.setCell]; rw [Array.getElem?_modify, if_neg (fun e => hj e.symm)]]; exact e, fun i u hu => ⟨u, hu, K1.refl u⟩⟩

/-- Only blocks lo .. hi change, and these keep their shape. -/
def Rel (lo hi : Nat) (w w' : World) : Prop := (w'.os = w.os ∧ w'.tape = w.tape ∧ w'.output = w.output) ∧ w.heap.size ≤ w'.heap.size ∧ (∀ j, j < w.heap.size → (j < lo ∨ hi ≤ j) → w'.heap[j]? = w.heap[j]?) ∧ Shp w w'
theorem Rel.refl (lo hi : Nat) (w : World) : Rel lo hi w w := ⟨⟨rfl, rfl, rfl⟩, Nat.le_refl _, fun _ _ _ => rfl, Shp.refl w⟩
theorem Rel.trans {lo hi : Nat} {A B C : World} (h : Rel lo hi A B) (k : Rel lo hi B C) : Rel lo hi A C := ⟨⟨k.1.1.trans h.1.1, k.1.2.1.trans h.1.2.1, k.1.2.2.trans h.1.2.2⟩, Nat.le_trans h.2.1 k.2.1, fun j hj e => (k.2.2.1 j (Nat.lt_of_lt_of_le hj h.2.1) e).trans (h.2.2.1 j hj e), h.2.2.2.trans k.2.2.2⟩
theorem Rel.below {lo hi : Nat} {A B C : World} (h : Rel lo hi A B) (k : Below B.heap.size B C) : Rel lo hi A C := h.trans ⟨⟨k.os, k.tape, k.output⟩, k.size, fun j hj _ => k.block j hj, Shp.below k⟩
theorem Rel.set {lo hi : Nat} {A B : World} {b p : Nat} {v x : Value} (h : Rel lo hi A B) (hl : lo ≤ b) (hh : b < hi) (hc : B.cell? ⟨b, p, none⟩ = some v) (hv : isSl v = false) (hx : isSl x = false) : Rel lo hi A (B.setCell ⟨b, p, none⟩ x) :=
  h.trans ⟨⟨rfl, rfl, rfl⟩, by simp, fun j hj e => by simp only [World.setCell]; rw [Array.getElem?_modify, if_neg (by omega)], Shp.set hc hv hx⟩
theorem Rel.toBelow {lo hi : Nat} {w w' : World} (h : Rel lo hi w w') {B : Nat} (hB : B ≤ lo) (hs : B ≤ w.heap.size) : Below B w w' := ⟨h.1.1, h.1.2.1, h.1.2.2, h.2.1, fun j hj => h.2.2.1 j (by omega) (.inl (by omega))⟩
theorem cell_shp {w w' : World} (h : Shp w w') {b p : Nat} {v : Value} (hb : ∃ cs t, w.heap[b]? = some (.cells cs t (0, 0))) (hc : w.cell? ⟨b, p, none⟩ = some v) : ∃ v', w'.cell? ⟨b, p, none⟩ = some v' ∧ K1 v v' ∧ w'.frozen? ⟨b, p, none⟩ = false := by
  obtain ⟨cs, t, e⟩ := hb
  obtain ⟨cs', e', k⟩ := h b cs t e
  have hv : cs[p]? = some v := by simpa [World.cell?, e] using hc
  obtain ⟨v', h1, h2⟩ := k p v hv
  exact ⟨v', by simp [World.cell?, e', h1], h2, by simp [World.frozen?, e']⟩
theorem blk_shp {w w' : World} (h : Shp w w') {b : Nat} (hb : ∃ cs t, w.heap[b]? = some (.cells cs t (0, 0))) : ∃ cs t, w'.heap[b]? = some (.cells cs t (0, 0)) := by
  obtain ⟨cs, t, e⟩ := hb
  obtain ⟨cs', e', _⟩ := h b cs t e
  exact ⟨cs', t, e'⟩

/-- Texts. -/
def MS (lo hi : Nat) (w : World) (a : Option Addr) (l : List ByteArray) : Prop := ∃ b o, a = some ⟨b, o, none⟩ ∧ lo ≤ b ∧ b < hi ∧ (∃ cs t, w.heap[b]? = some (.cells cs t (0, 0))) ∧ ∀ i, i < l.length → ∃ v, w.cell? ⟨b, o + i, none⟩ = some v ∧ isSl v = false
def cnS (l : List ByteArray) : Nat := l.length
theorem cnS_le (l : List ByteArray) : cnS l ≤ 8 * wtS l := by have := wtS_len l; unfold cnS; omega
theorem MS.shp {lo hi : Nat} {w w' : World} {a : Option Addr} {l : List ByteArray} (h : MS lo hi w a l) (k : Shp w w') : MS lo hi w' a l := by
  obtain ⟨b, o, e, h1, h2, h3, h4⟩ := h
  refine ⟨b, o, e, h1, h2, blk_shp k h3, fun i hi => ?_⟩
  obtain ⟨v, g1, g2⟩ := h4 i hi
  obtain ⟨v', k1, k2, _⟩ := cell_shp k h3 g1
  exact ⟨v', k1, k2.2 g2⟩
theorem MS.src {lo : Nat} {w : World} {a : Option Addr} {l : List ByteArray} (h : SrcS (some lo) w a l) : MS lo w.heap.size w a l := by
  rcases h with ⟨h, _⟩ | ⟨b, o, e, h1, h2⟩
  · cases h
  · obtain ⟨g1, cs, t, g2⟩ := h1 lo rfl
    exact ⟨b, o, e, g1, (Array.getElem?_eq_some_iff.1 g2).1, ⟨cs, t, g2⟩, fun i hi => ⟨_, h2 i _ (List.getElem?_eq_getElem hi), rfl⟩⟩

set_option maxRecDepth 100000 in
set_option maxHeartbeats 1000000 in
theorem markS_all (lo hi : Nat) (a : Option Addr) (c : Nat) (l : List ByteArray) (k0 : Nat) (w : World) (hM : MS lo hi w a l) (h0 : 0 < k0) (hk : k0 + cnS l ≤ 100000000) :
    Calls Try.prog 13 #[.slice a l.length c, .int .i64 (k0 : Int)] w fun e w' => e = .returned (.int .i64 ((k0 + cnS l : Nat) : Int)) ∧ Rel lo hi w w' := by
  obtain ⟨b, o, rfl, hl, hh, hbk, hc⟩ := hM
  have HBK : Hid (∃ cs t, w.heap[b]? = some (.cells cs t (0, 0))) := hbk
  have HC : Hid (∀ i, i < l.length → ∃ v, w.cell? ⟨b, o + i, none⟩ = some v ∧ isSl v = false) := hc
  unfold cnS at hk ⊢
  clear hbk hc
  generalize l.length = n at *
  go_enter Try.func13, Try.ntmps13
  go_wp2
  go_loopw [1, 5] (fun a x wr => ∃ (i : Nat), i ≤ n ∧ x = .int .i64 (i : Int) ∧ a = .int .i64 ((k0 + i : Nat) : Int) ∧ Rel lo hi w wr) (fun _ x _ => n - (intOf x).toNat)
  case atStart => exact ⟨0, Nat.zero_le _, rfl, rfl, Rel.refl _ _ _⟩
  case round =>
    obtain ⟨i, hi', rfl, rfl, hrl⟩ := hrel
    have HRL : Hid (Rel lo hi w wr) := hrl
    clear hrl
    by_cases h : i < n
    · have h' : (i : Int) < (n : Int) := by omega
      obtain ⟨K, hK⟩ : ∃ K : Nat, k0 + i = K := ⟨_, rfl⟩
      have HKK : Hid (k0 + i = K) := hK
      have HMT : Hid (∀ W, Calls Try.prog 36 #[.int .i64 (K : Int)] W fun e w' => e = .returned (.string (sr.mark K)) ∧ Below W.heap.size W w') := fun W => sr.mark_any K (by omega) (by omega) W
      rw [hK]
      have hKb : K ≤ 100000000 := by omega
      generalize sr.mark K = s at *
      clear hK
      go_wp2_with (go_at_call 36; refine (HMT.out _).mono ?_; rintro e w1 ⟨rfl, hb1⟩; refine Hid.out ?_)
      refine Lib.hid ?_
      have HR1 : Hid (Rel lo hi w w1) := HRL.out.below hb1
      clear hb1
      obtain ⟨v0, g0, n0⟩ := HC.out i h
      obtain ⟨v1, g1, k1, f1⟩ := cell_shp HR1.out.2.2.2 HBK.out g0
      have HN1 : Hid (isSl v1 = false) := k1.2 n0
      have HR2 : Hid (Rel lo hi w (w1.setCell ⟨b, o + i, none⟩ (.string s))) := HR1.out.set hl hh g1 HN1.out rfl
      clear g0 n0 k1
      go_wp2
      go_roundw
      case rel => exact ⟨i + 1, by omega, by go_num, by rw [← Nat.add_assoc, HKK.out]; go_num, HR2.out⟩
      case measure => simp [intOf]; omega
    · have h' : ¬ (i : Int) < (n : Int) := by omega
      obtain rfl : i = n := by omega
      go_wp2
      go_ret
      exact ⟨rfl, HRL.out⟩

/-- Rows of Un, as they can be marked. -/
def MUn (lo hi : Nat) (w : World) (a : Option Addr) (l : List Un) : Prop := ∃ b o, a = some ⟨b, o, none⟩ ∧ lo ≤ b ∧ b < hi ∧ (∃ cs t, w.heap[b]? = some (.cells cs t (0, 0))) ∧ ∀ (i : Nat) (x : Un), l[i]? = some x → (∃ v, w.cell? ⟨b, o + i * 5, none⟩ = some v ∧ isSl v = false) ∧ (∃ v, w.cell? ⟨b, o + i * 5 + 3, none⟩ = some v ∧ isSl v = false) ∧ (∃ v, w.cell? ⟨b, o + i * 5 + 4, none⟩ = some v ∧ isSl v = false) ∧ (∃ a1 c1, w.cell? ⟨b, o + i * 5 + 1, none⟩ = some (.slice a1 x.fAfter.length c1) ∧ MS lo hi w a1 x.fAfter) ∧ (∃ a2 c2, w.cell? ⟨b, o + i * 5 + 2, none⟩ = some (.slice a2 x.fNeeds.length c2) ∧ MS lo hi w a2 x.fNeeds)
def cn1Un (x : Un) : Nat := 3 + cnS x.fAfter + cnS x.fNeeds
def cnkUn (l : List Un) (k : Nat) : Nat := ((l.take k).map cn1Un).sum
def cnUn (l : List Un) : Nat := cnkUn l l.length
theorem cnkUn_succ {l : List Un} {k : Nat} {x : Un} (h : l[k]? = some x) : cnkUn l (k + 1) = cnkUn l k + cn1Un x := by
  unfold cnkUn
  rw [List.take_add_one, h]
  simp
theorem cnkUn_le (l : List Un) (k : Nat) : cnkUn l k ≤ cnUn l := by
  unfold cnUn cnkUn
  rw [List.take_length]
  have : ((l.take k).map cn1Un).sum + ((l.drop k).map cn1Un).sum = (l.map cn1Un).sum := by rw [← List.sum_append_nat, ← List.map_append, List.take_append_drop]
  omega
theorem cnUn_len (l : List Un) : l.length ≤ cnUn l := by
  unfold cnUn cnkUn
  rw [List.take_length]
  induction l with
  | nil => simp
  | cons y l ih =>
    rw [List.map_cons, List.sum_cons, List.length_cons]
    have : 1 ≤ cn1Un y := by unfold cn1Un; omega
    omega
theorem cnUn_le (l : List Un) : cnUn l ≤ 8 * wtUn l := by
  have h1 : ∀ x : Un, cn1Un x ≤ 8 * (1 + wt1Un x) := fun x => by unfold cn1Un wt1Un; have := cnS_le x.fAfter; have := cnS_le x.fNeeds; omega
  unfold cnUn cnkUn wtUn wtkUn
  rw [List.take_length]
  induction l with
  | nil => simp
  | cons y l ih =>
    rw [List.map_cons, List.map_cons, List.sum_cons, List.sum_cons, List.length_cons]
    have := h1 y
    omega

theorem MUn.shp {lo hi : Nat} {w w' : World} {a : Option Addr} {l : List Un} (h : MUn lo hi w a l) (k : Shp w w') : MUn lo hi w' a l := by
  obtain ⟨b, o, e, hA, hA2, hB, hX⟩ := h
  refine ⟨b, o, e, hA, hA2, blk_shp k hB, fun i x hx => ?_⟩
  obtain ⟨h0, h1, h2, h3, h4⟩ := hX i x hx
  exact ⟨(by obtain ⟨v, g1, g2⟩ := h0; obtain ⟨v', k1, k2, _⟩ := cell_shp k hB g1; exact ⟨v', k1, k2.2 g2⟩), (by obtain ⟨v, g1, g2⟩ := h1; obtain ⟨v', k1, k2, _⟩ := cell_shp k hB g1; exact ⟨v', k1, k2.2 g2⟩), (by obtain ⟨v, g1, g2⟩ := h2; obtain ⟨v', k1, k2, _⟩ := cell_shp k hB g1; exact ⟨v', k1, k2.2 g2⟩), (by obtain ⟨a, c, g1, g2⟩ := h3; obtain ⟨v', k1, k2, _⟩ := cell_shp k hB g1; exact ⟨a, c, by rw [k1, k2.1 rfl], g2.shp k⟩), (by obtain ⟨a, c, g1, g2⟩ := h4; obtain ⟨v', k1, k2, _⟩ := cell_shp k hB g1; exact ⟨a, c, by rw [k1, k2.1 rfl], g2.shp k⟩)⟩
theorem MUn.src {lo : Nat} {w : World} {a : Option Addr} {l : List Un} (h : SrcUn (some lo) w a l) : MUn lo w.heap.size w a l := by
  rcases h with ⟨h, _⟩ | ⟨b, o, e, h1, h2⟩
  · cases h
  · obtain ⟨g1, cs, t, g2⟩ := h1 lo rfl
    refine ⟨b, o, e, g1, (Array.getElem?_eq_some_iff.1 g2).1, ⟨cs, t, g2⟩, fun i x hx => ?_⟩
    obtain ⟨a1, c1, a2, c2, q0, q1, q2, q3, q4, s1, s2, t1, t2⟩ := h2 i x hx
    exact ⟨⟨_, q0, rfl⟩, ⟨_, q3, rfl⟩, ⟨_, q4, rfl⟩, ⟨a1, c1, q1, MS.src s1⟩, ⟨a2, c2, q2, MS.src s2⟩⟩

set_option maxRecDepth 100000 in
set_option maxHeartbeats 2000000 in
theorem markUn_any (lo hi : Nat) (a : Option Addr) (c : Nat) (l : List Un) (k0 : Nat) (w : World) (hM : MUn lo hi w a l) (h0 : 0 < k0) (hk : k0 + cnUn l ≤ 100000000) :
    Calls Try.prog 12 #[.slice a l.length c, .int .i64 (k0 : Int)] w fun e w' => e = .returned (.int .i64 ((k0 + cnUn l : Nat) : Int)) ∧ Rel lo hi w w' := by
  obtain ⟨b, o, rfl, hl, hh, hbk, hc⟩ := hM
  have HBK : Hid (∃ cs t, w.heap[b]? = some (.cells cs t (0, 0))) := hbk
  have HC : Hid (∀ (i : Nat) (x : Un), l[i]? = some x → (∃ v, w.cell? ⟨b, o + i * 5, none⟩ = some v ∧ isSl v = false) ∧ (∃ v, w.cell? ⟨b, o + i * 5 + 3, none⟩ = some v ∧ isSl v = false) ∧ (∃ v, w.cell? ⟨b, o + i * 5 + 4, none⟩ = some v ∧ isSl v = false) ∧ (∃ a1 c1, w.cell? ⟨b, o + i * 5 + 1, none⟩ = some (.slice a1 x.fAfter.length c1) ∧ MS lo hi w a1 x.fAfter) ∧ (∃ a2 c2, w.cell? ⟨b, o + i * 5 + 2, none⟩ = some (.slice a2 x.fNeeds.length c2) ∧ MS lo hi w a2 x.fNeeds)) := hc
  have HCL : Hid (∀ k, cnkUn l k ≤ cnUn l) := cnkUn_le l
  have HKL : Hid (k0 + cnUn l ≤ 100000000) := hk
  clear hbk hc hk
  obtain ⟨n, hn⟩ : ∃ n, l.length = n := ⟨_, rfl⟩
  have HN : Hid (l.length = n) := hn
  have hn9 : n ≤ 100000000 := by have h1 := cnUn_len l; have h2 := HKL.out; omega
  rw [hn]
  clear hn
  go_enter Try.func12, Try.ntmps12
  go_wp2
  go_loopw [1, 5] (fun a x wr => ∃ (i : Nat), i ≤ n ∧ x = .int .i64 (i : Int) ∧ a = .int .i64 ((k0 + cnkUn l i : Nat) : Int) ∧ Rel lo hi w wr) (fun _ x _ => n - (intOf x).toNat)
  case atStart => exact ⟨0, Nat.zero_le _, rfl, by simp [cnkUn], Rel.refl _ _ _⟩
  case round =>
    obtain ⟨i, hi', rfl, rfl, hrl⟩ := hrel
    have HRL : Hid (Rel lo hi w wr) := hrl
    clear hrl
    by_cases h : i < n
    · have h' : (i : Int) < (n : Int) := by omega
      have hi0 : (0 : Int) ≤ (i : Int) := by omega
      obtain ⟨x, hx⟩ : ∃ x, l[i]? = some x := ⟨_, List.getElem?_eq_getElem (by rw [HN.out]; exact h)⟩
      have HX : Hid (l[i]? = some x) := hx
      have HSU : Hid (cnkUn l (i + 1) = cnkUn l i + cn1Un x) := cnkUn_succ hx
      obtain ⟨K0, hK0⟩ : ∃ K : Nat, k0 + cnkUn l i = K := ⟨_, rfl⟩
      have HKK : Hid (k0 + cnkUn l i = K0) := hK0
      have HCB : Hid (K0 + cn1Un x ≤ 100000000) := by
        show _ ≤ _
        have h1 := HCL.out (i + 1)
        have h2 := HKL.out
        have h3 := HSU.out
        omega
      have hK0b : K0 ≤ 100000000 := by have := HCB.out; omega
      have hK0c : K0 + 3 ≤ 100000000 := by have h9 := HCB.out; unfold cn1Un at h9; omega
      have hK0p : 0 < K0 := by omega
      rw [hK0]
      clear hK0 hx
      have HM0 : Hid (∀ W, Calls Try.prog 36 #[.int .i64 ((K0 : Int))] W fun e w' => e = .returned (.string (sr.mark (K0 + 0))) ∧ Below W.heap.size W w') := fun W => by
        have := sr.mark_any (K0 + 0) (by omega) (by omega) W
        rwa [show ((K0 + 0 : Nat) : Int) = (K0 : Int) by omega] at this
      generalize sr.mark (K0 + 0) = s0 at *
      go_wp2_with (go_at_call 36; refine (HM0.out _).mono ?_; rintro e w0 ⟨rfl, hb0⟩; refine Hid.out ?_)
      refine Lib.hid ?_
      have HB0 : Hid (Rel lo hi w w0) := HRL.out.below hb0
      clear hb0 HM0 
      obtain ⟨u0_1, x0_1, y0_1⟩ := (HC.out i x HX.out).1
      obtain ⟨v0_1, g0_1, l0_1, f0_1⟩ := cell_shp HB0.out.2.2.2 HBK.out x0_1
      have HZ0_1 : Hid (isSl v0_1 = false) := l0_1.2 y0_1
      clear y0_1 l0_1
      have HR0_1 : Hid (Rel lo hi w (w0.setCell ⟨b, o + i * 5, none⟩ (.string s0))) := by
        obtain ⟨v9, g9, l9, f9⟩ := cell_shp HB0.out.2.2.2 HBK.out x0_1
        obtain ⟨_, _, y9⟩ := (HC.out i x HX.out).1
        exact HB0.out.set hl hh g9 (l9.2 (by obtain ⟨u9, x9, y9⟩ := (HC.out i x HX.out).1; rw [x0_1] at x9; cases x9; exact y9)) rfl
      obtain ⟨a1, c1, p1, s1⟩ := (HC.out i x HX.out).2.2.2.1
      have HM1 : Hid (∀ W, Rel lo hi w W → Calls Try.prog 13 #[.slice a1 x.fAfter.length c1, .int .i64 ((K0 : Int) + 1)] W fun e w' => e = .returned (.int .i64 ((K0 + 1 + cnS x.fAfter : Nat) : Int)) ∧ Rel lo hi W w') := fun W h => by
        have := markS_all lo hi a1 c1 x.fAfter (K0 + 1) W (s1.shp h.2.2.2) (by omega) (by have h9 := HCB.out;  unfold cn1Un at h9; omega)
        rwa [show ((K0 + 1 : Nat) : Int) = (K0 : Int) + 1 by omega] at this
      obtain ⟨v1, g1, l1, f1⟩ := cell_shp HB0.out.2.2.2 HBK.out p1
      rw [l1.1 rfl] at g1
      obtain ⟨z1, hz1⟩ : ∃ z, x.fAfter.length = z := ⟨_, rfl⟩
      obtain ⟨K2, hK2⟩ : ∃ z : Nat, K0 + 1 + cnS x.fAfter = z := ⟨_, rfl⟩
      have HK2 : Hid (K0 + 1 + cnS x.fAfter = K2) := hK2
      have hKb2 : K2 ≤ 100000000 ∧ 0 < K2 := ⟨by have h9 := HCB.out;  unfold cn1Un at h9; omega, by omega⟩
      rw [hK2, hz1] at HM1
      rw [hz1] at g1
      clear hK2 hz1 l1 s1 p1
      go_wp2_with (go_at_call 13; refine (HM1.out _ HR0_1.out).mono ?_; rintro e w1 ⟨rfl, hb1⟩; refine Hid.out ?_)
      refine Lib.hid ?_
      have HB1 : Hid (Rel lo hi w w1) := HR0_1.out.trans hb1
      clear hb1 HM1 g1 f1 g0_1 f0_1
      obtain ⟨a2, c2, p2, s2⟩ := (HC.out i x HX.out).2.2.2.2
      have HM2 : Hid (∀ W, Rel lo hi w W → Calls Try.prog 13 #[.slice a2 x.fNeeds.length c2, .int .i64 ((K2 : Int))] W fun e w' => e = .returned (.int .i64 ((K2 + 0 + cnS x.fNeeds : Nat) : Int)) ∧ Rel lo hi W w') := fun W h => by
        have := markS_all lo hi a2 c2 x.fNeeds (K2 + 0) W (s2.shp h.2.2.2) (by omega) (by have h9 := HCB.out; have h91 := HK2.out; unfold cn1Un at h9; omega)
        rwa [show ((K2 + 0 : Nat) : Int) = (K2 : Int) by omega] at this
      obtain ⟨v2, g2, l2, f2⟩ := cell_shp HB1.out.2.2.2 HBK.out p2
      rw [l2.1 rfl] at g2
      obtain ⟨z2, hz2⟩ : ∃ z, x.fNeeds.length = z := ⟨_, rfl⟩
      obtain ⟨K3, hK3⟩ : ∃ z : Nat, K2 + 0 + cnS x.fNeeds = z := ⟨_, rfl⟩
      have HK3 : Hid (K2 + 0 + cnS x.fNeeds = K3) := hK3
      have hKb3 : K3 ≤ 100000000 ∧ 0 < K3 := ⟨by have h9 := HCB.out; have h91 := HK2.out; unfold cn1Un at h9; omega, by omega⟩
      rw [hK3, hz2] at HM2
      rw [hz2] at g2
      clear hK3 hz2 l2 s2 p2
      go_wp2_with (go_at_call 13; refine (HM2.out _ HB1.out).mono ?_; rintro e w2 ⟨rfl, hb2⟩; refine Hid.out ?_)
      refine Lib.hid ?_
      have HB2 : Hid (Rel lo hi w w2) := HB1.out.trans hb2
      clear hb2 HM2 g2 f2 
      have HM3 : Hid (∀ W, Calls Try.prog 36 #[.int .i64 ((K3 : Int))] W fun e w' => e = .returned (.string (sr.mark (K3 + 0))) ∧ Below W.heap.size W w') := fun W => by
        have := sr.mark_any (K3 + 0) (by omega) (by omega) W
        rwa [show ((K3 + 0 : Nat) : Int) = (K3 : Int) by omega] at this
      generalize sr.mark (K3 + 0) = s3 at *
      go_wp2_with (go_at_call 36; refine (HM3.out _).mono ?_; rintro e w3 ⟨rfl, hb3⟩; refine Hid.out ?_)
      refine Lib.hid ?_
      have HB3 : Hid (Rel lo hi w w3) := HB2.out.below hb3
      clear hb3 HM3 
      obtain ⟨u3_4, x3_4, y3_4⟩ := (HC.out i x HX.out).2.1
      obtain ⟨v3_4, g3_4, l3_4, f3_4⟩ := cell_shp HB3.out.2.2.2 HBK.out x3_4
      have HZ3_4 : Hid (isSl v3_4 = false) := l3_4.2 y3_4
      clear y3_4 l3_4
      have HR3_4 : Hid (Rel lo hi w (w3.setCell ⟨b, o + i * 5 + 3, none⟩ (.string s3))) := by
        obtain ⟨v9, g9, l9, f9⟩ := cell_shp HB3.out.2.2.2 HBK.out x3_4
        obtain ⟨_, _, y9⟩ := (HC.out i x HX.out).2.1
        exact HB3.out.set hl hh g9 (l9.2 (by obtain ⟨u9, x9, y9⟩ := (HC.out i x HX.out).2.1; rw [x3_4] at x9; cases x9; exact y9)) rfl
      obtain ⟨t4, ht4⟩ : ∃ t, decide (((K3 : Int) + 1) % 3 = 0) = t := ⟨_, rfl⟩
      have ht4b : (((K3 : Int) + 1) % 3 == 0) = t4 := by rw [← ht4]; rfl
      obtain ⟨u4_4, x4_4, y4_4⟩ := (HC.out i x HX.out).2.2.1
      obtain ⟨v4_4, g4_4, l4_4, f4_4⟩ := cell_shp HB3.out.2.2.2 HBK.out x4_4
      have HZ4_4 : Hid (isSl v4_4 = false) := l4_4.2 y4_4
      clear y4_4 l4_4
      have HR4_4 : Hid (Rel lo hi w ((w3.setCell ⟨b, o + i * 5 + 3, none⟩ (.string s3)).setCell ⟨b, o + i * 5 + 4, none⟩ (.bool t4))) := by
        obtain ⟨v9, g9, l9, f9⟩ := cell_shp HR3_4.out.2.2.2 HBK.out x4_4
        obtain ⟨_, _, y9⟩ := (HC.out i x HX.out).2.2.1
        exact HR3_4.out.set hl hh g9 (l9.2 (by obtain ⟨u9, x9, y9⟩ := (HC.out i x HX.out).2.2.1; rw [x4_4] at x9; cases x9; exact y9)) rfl
      go_wp2
      go_roundw
      case rel => exact ⟨i + 1, by omega, by go_num, by (rw [HSU.out]; unfold cn1Un; have := HK2.out; have := HK3.out; have := HKK.out; go_num) , HR4_4.out⟩
      case measure => simp [intOf]; omega
    · have h' : ¬ (i : Int) < (n : Int) := by omega
      obtain rfl : i = n := by omega
      have HE : Hid (cnkUn l i = cnUn l) := by show _ = _; unfold cnUn; rw [HN.out]
      rw [HE.out]
      go_wp2
      go_ret
      exact ⟨rfl, HRL.out⟩

end Go.Proofs.Ytdddplhfhpghkaa.ty

namespace Go.Proofs.Ytdddplhfhpghkaa.ty
open Go.ChangeShapes Go.WideShapes Go.ChangeAt Go.RowKit Go.Deep
set_option linter.unusedVariables false
set_option linter.unusedSimpArgs false

/-! ### Equal lists -/

set_option maxRecDepth 100000 in
theorem eqS_any (a a' : Option Addr) (c c' : Nat) (l : List ByteArray) (w : World) (hb : SrcS none w a l) (hb' : SrcS none w a' l) (hn : wtS l ≤ 1048576) :
    Calls Try.prog 10 #[.slice a l.length c, .slice a' l.length c'] w fun e w' => e = .returned (.bool true) ∧ Below w.heap.size w w' := by
  have hl := wtS_len l
  have hn1 : l.length ≤ 1048576 := by omega
  have HB : Hid (SrcS none w a l) := hb
  have HB' : Hid (SrcS none w a' l) := hb'
  clear hb hb' hn hl
  go_enter Try.func10, Try.ntmps10
  go_wp2
  go_loopw [5] (fun i wr => ∃ k : Nat, k ≤ l.length ∧ i = .int .i64 (k : Int) ∧ ∃ q, wr = w.drewN q) (fun i _ => l.length - (intOf i).toNat)
  case atStart => exact ⟨0, Nat.zero_le _, rfl, 0, rfl⟩
  case round =>
    obtain ⟨k, hk, rfl, q, rfl⟩ := hrel
    by_cases hlt : k < l.length
    · obtain ⟨x, hx⟩ : ∃ x, l[k]? = some x := ⟨_, List.getElem?_eq_getElem hlt⟩
      rcases HB.out with ⟨_, h⟩ | ⟨b, off, rfl, _, hc⟩
      · rw [h] at hlt; simp at hlt
      rcases HB'.out with ⟨_, h⟩ | ⟨b', off', rfl, _, hc'⟩
      · rw [h] at hlt; simp at hlt
      have hck := hc k x hx
      have hck' := hc' k x hx
      have hlt' : (k : Int) < (l.length : Int) := by omega
      clear hc hc' hx HB HB'
      go_wp2
      go_quiet (fail)
      go_wp2
      go_roundw
      case rel => exact ⟨k + 1, by omega, by go_num, _, rfl⟩
      case measure => simp [intOf]; omega
    · have hlt' : ¬ (k : Int) < (l.length : Int) := by omega
      go_wp2
      go_ret
      exact ⟨rfl, below_drewN (Below.refl _ _) _⟩

set_option maxRecDepth 100000 in
set_option maxHeartbeats 2000000 in
theorem eq1Un_any (y0 : ByteArray) (y1 : List ByteArray) (y2 : List ByteArray) (y3 : ByteArray) (y4 : Bool) (a1 a1' : Option Addr) (c1 c1' : Nat) (a2 a2' : Option Addr) (c2 c2' : Nat) (w : World) (hb1 : SrcS none w a1 y1) (hb1' : SrcS none w a1' y1) (hn1 : wtS y1 ≤ 1048576) (hb2 : SrcS none w a2 y2) (hb2' : SrcS none w a2' y2) (hn2 : wtS y2 ≤ 1048576) :
    Calls Try.prog 35 #[.agg #[.string y0, .slice a1 y1.length c1, .slice a2 y2.length c2, .string y3, .bool y4], .agg #[.string y0, .slice a1' y1.length c1', .slice a2' y2.length c2', .string y3, .bool y4]] w fun e w' => e = .returned (.bool true) ∧ Below w.heap.size w w' := by

  have HEQ1 : Hid (∀ W, Below w.heap.size w W → Calls Try.prog 10 #[.slice a1 y1.length c1, .slice a1' y1.length c1'] W fun e w' => e = .returned (.bool true) ∧ Below W.heap.size W w') := fun W h => eqS_any a1 a1' c1 c1' y1 W (hb1.below h) (hb1'.below h) hn1
  have HEQ2 : Hid (∀ W, Below w.heap.size w W → Calls Try.prog 10 #[.slice a2 y2.length c2, .slice a2' y2.length c2'] W fun e w' => e = .returned (.bool true) ∧ Below W.heap.size W w') := fun W h => eqS_any a2 a2' c2 c2' y2 W (hb2.below h) (hb2'.below h) hn2
  clear hb1 hb1' hn1 hb2 hb2' hn2
  have HB0 : Hid (Below w.heap.size w ((w.alloc (.cells #[.string y0, .slice a1 y1.length c1, .slice a2 y2.length c2, .string y3, .bool y4] 45)).alloc (.cells #[.string y0, .slice a1' y1.length c1', .slice a2' y2.length c2', .string y3, .bool y4] 45))) := ((Below.refl _ _).alloc (Nat.le_refl _) _).alloc (by simp) _
  go_enter Try.func35, Try.ntmps35
  go_wp2_with (go_at_call 10; refine (HEQ1.out _ (by first | exact HB0.out | exact HB0.out.drew)).mono ?_; rintro e w1 ⟨rfl, hl1⟩; refine Hid.out ?_)
  refine Lib.hid ?_
  have HB2 : Hid (Below w.heap.size w w1) := by first | exact HB0.out.trans (hl1.mono HB0.out.size) | exact HB0.out.drew.trans (hl1.mono HB0.out.size)
  obtain ⟨k1, k2⟩ := bcell hl1
  have p1_2 : w1.cell? ⟨w.heap.size, 2, none⟩ = some (.slice a2 y2.length c2) := (k1 _ _ (by first | (simp; done) | (simp; omega))).trans (by simp [go_sem])
  have p'1_2 : w1.cell? ⟨w.heap.size + 1, 2, none⟩ = some (.slice a2' y2.length c2') := (k1 _ _ (by first | (simp; done) | (simp; omega))).trans (by simp [go_sem])
  have p1_3 : w1.cell? ⟨w.heap.size, 3, none⟩ = some (.string y3) := (k1 _ _ (by first | (simp; done) | (simp; omega))).trans (by simp [go_sem])
  have p'1_3 : w1.cell? ⟨w.heap.size + 1, 3, none⟩ = some (.string y3) := (k1 _ _ (by first | (simp; done) | (simp; omega))).trans (by simp [go_sem])
  have p1_4 : w1.cell? ⟨w.heap.size, 4, none⟩ = some (.bool y4) := (k1 _ _ (by first | (simp; done) | (simp; omega))).trans (by simp [go_sem])
  have p'1_4 : w1.cell? ⟨w.heap.size + 1, 4, none⟩ = some (.bool y4) := (k1 _ _ (by first | (simp; done) | (simp; omega))).trans (by simp [go_sem])
  clear k1 k2
  clear hl1
  go_wp2_with (go_at_call 10; refine (HEQ2.out _ (by first | exact HB2.out | exact HB2.out.drew)).mono ?_; rintro e w2 ⟨rfl, hl2⟩; refine Hid.out ?_)
  refine Lib.hid ?_
  have HB3 : Hid (Below w.heap.size w w2) := by first | exact HB2.out.trans (hl2.mono HB2.out.size) | exact HB2.out.drew.trans (hl2.mono HB2.out.size)
  obtain ⟨k1, k2⟩ := bcell hl2
  have p2_3 : w2.cell? ⟨w.heap.size, 3, none⟩ = some (.string y3) := (k1 _ _ (World.block_lt_of_cell? _ _ p1_3)).trans p1_3
  have p'2_3 : w2.cell? ⟨w.heap.size + 1, 3, none⟩ = some (.string y3) := (k1 _ _ (World.block_lt_of_cell? _ _ p'1_3)).trans p'1_3
  have p2_4 : w2.cell? ⟨w.heap.size, 4, none⟩ = some (.bool y4) := (k1 _ _ (World.block_lt_of_cell? _ _ p1_4)).trans p1_4
  have p'2_4 : w2.cell? ⟨w.heap.size + 1, 4, none⟩ = some (.bool y4) := (k1 _ _ (World.block_lt_of_cell? _ _ p'1_4)).trans p'1_4
  clear k1 k2
  clear hl2
  go_wp2
  go_ret
  first
    | exact ⟨by first | rfl | simp, HB3.out⟩
    | exact ⟨by first | rfl | simp, HB3.out.drew⟩
    | exact ⟨by first | rfl | simp, below_drewN HB3.out _⟩

set_option maxRecDepth 100000 in
set_option maxHeartbeats 4000000 in
theorem eqUn_any (a a' : Option Addr) (c c' : Nat) (l : List Un) (w : World) (hb : SrcUn none w a l) (hb' : SrcUn none w a' l) (hn : wtUn l ≤ 1048576) :
    Calls Try.prog 11 #[.slice a l.length c, .slice a' l.length c'] w fun e w' => e = .returned (.bool true) ∧ Below w.heap.size w w' := by
  have hl := wtUn_len l
  have hn1 : l.length ≤ 1048576 := by omega
  have HB : Hid (SrcUn none w a l) := hb
  have HB' : Hid (SrcUn none w a' l) := hb'
  clear hb hb' hl
  go_enter Try.func11, Try.ntmps11
  go_wp2
  go_loopw [5] (fun i wr => ∃ k : Nat, k ≤ l.length ∧ i = .int .i64 (k : Int) ∧ Below w.heap.size w wr) (fun i _ => l.length - (intOf i).toNat)
  case atStart => exact ⟨0, Nat.zero_le _, rfl, Below.refl _ _⟩
  case round =>
    obtain ⟨k, hk, rfl, hbel⟩ := hrel
    have HBE : Hid (Below w.heap.size w wr) := hbel
    by_cases hlt : k < l.length
    · obtain ⟨x, hx⟩ : ∃ x, l[k]? = some x := ⟨_, List.getElem?_eq_getElem hlt⟩
      have hwx := wtUn_mem (List.mem_of_getElem? hx)
      rcases HB.out with ⟨_, h⟩ | ⟨b, o, rfl, _, hc⟩
      · rw [h] at hlt; simp at hlt
      rcases HB'.out with ⟨_, h⟩ | ⟨b', o', rfl, _, hc'⟩
      · rw [h] at hlt; simp at hlt
      have hlt' : (k : Int) < (l.length : Int) := by omega
      have hk0 : (0 : Int) ≤ (k : Int) := by omega
      obtain ⟨a1, c1, a2, c2, e0, e1, e2, e3, e4, s1, s2, _, _⟩ := hc k x hx
      obtain ⟨a1', c1', a2', c2', e0', e1', e2', e3', e4', s1', s2', _, _⟩ := hc' k x hx
      have K : ∀ {W : World} {q p v}, Below w.heap.size w W → w.cell? ⟨q, p, none⟩ = some v → W.cell? ⟨q, p, none⟩ = some v := fun {W q p v} hW h => (hW.cell (p := ⟨q, p, none⟩) (World.block_lt_of_cell? _ _ h)).trans h
      have HC : Hid (∀ W : World, Below w.heap.size w W → (W.cell? ⟨b, o + k * 5, none⟩ = some (.string x.fName) ∧ W.cell? ⟨b, o + k * 5 + 1, none⟩ = some (.slice a1 x.fAfter.length c1) ∧ W.cell? ⟨b, o + k * 5 + 2, none⟩ = some (.slice a2 x.fNeeds.length c2) ∧ W.cell? ⟨b, o + k * 5 + 3, none⟩ = some (.string x.fExec) ∧ W.cell? ⟨b, o + k * 5 + 4, none⟩ = some (.bool x.fKeep)) ∧ W.cell? ⟨b', o' + k * 5, none⟩ = some (.string x.fName) ∧ W.cell? ⟨b', o' + k * 5 + 1, none⟩ = some (.slice a1' x.fAfter.length c1') ∧ W.cell? ⟨b', o' + k * 5 + 2, none⟩ = some (.slice a2' x.fNeeds.length c2') ∧ W.cell? ⟨b', o' + k * 5 + 3, none⟩ = some (.string x.fExec) ∧ W.cell? ⟨b', o' + k * 5 + 4, none⟩ = some (.bool x.fKeep)) := fun W h => ⟨⟨K h e0, K h e1, K h e2, K h e3, K h e4⟩, K h e0', K h e1', K h e2', K h e3', K h e4'⟩
      have HEQ : Hid (∀ W, Below w.heap.size w W → Calls Try.prog 35 #[.agg #[.string x.fName, .slice a1 x.fAfter.length c1, .slice a2 x.fNeeds.length c2, .string x.fExec, .bool x.fKeep], .agg #[.string x.fName, .slice a1' x.fAfter.length c1', .slice a2' x.fNeeds.length c2', .string x.fExec, .bool x.fKeep]] W fun e w' => e = .returned (.bool true) ∧ Below W.heap.size W w') := fun W h => eq1Un_any x.fName x.fAfter x.fNeeds x.fExec x.fKeep a1 a1' c1 c1' a2 a2' c2 c2' W (s1.below h) (s1'.below h) (by unfold wt1Un at hwx; omega) (s2.below h) (s2'.below h) (by unfold wt1Un at hwx; omega)
      obtain ⟨z0, hz0⟩ : ∃ z, x.fName = z := ⟨_, rfl⟩
      obtain ⟨z1, hz1⟩ : ∃ z, x.fAfter.length = z := ⟨_, rfl⟩
      obtain ⟨z2, hz2⟩ : ∃ z, x.fNeeds.length = z := ⟨_, rfl⟩
      obtain ⟨z3, hz3⟩ : ∃ z, x.fExec = z := ⟨_, rfl⟩
      obtain ⟨z4, hz4⟩ : ∃ z, x.fKeep = z := ⟨_, rfl⟩
      rw [hz0, hz1, hz2, hz3, hz4] at HC HEQ
      clear hbel hc hc' hx HB HB' hz0 hz1 hz2 hz3 hz4 e0 e1 e2 e3 e4 s1 s2 e0' e1' e2' e3' e4' s1' s2' K hwx
      go_wp2_with fail
      go_region_held3 (fun W => (W.cell? ⟨b, o + k * 5, none⟩ = some (.string z0) ∧ W.cell? ⟨b, o + k * 5 + 1, none⟩ = some (.slice a1 z1 c1) ∧ W.cell? ⟨b, o + k * 5 + 2, none⟩ = some (.slice a2 z2 c2) ∧ W.cell? ⟨b, o + k * 5 + 3, none⟩ = some (.string z3) ∧ W.cell? ⟨b, o + k * 5 + 4, none⟩ = some (.bool z4)) ∧ W.cell? ⟨b', o' + k * 5, none⟩ = some (.string z0) ∧ W.cell? ⟨b', o' + k * 5 + 1, none⟩ = some (.slice a1' z1 c1') ∧ W.cell? ⟨b', o' + k * 5 + 2, none⟩ = some (.slice a2' z2 c2') ∧ W.cell? ⟨b', o' + k * 5 + 3, none⟩ = some (.string z3) ∧ W.cell? ⟨b', o' + k * 5 + 4, none⟩ = some (.bool z4))
        (first | exact HC.out _ HBE.out.drew | exact HC.out _ hb2 | exact HC.out _ HBE.out | go_keep)
        (((go_at_call 35; refine (HEQ.out _ HBE.out.drew).mono ?_; rintro e w2 ⟨rfl, hl2⟩; have hb2 : Below w.heap.size w w2 := HBE.out.drew.trans (hl2.mono HBE.out.size))))
      go_wp2_with fail
      go_roundw
      case rel => exact ⟨k + 1, by omega, by go_num, hb2⟩
      case measure => simp [intOf]; omega
    · have hlt' : ¬ (k : Int) < (l.length : Int) := by omega
      go_wp2
      go_ret
      exact ⟨rfl, hbel⟩

end Go.Proofs.Ytdddplhfhpghkaa.ty

namespace Go.Proofs.Ytdddplhfhpghkaa.ty
open Go.ChangeShapes Go.WideShapes Go.ChangeAt Go.RowKit Go.Deep
set_option linter.unusedVariables false
set_option linter.unusedSimpArgs false

structure Ac where
  fKind : Int
  fName : ByteArray

instance : Inhabited Ac := ⟨⟨0, ⟨#[]⟩⟩⟩

/-- One of them, as it can be read. -/
def CAc (md : Option Nat) (w : World) (b o : Nat) (x : Ac) : Prop := w.cell? ⟨b, o, none⟩ = some (.int .i64 x.fKind) ∧ w.cell? ⟨b, o + 1, none⟩ = some (.string x.fName)

def SrcAc (md : Option Nat) (w : World) (a : Option Addr) (l : List Ac) : Prop := (md = none ∧ l = []) ∨ ∃ b o, a = some ⟨b, o, none⟩ ∧ Okb md w b ∧ ∀ (i : Nat) (x : Ac), l[i]? = some x → CAc md w b (o + i * 2) x

theorem CAc.kept {md : Option Nat} {w w' : World} {b o : Nat} {x : Ac} (h : CAc md w b o x) (hb : ∀ j, j < 2 → w'.cell? ⟨b, o + j, none⟩ = w.cell? ⟨b, o + j, none⟩) (hk : Kep md w w') : CAc md w' b o x := by
  obtain ⟨h0, h1⟩ := h
  exact ⟨(hb 0 (by omega)).trans h0, (hb 1 (by omega)).trans h1⟩

theorem CAc.any {md : Option Nat} {w : World} {b o : Nat} {x : Ac} (h : CAc md w b o x) : CAc none w b o x := by
  obtain ⟨h0, h1⟩ := h
  exact ⟨h0, h1⟩

theorem CAc.mono {lo lo' : Nat} {w : World} {b o : Nat} {x : Ac} (h : CAc (some lo) w b o x) (hl : lo' ≤ lo) : CAc (some lo') w b o x := by
  obtain ⟨h0, h1⟩ := h
  exact ⟨h0, h1⟩

theorem CAc.below {md : Option Nat} {w w' : World} {b o : Nat} {x : Ac} (h : CAc md w b o x) (hb : Below w.heap.size w w') : CAc md w' b o x := by
  have hlt : b < w.heap.size := by
    obtain ⟨h0, h1⟩ := h
    exact World.block_lt_of_cell? _ _ h0
  exact h.kept (fun j _ => World.cell?_of_block (a := ⟨b, _, none⟩) (hb.block b hlt)) (.of_below hb)

theorem SrcAc.kept {md : Option Nat} {w w' : World} {a : Option Addr} {l : List Ac} (h : SrcAc md w a l) (hk : Kep md w w') : SrcAc md w' a l := by
  cases l with
  | nil =>
    cases md with
    | none => exact .inl ⟨rfl, rfl⟩
    | some lo =>
      rcases h with ⟨h, _⟩ | ⟨b, o, e, k1, k2⟩
      · cases h
      · obtain ⟨g1, cs, t, g2⟩ := k1 lo rfl
        have hh := hk b (fun lo' e => by cases e; exact g1) (Array.getElem?_eq_some_iff.1 g2).1
        exact .inr ⟨b, o, e, k1.kept hh, fun i x hx => by simp at hx⟩
  | cons y l =>
    rcases h with ⟨_, h⟩ | ⟨b, o, e, k1, k2⟩
    · cases h
    · have hb : b < w.heap.size := by
        obtain ⟨h0, h1⟩ := k2 0 y rfl
        exact World.block_lt_of_cell? _ _ h0
      have hh := hk b (fun lo e => (k1 lo e).1) hb
      exact .inr ⟨b, o, e, k1.kept hh, fun i x hx => (k2 i x hx).kept (fun j _ => World.cell?_of_block (a := ⟨b, _, none⟩) hh) hk⟩

theorem SrcAc.below {md : Option Nat} {w w' : World} {a : Option Addr} {l : List Ac} (h : SrcAc md w a l) (hb : Below w.heap.size w w') : SrcAc md w' a l := h.kept (.of_below hb)

theorem SrcAc.any {md : Option Nat} {w : World} {a : Option Addr} {l : List Ac} (h : SrcAc md w a l) : SrcAc none w a l := by
  rcases h with h | ⟨b, o, e, k1, k2⟩
  · exact .inl ⟨rfl, h.2⟩
  · exact .inr ⟨b, o, e, Okb.free _ _, fun i x hx => (k2 i x hx).any⟩

theorem SrcAc.mono {lo lo' : Nat} {w : World} {a : Option Addr} {l : List Ac} (h : SrcAc (some lo) w a l) (hl : lo' ≤ lo) : SrcAc (some lo') w a l := by
  rcases h with h | ⟨b, o, e, k1, k2⟩
  · cases h.1
  · exact .inr ⟨b, o, e, fun q hq => by cases hq; have := k1 lo rfl; exact ⟨by omega, this.2⟩, fun i x hx => (k2 i x hx).mono hl⟩

def Sm1Ac (x : Ac) : Prop := x.fName.size ≤ maxLen
def SmAc (l : List Ac) : Prop := l.length ≤ maxLen ∧ ∀ x ∈ l, Sm1Ac x
def wt1Ac (x : Ac) : Nat := x.fName.size
def wtkAc (l : List Ac) (k : Nat) : Nat := ((l.take k).map wt1Ac).sum
def wtAc (l : List Ac) : Nat := l.length + wtkAc l l.length
theorem wtkAc_succ {l : List Ac} {k : Nat} {x : Ac} (h : l[k]? = some x) : wtkAc l (k + 1) = wtkAc l k + wt1Ac x := by
  unfold wtkAc
  rw [List.take_add_one, h]
  simp
theorem wtAc_mem {l : List Ac} {x : Ac} (h : x ∈ l) : l.length + wt1Ac x ≤ wtAc l := by
  unfold wtAc wtkAc
  rw [List.take_length]
  have := sum_mem wt1Ac h
  omega
theorem wtAc_len (l : List Ac) : l.length ≤ wtAc l := by unfold wtAc; omega

set_option maxRecDepth 100000 in
set_option maxHeartbeats 2000000 in
theorem eq1Ac_any (y0 : Int) (y1 : ByteArray)  (w : World)  :
    Calls Try.prog 47 #[.agg #[.int .i64 y0, .string y1], .agg #[.int .i64 y0, .string y1]] w fun e w' => e = .returned (.bool true) ∧ Below w.heap.size w w' := by

  have HB0 : Hid (Below w.heap.size w ((w.alloc (.cells #[.int .i64 y0, .string y1] 64)).alloc (.cells #[.int .i64 y0, .string y1] 64))) := ((Below.refl _ _).alloc (Nat.le_refl _) _).alloc (by simp) _
  go_enter Try.func47, Try.ntmps47
  go_wp2
  go_ret
  first
    | exact ⟨by first | rfl | simp, HB0.out⟩
    | exact ⟨by first | rfl | simp, HB0.out.drew⟩
    | exact ⟨by first | rfl | simp, below_drewN HB0.out _⟩

set_option maxRecDepth 100000 in
set_option maxHeartbeats 4000000 in
theorem eqAc_any (a a' : Option Addr) (c c' : Nat) (l : List Ac) (w : World) (hb : SrcAc none w a l) (hb' : SrcAc none w a' l) (hn : wtAc l ≤ 1048576) :
    Calls Try.prog 21 #[.slice a l.length c, .slice a' l.length c'] w fun e w' => e = .returned (.bool true) ∧ Below w.heap.size w w' := by
  have hl := wtAc_len l
  have hn1 : l.length ≤ 1048576 := by omega
  have HB : Hid (SrcAc none w a l) := hb
  have HB' : Hid (SrcAc none w a' l) := hb'
  clear hb hb' hl
  go_enter Try.func21, Try.ntmps21
  go_wp2
  go_loopw [5] (fun i wr => ∃ k : Nat, k ≤ l.length ∧ i = .int .i64 (k : Int) ∧ Below w.heap.size w wr) (fun i _ => l.length - (intOf i).toNat)
  case atStart => exact ⟨0, Nat.zero_le _, rfl, Below.refl _ _⟩
  case round =>
    obtain ⟨k, hk, rfl, hbel⟩ := hrel
    have HBE : Hid (Below w.heap.size w wr) := hbel
    by_cases hlt : k < l.length
    · obtain ⟨x, hx⟩ : ∃ x, l[k]? = some x := ⟨_, List.getElem?_eq_getElem hlt⟩
      have hwx := wtAc_mem (List.mem_of_getElem? hx)
      rcases HB.out with ⟨_, h⟩ | ⟨b, o, rfl, _, hc⟩
      · rw [h] at hlt; simp at hlt
      rcases HB'.out with ⟨_, h⟩ | ⟨b', o', rfl, _, hc'⟩
      · rw [h] at hlt; simp at hlt
      have hlt' : (k : Int) < (l.length : Int) := by omega
      have hk0 : (0 : Int) ≤ (k : Int) := by omega
      obtain ⟨e0, e1⟩ := hc k x hx
      obtain ⟨e0', e1'⟩ := hc' k x hx
      have K : ∀ {W : World} {q p v}, Below w.heap.size w W → w.cell? ⟨q, p, none⟩ = some v → W.cell? ⟨q, p, none⟩ = some v := fun {W q p v} hW h => (hW.cell (p := ⟨q, p, none⟩) (World.block_lt_of_cell? _ _ h)).trans h
      have HC : Hid (∀ W : World, Below w.heap.size w W → (W.cell? ⟨b, o + k * 2, none⟩ = some (.int .i64 x.fKind) ∧ W.cell? ⟨b, o + k * 2 + 1, none⟩ = some (.string x.fName)) ∧ W.cell? ⟨b', o' + k * 2, none⟩ = some (.int .i64 x.fKind) ∧ W.cell? ⟨b', o' + k * 2 + 1, none⟩ = some (.string x.fName)) := fun W h => ⟨⟨K h e0, K h e1⟩, K h e0', K h e1'⟩
      have HEQ : Hid (∀ W, Below w.heap.size w W → Calls Try.prog 47 #[.agg #[.int .i64 x.fKind, .string x.fName], .agg #[.int .i64 x.fKind, .string x.fName]] W fun e w' => e = .returned (.bool true) ∧ Below W.heap.size W w') := fun W h => eq1Ac_any x.fKind x.fName  W 
      obtain ⟨z0, hz0⟩ : ∃ z, x.fKind = z := ⟨_, rfl⟩
      obtain ⟨z1, hz1⟩ : ∃ z, x.fName = z := ⟨_, rfl⟩
      rw [hz0, hz1] at HC HEQ
      clear hbel hc hc' hx HB HB' hz0 hz1 e0 e1 e0' e1' K hwx
      go_wp2_with fail
      go_region_held3 (fun W => (W.cell? ⟨b, o + k * 2, none⟩ = some (.int .i64 z0) ∧ W.cell? ⟨b, o + k * 2 + 1, none⟩ = some (.string z1)) ∧ W.cell? ⟨b', o' + k * 2, none⟩ = some (.int .i64 z0) ∧ W.cell? ⟨b', o' + k * 2 + 1, none⟩ = some (.string z1))
        (first | exact HC.out _ HBE.out.drew | exact HC.out _ hb2 | exact HC.out _ HBE.out | go_keep)
        (((go_at_call 47; refine (HEQ.out _ HBE.out.drew).mono ?_; rintro e w2 ⟨rfl, hl2⟩; have hb2 : Below w.heap.size w w2 := HBE.out.drew.trans (hl2.mono HBE.out.size))))
      go_wp2_with fail
      go_roundw
      case rel => exact ⟨k + 1, by omega, by go_num, hb2⟩
      case measure => simp [intOf]; omega
    · have hlt' : ¬ (k : Int) < (l.length : Int) := by omega
      go_wp2
      go_ret
      exact ⟨rfl, hbel⟩


end Go.Proofs.Ytdddplhfhpghkaa.ty

namespace Go.Proofs.Ytdddplhfhpghkaa.ty
open Go.ChangeShapes Go.WideShapes Go.ChangeAt Go.RowKit Go.Deep
set_option linter.unusedVariables false
set_option linter.unusedSimpArgs false

/-! ### The law's marks over lists that are own -/

/-- Rows of Ac, as they can be marked. -/
def MAc (lo hi : Nat) (w : World) (a : Option Addr) (l : List Ac) : Prop := ∃ b o, a = some ⟨b, o, none⟩ ∧ lo ≤ b ∧ b < hi ∧ (∃ cs t, w.heap[b]? = some (.cells cs t (0, 0))) ∧ ∀ (i : Nat) (x : Ac), l[i]? = some x → (∃ v, w.cell? ⟨b, o + i * 2, none⟩ = some v ∧ isSl v = false) ∧ (∃ v, w.cell? ⟨b, o + i * 2 + 1, none⟩ = some v ∧ isSl v = false)
def cn1Ac (x : Ac) : Nat := 2
def cnkAc (l : List Ac) (k : Nat) : Nat := ((l.take k).map cn1Ac).sum
def cnAc (l : List Ac) : Nat := cnkAc l l.length
theorem cnkAc_succ {l : List Ac} {k : Nat} {x : Ac} (h : l[k]? = some x) : cnkAc l (k + 1) = cnkAc l k + cn1Ac x := by
  unfold cnkAc
  rw [List.take_add_one, h]
  simp
theorem cnkAc_le (l : List Ac) (k : Nat) : cnkAc l k ≤ cnAc l := by
  unfold cnAc cnkAc
  rw [List.take_length]
  have : ((l.take k).map cn1Ac).sum + ((l.drop k).map cn1Ac).sum = (l.map cn1Ac).sum := by rw [← List.sum_append_nat, ← List.map_append, List.take_append_drop]
  omega
theorem cnAc_len (l : List Ac) : l.length ≤ cnAc l := by
  unfold cnAc cnkAc
  rw [List.take_length]
  induction l with
  | nil => simp
  | cons y l ih =>
    rw [List.map_cons, List.sum_cons, List.length_cons]
    have : 1 ≤ cn1Ac y := by unfold cn1Ac; omega
    omega
theorem cnAc_le (l : List Ac) : cnAc l ≤ 8 * wtAc l := by
  have h1 : ∀ x : Ac, cn1Ac x ≤ 8 * (1 + wt1Ac x) := fun x => by unfold cn1Ac wt1Ac;  omega
  unfold cnAc cnkAc wtAc wtkAc
  rw [List.take_length]
  induction l with
  | nil => simp
  | cons y l ih =>
    rw [List.map_cons, List.map_cons, List.sum_cons, List.sum_cons, List.length_cons]
    have := h1 y
    omega

theorem MAc.shp {lo hi : Nat} {w w' : World} {a : Option Addr} {l : List Ac} (h : MAc lo hi w a l) (k : Shp w w') : MAc lo hi w' a l := by
  obtain ⟨b, o, e, hA, hA2, hB, hX⟩ := h
  refine ⟨b, o, e, hA, hA2, blk_shp k hB, fun i x hx => ?_⟩
  obtain ⟨h0, h1⟩ := hX i x hx
  exact ⟨(by obtain ⟨v, g1, g2⟩ := h0; obtain ⟨v', k1, k2, _⟩ := cell_shp k hB g1; exact ⟨v', k1, k2.2 g2⟩), (by obtain ⟨v, g1, g2⟩ := h1; obtain ⟨v', k1, k2, _⟩ := cell_shp k hB g1; exact ⟨v', k1, k2.2 g2⟩)⟩
theorem MAc.src {lo : Nat} {w : World} {a : Option Addr} {l : List Ac} (h : SrcAc (some lo) w a l) : MAc lo w.heap.size w a l := by
  rcases h with ⟨h, _⟩ | ⟨b, o, e, h1, h2⟩
  · cases h
  · obtain ⟨g1, cs, t, g2⟩ := h1 lo rfl
    refine ⟨b, o, e, g1, (Array.getElem?_eq_some_iff.1 g2).1, ⟨cs, t, g2⟩, fun i x hx => ?_⟩
    obtain ⟨q0, q1⟩ := h2 i x hx
    exact ⟨⟨_, q0, rfl⟩, ⟨_, q1, rfl⟩⟩

set_option maxRecDepth 100000 in
set_option maxHeartbeats 2000000 in
theorem markAc_any (lo hi : Nat) (a : Option Addr) (c : Nat) (l : List Ac) (k0 : Nat) (w : World) (hM : MAc lo hi w a l) (h0 : 0 < k0) (hk : k0 + cnAc l ≤ 100000000) :
    Calls Try.prog 22 #[.slice a l.length c, .int .i64 (k0 : Int)] w fun e w' => e = .returned (.int .i64 ((k0 + cnAc l : Nat) : Int)) ∧ Rel lo hi w w' := by
  obtain ⟨b, o, rfl, hl, hh, hbk, hc⟩ := hM
  have HBK : Hid (∃ cs t, w.heap[b]? = some (.cells cs t (0, 0))) := hbk
  have HC : Hid (∀ (i : Nat) (x : Ac), l[i]? = some x → (∃ v, w.cell? ⟨b, o + i * 2, none⟩ = some v ∧ isSl v = false) ∧ (∃ v, w.cell? ⟨b, o + i * 2 + 1, none⟩ = some v ∧ isSl v = false)) := hc
  have HCL : Hid (∀ k, cnkAc l k ≤ cnAc l) := cnkAc_le l
  have HKL : Hid (k0 + cnAc l ≤ 100000000) := hk
  clear hbk hc hk
  obtain ⟨n, hn⟩ : ∃ n, l.length = n := ⟨_, rfl⟩
  have HN : Hid (l.length = n) := hn
  have hn9 : n ≤ 100000000 := by have h1 := cnAc_len l; have h2 := HKL.out; omega
  rw [hn]
  clear hn
  go_enter Try.func22, Try.ntmps22
  go_wp2
  go_loopw [1, 5] (fun a x wr => ∃ (i : Nat), i ≤ n ∧ x = .int .i64 (i : Int) ∧ a = .int .i64 ((k0 + cnkAc l i : Nat) : Int) ∧ Rel lo hi w wr) (fun _ x _ => n - (intOf x).toNat)
  case atStart => exact ⟨0, Nat.zero_le _, rfl, by simp [cnkAc], Rel.refl _ _ _⟩
  case round =>
    obtain ⟨i, hi', rfl, rfl, hrl⟩ := hrel
    have HRL : Hid (Rel lo hi w wr) := hrl
    clear hrl
    by_cases h : i < n
    · have h' : (i : Int) < (n : Int) := by omega
      have hi0 : (0 : Int) ≤ (i : Int) := by omega
      obtain ⟨x, hx⟩ : ∃ x, l[i]? = some x := ⟨_, List.getElem?_eq_getElem (by rw [HN.out]; exact h)⟩
      have HX : Hid (l[i]? = some x) := hx
      have HSU : Hid (cnkAc l (i + 1) = cnkAc l i + cn1Ac x) := cnkAc_succ hx
      obtain ⟨K0, hK0⟩ : ∃ K : Nat, k0 + cnkAc l i = K := ⟨_, rfl⟩
      have HKK : Hid (k0 + cnkAc l i = K0) := hK0
      have HCB : Hid (K0 + cn1Ac x ≤ 100000000) := by
        show _ ≤ _
        have h1 := HCL.out (i + 1)
        have h2 := HKL.out
        have h3 := HSU.out
        omega
      have hK0b : K0 ≤ 100000000 := by have := HCB.out; omega
      have hK0c : K0 + 2 ≤ 100000000 := by have h9 := HCB.out; unfold cn1Ac at h9; omega
      have hK0p : 0 < K0 := by omega
      rw [hK0]
      clear hK0 hx
      obtain ⟨u0_0, x0_0, y0_0⟩ := (HC.out i x HX.out).1
      obtain ⟨v0_0, g0_0, l0_0, f0_0⟩ := cell_shp HRL.out.2.2.2 HBK.out x0_0
      have HZ0_0 : Hid (isSl v0_0 = false) := l0_0.2 y0_0
      clear y0_0 l0_0
      have HR0_0 : Hid (Rel lo hi w (wr.setCell ⟨b, o + i * 2, none⟩ (.int .i64 ((K0 : Int))))) := by
        obtain ⟨v9, g9, l9, f9⟩ := cell_shp HRL.out.2.2.2 HBK.out x0_0
        obtain ⟨_, _, y9⟩ := (HC.out i x HX.out).1
        exact HRL.out.set hl hh g9 (l9.2 (by obtain ⟨u9, x9, y9⟩ := (HC.out i x HX.out).1; rw [x0_0] at x9; cases x9; exact y9)) rfl
      have HM1 : Hid (∀ W, Calls Try.prog 36 #[.int .i64 ((K0 : Int) + 1)] W fun e w' => e = .returned (.string (sr.mark (K0 + 1))) ∧ Below W.heap.size W w') := fun W => by
        have := sr.mark_any (K0 + 1) (by omega) (by omega) W
        rwa [show ((K0 + 1 : Nat) : Int) = (K0 : Int) + 1 by omega] at this
      generalize sr.mark (K0 + 1) = s1 at *
      go_wp2_with (go_at_call 36; refine (HM1.out _).mono ?_; rintro e w1 ⟨rfl, hb1⟩; refine Hid.out ?_)
      refine Lib.hid ?_
      have HB1 : Hid (Rel lo hi w w1) := HR0_0.out.below hb1
      clear hb1 HM1 g0_0 f0_0
      obtain ⟨u1_1, x1_1, y1_1⟩ := (HC.out i x HX.out).2
      obtain ⟨v1_1, g1_1, l1_1, f1_1⟩ := cell_shp HB1.out.2.2.2 HBK.out x1_1
      have HZ1_1 : Hid (isSl v1_1 = false) := l1_1.2 y1_1
      clear y1_1 l1_1
      have HR1_1 : Hid (Rel lo hi w (w1.setCell ⟨b, o + i * 2 + 1, none⟩ (.string s1))) := by
        obtain ⟨v9, g9, l9, f9⟩ := cell_shp HB1.out.2.2.2 HBK.out x1_1
        obtain ⟨_, _, y9⟩ := (HC.out i x HX.out).2
        exact HB1.out.set hl hh g9 (l9.2 (by obtain ⟨u9, x9, y9⟩ := (HC.out i x HX.out).2; rw [x1_1] at x9; cases x9; exact y9)) rfl
      go_wp2
      go_roundw
      case rel => exact ⟨i + 1, by omega, by go_num, by (rw [HSU.out]; unfold cn1Ac;  have := HKK.out; go_num) , HR1_1.out⟩
      case measure => simp [intOf]; omega
    · have h' : ¬ (i : Int) < (n : Int) := by omega
      obtain rfl : i = n := by omega
      have HE : Hid (cnkAc l i = cnAc l) := by show _ = _; unfold cnAc; rw [HN.out]
      rw [HE.out]
      go_wp2
      go_ret
      exact ⟨rfl, HRL.out⟩

end Go.Proofs.Ytdddplhfhpghkaa.ty
