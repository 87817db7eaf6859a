import Derived.Test.YtcpmgellfaeejaaGreatDoorG25
import Derived.Lib.ItoaLen
import Derived.Test.YtcpmgellfaeejaaGreatDoorG05
import Derived.Test.YtcpmgellfaeejaaGreatDoorG13
import Derived.Test.YtcpmgellfaeejaaGreatDoorG14
import Derived.Test.YtcpmgellfaeejaaGreatDoorG01
import Derived.Deep.RegionHeld3
namespace Go.Proofs.YtcpmgellfaeejaaGreatDoor.dr
open Go.ChangeShapes Go.WideShapes Go.ChangeAt Go.RowKit Go.Deep
set_option linter.unusedVariables false
set_option linter.unusedSimpArgs false
theorem can_app {w1 w2 : World} {c : Nat} {a : Option Addr} {n cap : Nat} {o : Obj} {B size k : Nat} {e : TypeId} {v : Value} {xs : List Value} (h : Can w1 c a n cap) (ho : (w1.alloc o).ownsRow B e size v k xs) (hB : c < B) (hw : B ≤ w1.heap.size) (hg : (w1.alloc o).grownBy w2 v.ownBlock) : Can w2 c a n cap :=
 h.below (((Below.refl (c + 1) w1).alloc (by omega) o).grown hg (by simp; omega) (fun k e => by have := (ho.lt k e).1; omega))
set_option maxHeartbeats 1000000 in
theorem some_can {w : World} {c : Nat} {a : Option Addr} {n cap : Nat} (h : Can w c a n cap) (hcw : c < w.heap.size) (m : Nat) (hm2 : m ≤ 1000000) :
  Calls Tryz.prog 150 #[.pointer (some ⟨c, 0, none⟩), .int .i64 (m : Int)] w fun e w' => ∃ (v : Value) (l : List UInt8), e = .returned v ∧ w'.ownsRow w.heap.size 5 1 v m (byteCells l) ∧ Draws w w' c a n cap := by
 go_enter Tryz.func150, Tryz.ntmps150
 go_wp2
 go_loopw [5, 6, 7] (fun v i _ wr => ∃ (k : Nat) (l : List UInt8), k ≤ m ∧ i = .int .i64 (k : Int) ∧ wr.ownsRow w.heap.size 5 1 v k (byteCells l) ∧ Draws w wr c a n cap) (fun _ i _ _ => m - (intOf i).toNat)
 case atStart => exact ⟨0, [], Nat.zero_le _, rfl, own_empty5 w _ (Nat.le_refl _), ⟨(h.below ((Below.refl _ w).alloc hcw _)).code, (h.below ((Below.refl _ w).alloc hcw _)).cur, grown_alloc (grown_refl _ _) _⟩⟩
 case round =>
  obtain ⟨k, l, hk, rfl, ho, hd⟩ := hrel
  by_cases hlt : k < m
  ·have hlt' : (k : Int) < (m : Int) := by omega
   have hcan := h.draws hd
   go_wp2_with (first
    | (go_at_call 24; refine (below_can hcan 256 (by decide) (by decide)).mono ?_; rintro e w1 ⟨x, rfl, hx, d1⟩)
    | (at_builtin; refine app_own _ rfl _ _ 22 rfl w.heap.size 5 (.int .u8 0) 1 Tryz.underlying22 info5 rfl _ _ _ rfl ((own_draws ho hcw d1).alloc _) ⟨w1.heap.size, 0, none⟩ 1 1 [.int .u8 (x : Int)] rfl rfl (one_new _ _ _) (fun u hu => by simp at hu; subst hu; rfl) ?c1 ?c2 ?c3 ?_)
    | go_in)
   case c1 => unfold maxLen; omega
   case c2 => omega
   case c3 => have := hd.grown.size; have := d1.grown.size; simp; omega
   intro v' w2 hown' hg
   rw [byte_cell x hx, ← byteCells_append] at hown'
   have hd2 := hd.trans d1
   have hs2 := hd2.grown.size
   have hc2 := can_app (hcan.draws d1) ((own_draws ho hcw d1).alloc _) hcw hs2 hg
   go_wp2
   go_roundw
   case rel => exact ⟨k + 1, _, by omega, by go_num, hown', ⟨hc2.code, hc2.cur, grown_app (grown_alloc hd2.grown _) ((own_draws ho hcw d1).alloc _) hg⟩⟩
   case measure => simp [intOf]; omega
  ·have hlt' : ¬ (k : Int) < (m : Int) := by omega
   obtain rfl : k = m := by omega
   go_wp2
   go_ret
   exact ⟨_, rfl, ⟨l, ho⟩, hd⟩
end Go.Proofs.YtcpmgellfaeejaaGreatDoor.dr

namespace Go.Proofs.YtcpmgellfaeejaaGreatDoor.dr
open Go.ChangeShapes Go.WideShapes Go.ChangeAt Go.RowKit Go.Deep
set_option linter.unusedVariables false
set_option linter.unusedSimpArgs false
theorem new_can {w : World} {a : Option Addr} {n cap : Nat} (hb : CodeB w a n) (hn : n ≤ 1048576) (hlt : ∀ x, a = some x → 0 < n → x.block < w.heap.size) (h : Int) : Can (w.alloc (.cells #[.slice a n cap, .int .i64 0, .int .i64 h] 66)) w.heap.size a n cap := by
 refine ⟨hb.grown (World.grownBy_alloc w _ (some w.heap.size)) (fun x e h0 => Nat.ne_of_lt (hlt x e h0)), ⟨0, h, ?_, Nat.zero_le _⟩, hn, hlt⟩
 exact World.rowIs_alloc w _ _ _ (fun i hi => by
  match i, hi with
  | 0, _ => rfl
  | 1, _ => rfl
  | 2, _ => rfl)
end Go.Proofs.YtcpmgellfaeejaaGreatDoor.dr

namespace Go.Proofs.YtcpmgellfaeejaaGreatDoor.dr
open Go.ChangeShapes Go.WideShapes Go.ChangeAt Go.RowKit Go.Deep
set_option linter.unusedVariables false
set_option linter.unusedSimpArgs false
def strOk (v : Value) : Bool := match v with
 | .string y => decide (y.size ≤ 64)
 | _ => false
def Tab (w : World) (b m : Nat) : Prop := ∀ x, x < m → ∃ y : ByteArray, y.size ≤ 64 ∧ w.cell? ⟨b, x, none⟩ = some (.string y)
theorem tab_new (w : World) (arr : Array Value) (m : Nat) (hm : m = arr.size) (hok : arr.all strOk = true) : Tab (w.alloc (.cells arr 9)) w.heap.size m := by
 subst hm
 intro x hx
 have h := (Array.all_eq_true.1 hok) x hx
 have hc := World.cell?_alloc_new w arr 9 x
 rw [Array.getElem?_eq_getElem hx] at hc
 generalize arr[x] = v at h hc
 cases v <;> simp [strOk] at h
 exact ⟨_, h, hc⟩
theorem Tab.draws {wr w' : World} {b m c : Nat} {a : Option Addr} {n cap : Nat} (h : Tab wr b m) (d : Draws wr w' c a n cap) (hb : b ≠ c) : Tab w' b m := fun x hx => by
 obtain ⟨y, hy, hc⟩ := h x hx
 exact ⟨y, hy, d.grown.cell hc (fun e => hb (by have := Option.some.inj e; simpa using this))⟩
theorem Draws.alloc {w wr : World} {c : Nat} {a : Option Addr} {n cap : Nat} (h : Draws w wr c a n cap) (hc : Can w c a n cap) (hw : c < w.heap.size) (o : Obj) : Draws w (wr.alloc o) c a n cap := by
 have h1 := (hc.draws h).below ((Below.refl _ wr).alloc (by have := h.grown.size; omega) o)
 exact ⟨h1.code, h1.cur, grown_alloc h.grown o⟩
theorem Draws.below {w wr w' : World} {c : Nat} {a : Option Addr} {n cap : Nat} (h : Draws w wr c a n cap) (hc : Can w c a n cap) (hw : c < w.heap.size) (hb : Below wr.heap.size wr w') : Draws w w' c a n cap := by
 have h1 := (hc.draws h).below (hb.mono (by have := h.grown.size; omega))
 exact ⟨h1.code, h1.cur, ⟨hb.os.trans h.grown.os, hb.tape.trans h.grown.tape, hb.output.trans h.grown.output, Nat.le_trans h.grown.size hb.size, fun j hj hne => (hb.block j (Nat.lt_of_lt_of_le hj h.grown.size)).trans (h.grown.block j hj hne)⟩⟩
end Go.Proofs.YtcpmgellfaeejaaGreatDoor.dr

namespace Go.Proofs.YtcpmgellfaeejaaGreatDoor.dr
open Go.ChangeShapes Go.WideShapes Go.ChangeAt Go.RowKit Go.Deep
set_option linter.unusedVariables false
set_option linter.unusedSimpArgs false
def dgt (k : Nat) : UInt8 := UInt8.ofNat (48 + k % 10)
theorem dgt_nat (k : Nat) : ((dgt k).toNat : Int) = 48 + ((k % 10 : Nat) : Int) := by
 have : (48 + k % 10) % 256 = 48 + k % 10 := Nat.mod_eq_of_lt (by omega)
 simp [dgt, UInt8.toNat_ofNat', this]
theorem dgt_conv (k : Nat) (wr : World) (z : Int) (hz : z = 48 + ((k % 10 : Nat) : Int)) : (convert 22 9 (.slice (some ⟨wr.heap.size, 0, none⟩) 1 1)).run Tryz.prog (wr.alloc (.cells #[.int .u8 z] 5)) = .ok (.string ⟨[dgt k].toArray⟩) (wr.alloc (.cells #[.int .u8 z] 5)) := by
 subst hz
 refine own_string (base := wr.heap.size) (n := 1) Tryz.underlying22 Tryz.underlying5 Tryz.underlying9 ?_
 rw [byteCells_one, dgt_nat]
 exact ⟨rfl, .inr ⟨wr.heap.size, 1, #[.int .u8 (48 + ((k % 10 : Nat) : Int))], rfl, Nat.le_refl _, heap_alloc_new wr _, by decide, by decide, rfl, rfl⟩⟩
theorem dec_step {k : Nat} (h : 9 < k) : Lib.decDigits k = Lib.decDigits (k / 10) ++ [dgt k] := by
 rw [Lib.decDigits, dif_neg (by omega)]; rfl
theorem dec_last {k : Nat} (h : ¬ 9 < k) : Lib.decDigits k = [dgt k] := by
 rw [Lib.decDigits, dif_pos (by omega), dgt, Nat.mod_eq_of_lt (by omega)]
set_option maxHeartbeats 1000000 in
theorem int_is (k0 : Nat) (h1 : k0 ≤ 9223372036854775807) (w : World) :
  Calls Tryz.prog 56 #[.int .i64 (k0 : Int)] w fun e w' => e = .returned (.string ⟨(Lib.itoa (k0 : Int)).toArray⟩) ∧ Below w.heap.size w w' := by
 have hN : Lib.itoa (k0 : Int) = Lib.decDigits k0 := by simp [Lib.itoa]
 rw [hN]
 obtain ⟨G, hG⟩ : ∃ G, Lib.decDigits k0 = G := ⟨_, rfl⟩
 rw [hG]
 have hgl : G.length ≤ 21 := by
  have h := Lib.itoa_length_le (k0 : Int) (by omega) (by omega)
  rw [← hG, ← hN]
  exact h
 clear hN
 go_enter Tryz.func56, Tryz.ntmps56
 go_wp2
 go_loopw [0, 3] (fun a b wr => ∃ (k : Nat) (l : List UInt8), a = .int .i64 (k : Int) ∧ b = .string ⟨l.toArray⟩ ∧ k ≤ 9223372036854775807 ∧ Lib.decDigits k ++ l = G ∧ Below w.heap.size w wr) (fun a _ _ => (intOf a).toNat)
 case atStart => exact ⟨k0, [], rfl, rfl, h1, by rw [List.append_nil]; exact hG, Below.refl _ _⟩
 case round =>
  obtain ⟨k, l, rfl, rfl, hk, hd, hbel⟩ := hrel
  have HD : Hid (Lib.decDigits k ++ l = G) := hd
  have hll : l.length ≤ 21 := by rw [← hd, List.length_append] at hgl; omega
  clear hd hG hgl
  have hsz : (⟨l.toArray⟩ : ByteArray).size = l.length := by simp [ByteArray.size]
  have hcat : ¬ 9223372036854775807 < 1 + (⟨l.toArray⟩ : ByteArray).size := by omega
  obtain ⟨s, hs⟩ : ∃ s : ByteArray, (⟨l.toArray⟩ : ByteArray) = s := ⟨_, rfl⟩
  rw [hs] at hcat ⊢
  have HS : Hid ((⟨l.toArray⟩ : ByteArray) = s) := hs
  clear hs hsz
  have HC : Hid ((⟨#[dgt k]⟩ : ByteArray) ++ s = ⟨(dgt k :: l).toArray⟩) := by
   show _ = _
   rw [← HS.out]
   apply ByteArray.ext
   simp
  by_cases hlt : 9 < k
  ·have hlti : 9 < (k : Int) := by omega
   have hconv := dgt_conv k wr (48 + (k : Int) % 10) (by omega)
   go_wp2
   go_roundw
   case rel => exact ⟨k / 10, dgt k :: l, by go_num, by rw [← HC.out], by omega, by rw [← HD.out, dec_step hlt]; simp, hbel.alloc hbel.size _⟩
   case measure => simp [intOf]; omega
  ·have hlti : ¬ 9 < (k : Int) := by omega
   have hconv := dgt_conv k wr (48 + (k : Int)) (by omega)
   go_wp2
   go_ret
   refine ⟨?_, hbel.alloc hbel.size _⟩
   rw [← HD.out, dec_last hlt]
   exact ret_str HC.out
end Go.Proofs.YtcpmgellfaeejaaGreatDoor.dr

namespace Go.Proofs.YtcpmgellfaeejaaGreatDoor.wd
open Go.ChangeShapes Go.WideShapes Go.ChangeAt Go.RowKit Go.Deep
set_option linter.unusedVariables false
def pre (k n : ByteArray) : ByteArray := k ++ ⟨#[58]⟩ ++ n ++ ⟨#[58]⟩
def ints (s : ByteArray) : List Int := s.data.toList.map fun x => (x.toNat : Int)
theorem ints_at {s : ByteArray} {i : Nat} (h : i < s.size) : (ints s)[i]?.getD 0 = (s[i].toNat : Int) := by
 unfold ints
 rw [List.getElem?_map, List.getElem?_eq_getElem (by simpa using h)]
 rfl
theorem ints_len (s : ByteArray) : (ints s).length = s.size := by simp [ints]
theorem sumS_congr {l l' : List Int} (h : Int) : ∀ n, (∀ i, i < n → l[i]?.getD 0 = l'[i]?.getD 0) → sm.sumS l h n = sm.sumS l' h n := by
 intro n
 induction n with
 | zero => intro _; rfl
 | succ n ih =>
  intro hl
  simp only [sm.sumS, sm.stepS]
  rw [ih (fun i hi => hl i (by omega)), hl n (by omega)]
theorem sumS_add (l l2 : List Int) (h : Int) (z : Nat) (hz : l.length = z) : ∀ m, sm.sumS (l ++ l2) h (z + m) = sm.sumS l2 (sm.sumS l h z) m := by
 intro m
 induction m with
 | zero =>
  show sm.sumS (l ++ l2) h z = sm.sumS l h z
  exact sumS_congr h z (fun i hi => by rw [List.getElem?_append_left (by omega)])
 | succ m ih =>
  rw [← Nat.add_assoc]
  simp only [sm.sumS, sm.stepS]
  rw [ih, List.getElem?_append_right (by omega), show z + m - l.length = m by omega]
def addrX (k n : ByteArray) (l : List Int) (m : Nat) : Int := sm.lastS (sm.sumS l (sm.sumS (ints (pre k n)) 14695981039346656037 (pre k n).size) m)
def addrA (k n : ByteArray) (l : List Int) (m : Nat) : ByteArray := wordA (addrX k n l m).toNat ++ ⟨#[45]⟩ ++ n
theorem addrX_wf (k n : ByteArray) (l : List Int) (m : Nat) : 0 ≤ addrX k n l m ∧ addrX k n l m ≤ 18446744073709551615 := by
 have h := wf_bits BinOp.xor .u64 (sm.turnS (sm.sumS l (sm.sumS (ints (pre k n)) 14695981039346656037 (pre k n).size) m) 3) (sm.turnS (sm.sumS l (sm.sumS (ints (pre k n)) 14695981039346656037 (pre k n).size) m) 3 / 4294967296)
 have e : addrX k n l m = bits BinOp.xor .u64 (sm.turnS (sm.sumS l (sm.sumS (ints (pre k n)) 14695981039346656037 (pre k n).size) m) 3) (sm.turnS (sm.sumS l (sm.sumS (ints (pre k n)) 14695981039346656037 (pre k n).size) m) 3 / 4294967296) := rfl
 rw [← e] at h
 simpa [Lit.wf, IntKind.min, IntKind.max, IntKind.signed, IntKind.bits] using h
theorem wspec {x : Int} (h : 0 ≤ x ∧ x ≤ 18446744073709551615) (w : World) :
  Calls Tryz.prog 90 #[.int .u64 x] w fun e w' => e = .returned (.string (wordA x.toNat)) ∧ Below w.heap.size w w' := by
 obtain ⟨X, rfl⟩ := Int.eq_ofNat_of_zero_le h.1
 exact spec_any X (by omega) w
theorem wimpl {x : Int} (h : 0 ≤ x ∧ x ≤ 18446744073709551615) (w : World) (hT : Tab w) :
  Calls Tryz.prog 104 #[.int .u64 x] w fun e w' => e = .returned (.string (wordA x.toNat)) ∧ Below w.heap.size w w' := by
 obtain ⟨X, rfl⟩ := Int.eq_ofNat_of_zero_le h.1
 exact impl_any X (by omega) w hT
theorem pre_size (k n : ByteArray) : (pre k n).size = k.size + 1 + n.size + 1 := by
 simp [pre, ByteArray.size_append]
 rfl
theorem laddr_any (k n : ByteArray) (hk : k.size ≤ 1048576) (hn : n.size ≤ 1048576) (b m c : Nat) (l : List Int) (hm : m ≤ 1048576) (w : World) (hb : b < w.heap.size) (hl : ∀ i, i < m → w.cell? ⟨b, i, none⟩ = some (.int .u8 (l[i]?.getD 0))) :
  Calls Tryz.prog 55 #[.string k, .string n, .slice (some ⟨b, 0, none⟩) m c] w fun e w' => e = .returned (.string (addrA k n l m)) ∧ Below w.heap.size w w' := by
 have hps := pre_size k n
 obtain ⟨z, cap, W1, hconv, hz, hC⟩ := conv_row (P := Tryz.prog) w 9 22 5 (pre k n) (by omega) Tryz.underlying9 Tryz.underlying22 Tryz.underlying5
 obtain ⟨g, cap2, W2, hrun, h1, h2, hB⟩ := conv_app hC (by omega) 22 5 Tryz.underlying22 info5 b m c l (by omega) hb hl
 rw [← hz] at hrun
 have hbs : Hid (sm.Bs W2 (some ⟨g, 0, none⟩) (z + m) (ints (pre k n) ++ l)) := by
  refine .inr ⟨g, 0, rfl, fun i hi => ?_⟩
  rw [Nat.zero_add]
  by_cases hi' : i < (pre k n).size
  ·rw [h1 i hi', List.getElem?_append_left (by rw [ints_len]; exact hi'), ints_at hi']
  ·obtain ⟨j, rfl⟩ : ∃ j, i = (pre k n).size + j := ⟨i - (pre k n).size, by omega⟩
   rw [h2 j (by omega), List.getElem?_append_right (by rw [ints_len]; omega), ints_len, show (pre k n).size + j - (pre k n).size = j by omega]
 have hX : Hid (sm.lastS (sm.sumS (ints (pre k n) ++ l) 14695981039346656037 (z + m)) = addrX k n l m) := by
  show _ = addrX k n l m
  rw [sumS_add _ _ _ z (by rw [ints_len, hz])]
  unfold addrX
  rw [hz]
 have hzb : z + m ≤ 1099511627776 := by omega
 have hsum : ∀ (c : Nat), Calls Tryz.prog 92 #[.slice (some ⟨g, 0, none⟩) (z + m) c] W2 fun e w' => e = .returned (.int .u64 (addrX k n l m)) ∧ w' = W2 := fun c =>
  (sm.spec_any _ (z + m) c _ W2 hbs.out hzb).mono fun e w' ⟨he, hw⟩ => ⟨he.trans (ret_int hX.out), hw⟩
 have HS : Hid (∀ (c : Nat), Calls Tryz.prog 92 #[.slice (some ⟨g, 0, none⟩) (z + m) c] W2 fun e w' => e = .returned (.int .u64 (addrX k n l m)) ∧ w' = W2) := hsum
 have HR : Hid (∀ ty, (Builtin.append_ #[22, 22] ty #[.slice (some ⟨w.heap.size, 0, none⟩) z cap, .slice (some ⟨b, 0, none⟩) m c]).run Tryz.prog W1 = .ok (.slice (some ⟨g, 0, none⟩) (z + m) cap2) W2) := hrun
 have hsz := hB.size
 have hW := addrX_wf k n l m
 have HW : Hid (0 ≤ addrX k n l m ∧ addrX k n l m ≤ 18446744073709551615) := hW
 have hws := wordA_size (addrX k n l m).toNat
 unfold pre at hconv
 clear hz hps h1 h2 hsum hrun hC hzb hW
 go_enter Tryz.func55, Tryz.ntmps55
 go_wp2_with (first
  | (at_builtin; refine app_any _ rfl _ _ 22 rfl _ _ rfl rfl _ _ HR.out ?_)
  | (go_at_call 92; refine (HS.out _).mono ?_; rintro e w' ⟨rfl, rfl⟩)
  | (go_at_call 90; refine (wspec HW.out _).mono ?_; rintro e w3 ⟨rfl, hl3⟩)
  | go_in)
 go_ret
 exact ⟨rfl, hB.trans (hl3.mono hsz)⟩
end Go.Proofs.YtcpmgellfaeejaaGreatDoor.wd

namespace Go.Proofs.YtcpmgellfaeejaaGreatDoor.wd
open Go.ChangeShapes Go.WideShapes Go.ChangeAt Go.RowKit Go.Deep Go.Maps
set_option linter.unusedVariables false
theorem idxTo_let {v : Nat} (h : v < 32) : idxTo (letU v) 32 = some v := by
 cases he : idxTo (letU v) 32 with
 | none => exact absurd rfl (idxTo_none he v h)
 | some j => rw [letU_ne j (idxTo_lt he) v h (idxTo_some he)]
theorem wordA_at (X : Nat) {k : Nat} (h : k < 13) : (wordA X).data.toList[k]?.getD 0 = digit X (12 - k) := by
 simp [wordA, h]
theorem rd_word (X : Nat) (hX : X < 18446744073709551616) : ∀ k, k ≤ 13 → rdTo (wordA X) k = some (X / 32 ^ (13 - k)) := by
 intro k
 induction k with
 | zero =>
  intro _
  have : X / 32 ^ 13 = 0 := Nat.div_eq_of_lt (by omega)
  simp [rdTo, this]
 | succ k ih =>
  intro hk
  unfold rdTo
  rw [ih (by omega), wordA_at X (by omega), digit, idxTo_let (dm_lt _ _)]
  have e : X / 32 ^ (13 - k) = X / 32 ^ (12 - k) / 32 := by rw [Nat.div_div_eq_div_mul, ← Nat.pow_succ, show (12 - k).succ = 13 - k by omega]
  have e2 : X / 32 ^ (13 - k) * 32 + dm X (12 - k) = X / 32 ^ (12 - k) := by
   rw [e]; unfold dm dv; omega
  rw [show 13 - (k + 1) = 12 - k by omega]
  have hn : ¬ (k = 0 ∧ 15 < dm X (12 - k)) := by
   rintro ⟨rfl, h⟩
   have h12 : dv X 12 < 16 := by unfold dv; omega
   have e0 : dm X (12 - 0) = dv X 12 := by
    show dv X 12 % 32 = dv X 12
    exact Nat.mod_eq_of_lt (by omega)
   rw [e0] at h
   omega
  simp only [if_neg hn, e2]
theorem rw_word (X : Nat) (hX : X < 18446744073709551616) : rwX (wordA X) = (X : Int) ∧ rwB (wordA X) = true := by
 have h := rd_word X hX 13 (Nat.le_refl _)
 constructor
 ·simp [rwX, wordA_size, h]
 ·simp [rwB, wordA_size, h]
end Go.Proofs.YtcpmgellfaeejaaGreatDoor.wd

namespace Go.Proofs.YtcpmgellfaeejaaGreatDoor.wd
open Go.ChangeShapes Go.WideShapes Go.ChangeAt Go.RowKit Go.Deep Go.Maps
set_option linter.unusedVariables false
set_option linter.unusedSimpArgs false
theorem ex_head (p q : ByteArray) (k : Nat) (h : p.size = k) : (p ++ q).extract 0 k = p := by
 subst h
 apply ByteArray.ext
 simp only [ByteArray.data_extract, ByteArray.data_append]
 rw [Array.extract_append]
 simp
theorem ex_tail (p q : ByteArray) (k : Nat) (h : p.size = k) : (p ++ q).extract k (p ++ q).size = q := by
 subst h
 apply ByteArray.ext
 simp only [ByteArray.data_extract, ByteArray.data_append, ByteArray.size_append]
 rw [Array.extract_append]
 simp only [Nat.sub_self, Nat.add_sub_cancel_left, ByteArray.size_data]
 have e1 : p.data.extract p.size (p.size + q.size) = #[] := by
  apply Array.eq_empty_of_size_eq_zero
  simp
 have e2 : q.data.extract 0 q.size = q.data := by
  simp
 rw [e1, e2]
 simp
theorem adr_size (k n : ByteArray) (l : List Int) (m : Nat) : (addrA k n l m).size = 14 + n.size := by
 simp [addrA, ByteArray.size_append, wordA_size]
 rfl
theorem adr13 (k n : ByteArray) (l : List Int) (m : Nat) : (addrA k n l m).extract 0 13 = wordA (addrX k n l m).toNat := by
 unfold addrA
 rw [ByteArray.append_assoc]
 exact ex_head _ _ 13 (wordA_size _)
theorem adr14 (k n : ByteArray) (l : List Int) (m : Nat) : (addrA k n l m).extract 14 (addrA k n l m).size = n := by
 unfold addrA
 exact ex_tail _ _ 14 (by rw [ByteArray.size_append, wordA_size]; rfl)
theorem adr_dash (k n : ByteArray) (l : List Int) (m : Nat) : (addrA k n l m).data.toList[13]?.getD 0 = 45 := by
 unfold addrA
 have hw : (wordA (addrX k n l m).toNat).data.toList.length = 13 := by have := wordA_size (addrX k n l m).toNat; simpa using this
 simp only [ByteArray.data_append, Array.toList_append]
 rw [List.append_assoc, List.getElem?_append_right (by omega), hw]
 rfl
theorem name_pos {n : ByteArray} (h : nm.nameB n = true) : 1 ≤ n.size := by
 simp [nm.nameB] at h
 omega
theorem adr_ok (k n : ByteArray) (l : List Int) (m : Nat) (hn : nm.nameB n = true) : aokB (addrA k n l m) = true := by
 have hp := name_pos hn
 have hx := addrX_wf k n l m
 have h1 := (rw_word (addrX k n l m).toNat (by omega)).2
 unfold aokB
 rw [adr_dash, adr13, adr14, h1, hn, adr_size]
 simp
 omega
end Go.Proofs.YtcpmgellfaeejaaGreatDoor.wd

namespace Go.Proofs.YtcpmgellfaeejaaGreatDoor.dr
open Go.ChangeShapes Go.WideShapes Go.ChangeAt Go.RowKit Go.Deep
set_option linter.unusedVariables false
set_option linter.unusedSimpArgs false
theorem d10path_any {w : World} {c : Nat} {a : Option Addr} {n cap : Nat} (hc : Can w c a n cap) (hcw : c < w.heap.size) :
  Calls Tryz.prog 127 #[.pointer (some ⟨c, 0, none⟩)] w fun e w' => ∃ s : ByteArray, e = .returned (.string s) ∧ s.size ≤ 64 ∧ Draws w w' c a n cap := by
 go_enter Tryz.func127, Tryz.ntmps127
 go_wp2_with (go_at_call 24; refine (below_can (hc.draws (hc.refl.alloc hc hcw _)) 10 (by decide) (by decide)).mono ?_; rintro e w1 ⟨x, rfl, hx, d1⟩; have D1 := (hc.refl.alloc hc hcw _).trans d1; obtain ⟨y, hy, hcy⟩ := (tab_new w _ 10 rfl (by kernel_rfl)).draws d1 (by omega) x hx; clear d1; have hx' : (x : Int) < 10 := (by omega))
 go_ret
 exact ⟨y, rfl, hy, D1⟩
def Adr : Prop := ∀ {w : World} {c : Nat} {a : Option Addr} {n cap : Nat}, Can w c a n cap → c < w.heap.size →
  Calls Tryz.prog 151 #[.pointer (some ⟨c, 0, none⟩)] w fun e w' => ∃ s : ByteArray, e = .returned (.string s) ∧ s.size ≤ 100 ∧ Draws w w' c a n cap
theorem zeros_own {w : World} {N : Nat} (hN : N ≤ maxLen) : (w.alloc (.cells (madeCells #[Value.int .u8 0] N) 5)).ownsRow 0 5 1 (.slice (some ⟨w.heap.size, 0, none⟩) N N) N (byteCells (List.replicate N 0)) := by
 have hr : (w.alloc (.cells (madeCells #[.int .u8 0] N) 5)).rowIs w.heap.size 5 N (fun _ => Value.int .u8 0) := by simpa using World.rowIs_made w (.int .u8 0) N 5
 obtain ⟨c, hb, hc, hi⟩ := hr
 refine ⟨by simp [byteCells], .inr ⟨w.heap.size, N, c, rfl, Nat.zero_le _, hb, Nat.le_refl _, hN, by simpa using hc, ?_⟩⟩
 rw [Nat.mul_one, ← hc, ← Array.length_toList, List.take_length]
 apply List.ext_getElem?
 intro i
 rcases Nat.lt_or_ge i N with h | h
 ·rw [Array.getElem?_toList, hi i h]
  simp [byteCells, hc, h]
 ·rw [Array.getElem?_toList, Array.getElem?_eq_none (by omega)]
  simp [byteCells, hc]
  omega
theorem madeN (N : Nat) (hN : N ≤ 100000) (w : World) (z : Int) (hz : z = (N : Int)) : (Instr.makeSlice 22 (.int .i64 z) (.int .i64 z)).run Tryz.prog w = .ok (.slice (some ⟨w.heap.size, 0, none⟩) N N) (w.alloc (.cells (madeCells #[Value.int .u8 0] N) 5)) := by
 subst hz
 exact run_make_row' (P := Tryz.prog) 22 5 (.int .u8 0) 1 Tryz.underlying22 info5 rfl .i64 .i64 N (by omega) (by omega) w
set_option maxRecDepth 100000 in
set_option maxHeartbeats 4000000 in
theorem d10data_any (hA : Adr) {w : World} {c : Nat} {a : Option Addr} {n cap : Nat} (hc : Can w c a n cap) (hcw : c < w.heap.size) :
  Calls Tryz.prog 128 #[.pointer (some ⟨c, 0, none⟩)] w fun e w' => ∃ s : ByteArray, e = .returned (.string s) ∧ s.size ≤ 20001 ∧ Draws w w' c a n cap := by
 have HA : Hid (∀ W : World, Can W c a n cap → c < W.heap.size → Calls Tryz.prog 151 #[.pointer (some ⟨c, 0, none⟩)] W fun e w' => ∃ s : ByteArray, e = .returned (.string s) ∧ s.size ≤ 100 ∧ Draws W w' c a n cap) := fun W h1 h2 => hA h1 h2
 clear hA
 go_enter Tryz.func128, Tryz.ntmps128
 go_wp2_with (first
  | (go_at_call 24; refine (below_can hc 6 (by decide) (by decide)).mono ?_; rintro e w1 ⟨x, rfl, hx, d1⟩; have hcw1 : c < w1.heap.size := Nat.lt_of_lt_of_le hcw d1.grown.size; have hc1 := hc.draws d1)
  | (go_at_call 150; refine (some_can hc1 hcw1 x (by omega)).mono ?_; rintro e w2 ⟨v, l, rfl, hown, d2⟩; have D2 := d1.trans d2; have hcw2 : c < w2.heap.size := Nat.lt_of_lt_of_le hcw1 d2.grown.size; have hc2 := hc1.draws d2; have hconv := own_string (P := Tryz.prog) Tryz.underlying22 Tryz.underlying5 Tryz.underlying9 hown; refine Hid.out ?_))
 refine Lib.hid ?_
 have hll : l.length = x := by have := hown.1; simp [byteCells] at this; omega
 obtain ⟨S, hS⟩ : ∃ S : ByteArray, S = ⟨l.toArray⟩ := ⟨_, rfl⟩
 have hSs : S.size ≤ 6 := by rw [hS]; simp [ByteArray.size]; omega
 rw [← hS] at hconv
 have HD2 : Hid (Draws w w2 c a n cap) := D2
 clear hown d1 d2 D2 hll hS hcw1 hc1
 go_wp2_with (go_at_call 27; refine (once_can hc2 3 (by decide) (by decide)).mono ?_; rintro e w3 ⟨b3, rfl, d3⟩; have hcw3 : c < w3.heap.size := Nat.lt_of_lt_of_le hcw2 d3.grown.size; have hc3 := hc2.draws d3; have HD3 : Hid (Draws w w3 c a n cap) := HD2.out.trans d3; clear d3 hconv; cases b3)
 ·go_wp2_with (go_at_call 27; refine (once_can hc3 100 (by decide) (by decide)).mono ?_; rintro e w4 ⟨b4, rfl, d4⟩; have hcw4 : c < w4.heap.size := Nat.lt_of_lt_of_le hcw3 d4.grown.size; have hc4 := hc3.draws d4; have HD4 : Hid (Draws w w4 c a n cap) := HD3.out.trans d4; clear d4; cases b4)
  ·go_ret
   exact ⟨_, rfl, by omega, HD4.out⟩
  ·go_wp2_with (go_at_call 24; refine (below_can hc4 2 (by decide) (by decide)).mono ?_; rintro e w5 ⟨y, rfl, hy, d5⟩; have hcw5 : c < w5.heap.size := Nat.lt_of_lt_of_le hcw4 d5.grown.size; have hc5 := hc4.draws d5; have HD5 : Hid (Draws w w5 c a n cap) := HD4.out.trans d5; clear d5; have hmk := fun W => madeN (20000 + y) (by omega) W (20000 + (y : Int)) (by omega); have hcv := own_string (P := Tryz.prog) Tryz.underlying22 Tryz.underlying5 Tryz.underlying9 (zeros_own (w := w5) (N := 20000 + y) (by unfold maxLen; omega)))
   go_ret
   exact ⟨_, rfl, by simp [ByteArray.size]; omega, HD5.out.alloc hc hcw _⟩
 ·go_wp2_with (go_at_call 151; refine (HA.out _ hc3 hcw3).mono ?_; rintro e w4 ⟨T, rfl, hT, d4⟩; have hcw4 : c < w4.heap.size := Nat.lt_of_lt_of_le hcw3 d4.grown.size; have hc4 := hc3.draws d4; have HD4 : Hid (Draws w w4 c a n cap) := HD3.out.trans d4; clear d4; have hk1 : ¬ 9223372036854775807 < S.size + T.size := (by omega); have hk2 : ¬ 9223372036854775807 < S.size + T.size + 2 := (by omega); have hk3 : (S ++ T : ByteArray).size = S.size + T.size := ByteArray.size_append; refine Hid.out ?_)
  refine Lib.hid ?_
  go_wp2_with (go_at_call 27; refine (once_can hc4 100 (by decide) (by decide)).mono ?_; rintro e w5 ⟨b5, rfl, d5⟩; have hcw5 : c < w5.heap.size := Nat.lt_of_lt_of_le hcw4 d5.grown.size; have hc5 := hc4.draws d5; have HD5 : Hid (Draws w w5 c a n cap) := HD4.out.trans d5; clear d5; cases b5)
  ·go_ret
   exact ⟨_, rfl, by rw [ByteArray.size_append, ByteArray.size_append]; show _ + 2 ≤ _; omega, HD5.out⟩
  ·go_wp2_with (go_at_call 24; refine (below_can hc5 2 (by decide) (by decide)).mono ?_; rintro e w6 ⟨y, rfl, hy, d6⟩; have hcw6 : c < w6.heap.size := Nat.lt_of_lt_of_le hcw5 d6.grown.size; have hc6 := hc5.draws d6; have HD6 : Hid (Draws w w6 c a n cap) := HD5.out.trans d6; clear d6; have hmk := fun W => madeN (20000 + y) (by omega) W (20000 + (y : Int)) (by omega); have hcv := own_string (P := Tryz.prog) Tryz.underlying22 Tryz.underlying5 Tryz.underlying9 (zeros_own (w := w6) (N := 20000 + y) (by unfold maxLen; omega)))
   go_ret
   exact ⟨_, rfl, by simp [ByteArray.size]; omega, HD6.out.alloc hc hcw _⟩
end Go.Proofs.YtcpmgellfaeejaaGreatDoor.dr


namespace Go.Proofs.YtcpmgellfaeejaaGreatDoor.dr
open Go.ChangeShapes Go.WideShapes Go.ChangeAt Go.RowKit Go.Deep
set_option linter.unusedVariables false
set_option linter.unusedSimpArgs false
def AdS (s : ByteArray) : Prop := ∃ k n l m, nm.nameB n = true ∧ n.size = 1 ∧ s = wd.addrA k n l m
theorem AdS.size {s : ByteArray} (h : AdS s) : s.size = 15 := by
 obtain ⟨k, n, l, m, h1, h2, rfl⟩ := h
 rw [wd.adr_size, h2]
structure Ky (c : Nat) (W : World) (k : Nat) (o : Obj) : Prop where
 at' : W.heap[k]? = some o
 gt : c < k
theorem Ky.lt {c : Nat} {W : World} {k : Nat} {o : Obj} (h : Ky c W k o) : k < W.heap.size := (Array.getElem?_eq_some_iff.1 h.at').1
theorem Ky.draws {c : Nat} {W W' : World} {k : Nat} {o : Obj} {a : Option Addr} {n cap : Nat} (h : Ky c W k o) (d : Draws W W' c a n cap) : Ky c W' k o :=
 ⟨(d.grown.block k h.lt (by have := h.gt; simp; omega)).trans h.at', h.gt⟩
theorem Ky.below {c : Nat} {W W' : World} {k : Nat} {o : Obj} (h : Ky c W k o) (d : Below W.heap.size W W') : Ky c W' k o := ⟨(d.block k h.lt).trans h.at', h.gt⟩
theorem Ky.alloc {c : Nat} {W : World} {k : Nat} {o : Obj} (h : Ky c W k o) (o' : Obj) : Ky c (W.alloc o') k o := h.below ((Below.refl _ _).alloc (Nat.le_refl _) _)
theorem ky_new {w W : World} {c : Nat} {a : Option Addr} {n cap : Nat} (hcw : c < w.heap.size) (d : Draws w W c a n cap) (o : Obj) : Ky c (W.alloc o) W.heap.size o := ⟨World.alloc_heap_new W o, Nat.lt_of_lt_of_le hcw d.grown.size⟩
abbrev tabA : Obj := .cells #[.string ⟨#[97]⟩, .string ⟨#[98]⟩, .string ⟨#[99]⟩] 9
theorem tabA_at {c : Nat} {W : World} {k x : Nat} (h : Ky c W k tabA) (hx : x < 3) : ∃ y : ByteArray, (nm.nameB y = true ∧ y.size = 1) ∧ W.cell? ⟨k, x, none⟩ = some (.string y) := by
 have e := h.at'
 rcases (show x = 0 ∨ x = 1 ∨ x = 2 by omega) with rfl | rfl | rfl
 ·exact ⟨⟨#[97]⟩, ⟨by decide, rfl⟩, by simp [World.cell?, e]⟩
 ·exact ⟨⟨#[98]⟩, ⟨by decide, rfl⟩, by simp [World.cell?, e]⟩
 ·exact ⟨⟨#[99]⟩, ⟨by decide, rfl⟩, by simp [World.cell?, e]⟩
set_option maxRecDepth 100000 in
set_option maxHeartbeats 4000000 in
theorem d10addr_any {w : World} {c : Nat} {a : Option Addr} {n cap : Nat} (hc : Can w c a n cap) (hcw : c < w.heap.size) :
  Calls Tryz.prog 151 #[.pointer (some ⟨c, 0, none⟩)] w fun e w' => ∃ s : ByteArray, e = .returned (.string s) ∧ AdS s ∧ Draws w w' c a n cap := by
 have HA : Hid (∀ (W : World) (bb : Nat) (v : Int) (y : ByteArray), y.size = 1 → Ky c W bb (.cells #[.int .u8 v] 5) → Calls Tryz.prog 55 #[.string ⟨#[111, 117, 116]⟩, .string y, .slice (some ⟨bb, 0, none⟩) 1 1] W fun e w' => e = .returned (.string (wd.addrA ⟨#[111, 117, 116]⟩ y [v] 1)) ∧ Below W.heap.size W w') := fun W bb v y hy hk =>
  wd.laddr_any ⟨#[111, 117, 116]⟩ y (by decide) (by omega) bb 1 1 [v] (by omega) W hk.lt (fun i hi => by
   obtain rfl : i = 0 := by omega
   simp [World.cell?, hk.at'])
 have D0 : Hid (Draws w w.drew c a n cap) := hc.refl.below hc hcw (Below.refl _ _).drew
 go_enter Tryz.func151, Tryz.ntmps151
 go_wp2_with fail
 refine wq 11 (S := fun _ => True) (by kernel_rfl) trivial fun hHeld => ?_
 generalize w.drew = w0 at D0 ⊢
 refine uq (i := 1) rfl ?_
 try simp only [aP]
 refine uq (i := 5) rfl ?_
 try simp only [aP]
 refine wpAnyH_ready (rs := [0, 2]) (by kernel_rfl) (by simp) ?_
 refine cq rfl (fun K hK => ?_) (cq rfl (fun K hK => ?_) AllReadyH.nil)
 ·have D1 := Lib.hid (D0.out.alloc hc hcw (.cells #[.string ⟨#[97]⟩, .string ⟨#[98]⟩, .string ⟨#[99]⟩] 9))
  have T1 := Lib.hid (ky_new hcw D0.out (.cells #[.string ⟨#[97]⟩, .string ⟨#[98]⟩, .string ⟨#[99]⟩] 9))
  go_simp
  try go_wp2_with fail
  refine hK.out _ _ trivial (fun hHeld => ?_)
  clear hK K
  try simp only [aP]
  generalize (w0).alloc (Obj.cells #[Value.string ⟨#[97]⟩, Value.string ⟨#[98]⟩, Value.string ⟨#[99]⟩] 9) = u1 at D1 T1 ⊢
  refine rq 2 rfl fun K hK => ?_
  go_simp
  (go_at_call 24; refine (below_can (hc.draws D1.out) 3 (by decide) (by decide)).mono ?_; rintro e w2 ⟨x, rfl, hx, d2⟩)
  try go_wp2_with fail
  have D2 := Lib.hid (D1.out.trans d2)
  have T2 := Lib.hid (T1.out.draws d2)
  have hx1 : (x : Int) < 3 := by omega
  refine hK.out _ _ trivial (fun hHeld => ?_)
  clear hK K d2
  try simp only [aP]
  refine uq (i := 3) rfl ?_
  try simp only [aP]
  refine wpAnyH_ready (rs := [4, 6]) (by kernel_rfl) (by simp) ?_
  refine cq rfl (fun K hK => ?_) (cq rfl (fun K hK => ?_) AllReadyH.nil)
  ·obtain ⟨y, hy, hyc⟩ := tabA_at T2.out hx
   go_simp
   try go_wp2_with fail
   refine hK.out _ _ trivial (fun hHeld => ?_)
   clear hK K hyc
   try simp only [aP]
   refine rq 6 rfl fun K hK => ?_
   go_simp
   (go_at_call 24; refine (below_can (hc.draws D2.out) 4 (by decide) (by decide)).mono ?_; rintro e w4 ⟨z, rfl, hz, d4⟩)
   try go_wp2_with fail
   have D4 := Lib.hid (D2.out.trans d4)
   have T4 := Lib.hid (T2.out.draws d4)
   have hz1 : (z : Int) < 4 := by omega
   have hz8 : IntKind.u8.wrap (z : Int) = (z : Int) := by
    rcases (show z = 0 ∨ z = 1 ∨ z = 2 ∨ z = 3 by omega) with rfl | rfl | rfl | rfl <;> rfl
   refine hK.out _ _ trivial (fun hHeld => ?_)
   clear hK K d4
   try simp only [aP]
   refine uq (i := 7) rfl ?_
   try simp only [aP]
   refine rq 8 rfl fun K hK => ?_
   have D5 := Lib.hid (D4.out.alloc hc hcw (.cells #[.int .u8 (z : Int)] 5))
   have B5 := Lib.hid (ky_new hcw D4.out (.cells #[.int .u8 (z : Int)] 5))
   have T5 := Lib.hid (T4.out.alloc (.cells #[.int .u8 (z : Int)] 5))
   go_simp
   try go_wp2_with fail
   refine hK.out _ _ trivial (fun hHeld => ?_)
   clear hK K
   try simp only [aP]
   generalize (w4).alloc (Obj.cells #[Value.int .u8 (z : Int)] 5) = u5 at D5 B5 T5 ⊢
   refine rq 9 rfl fun K hK => ?_
   go_simp
   (go_at_call 55; refine (HA.out _ _ _ y hy.2 B5.out).mono ?_; rintro e w6 ⟨rfl, b6⟩)
   try go_wp2_with fail
   have D6 := Lib.hid (D5.out.below hc hcw b6)
   refine hK.out _ _ trivial (fun hHeld => ?_)
   clear hK K b6
   try simp only [aP]
   refine uq (i := 10) rfl ?_
   try simp only [aP]
   refine dq ?_
   go_wp2
   go_ret
   exact ⟨_, rfl, ⟨_, y, _, _, hy.1, hy.2, rfl⟩, D6.out⟩
  ·go_simp
   (go_at_call 24; refine (below_can (hc.draws D2.out) 4 (by decide) (by decide)).mono ?_; rintro e w7 ⟨z, rfl, hz, d7⟩)
   try go_wp2_with fail
   have D7 := Lib.hid (D2.out.trans d7)
   have T7 := Lib.hid (T2.out.draws d7)
   have hz1 : (z : Int) < 4 := by omega
   have hz8 : IntKind.u8.wrap (z : Int) = (z : Int) := by
    rcases (show z = 0 ∨ z = 1 ∨ z = 2 ∨ z = 3 by omega) with rfl | rfl | rfl | rfl <;> rfl
   refine hK.out _ _ trivial (fun hHeld => ?_)
   clear hK K d7
   try simp only [aP]
   refine uq (i := 7) rfl ?_
   try simp only [aP]
   refine wpAnyH_ready (rs := [4, 8]) (by kernel_rfl) (by simp) ?_
   refine cq rfl (fun K hK => ?_) (cq rfl (fun K hK => ?_) AllReadyH.nil)
   ·obtain ⟨y, hy, hyc⟩ := tabA_at T7.out hx
    go_simp
    try go_wp2_with fail
    refine hK.out _ _ trivial (fun hHeld => ?_)
    clear hK K hyc
    try simp only [aP]
    refine rq 8 rfl fun K hK => ?_
    have D9 := Lib.hid (D7.out.alloc hc hcw (.cells #[.int .u8 (z : Int)] 5))
    have B9 := Lib.hid (ky_new hcw D7.out (.cells #[.int .u8 (z : Int)] 5))
    have T9 := Lib.hid (T7.out.alloc (.cells #[.int .u8 (z : Int)] 5))
    go_simp
    try go_wp2_with fail
    refine hK.out _ _ trivial (fun hHeld => ?_)
    clear hK K
    try simp only [aP]
    generalize (w7).alloc (Obj.cells #[Value.int .u8 (z : Int)] 5) = u9 at D9 B9 T9 ⊢
    refine rq 9 rfl fun K hK => ?_
    go_simp
    (go_at_call 55; refine (HA.out _ _ _ y hy.2 B9.out).mono ?_; rintro e w10 ⟨rfl, b10⟩)
    try go_wp2_with fail
    have D10 := Lib.hid (D9.out.below hc hcw b10)
    refine hK.out _ _ trivial (fun hHeld => ?_)
    clear hK K b10
    try simp only [aP]
    refine uq (i := 10) rfl ?_
    try simp only [aP]
    refine dq ?_
    go_wp2
    go_ret
    exact ⟨_, rfl, ⟨_, y, _, _, hy.1, hy.2, rfl⟩, D10.out⟩
   ·have D11 := Lib.hid (D7.out.alloc hc hcw (.cells #[.int .u8 (z : Int)] 5))
    have B11 := Lib.hid (ky_new hcw D7.out (.cells #[.int .u8 (z : Int)] 5))
    have T11 := Lib.hid (T7.out.alloc (.cells #[.int .u8 (z : Int)] 5))
    go_simp
    try go_wp2_with fail
    refine hK.out _ _ trivial (fun hHeld => ?_)
    clear hK K
    try simp only [aP]
    generalize (w7).alloc (Obj.cells #[Value.int .u8 (z : Int)] 5) = u11 at D11 B11 T11 ⊢
    refine rq 4 rfl fun K hK => ?_
    obtain ⟨y, hy, hyc⟩ := tabA_at T11.out hx
    go_simp
    try go_wp2_with fail
    refine hK.out _ _ trivial (fun hHeld => ?_)
    clear hK K hyc
    try simp only [aP]
    refine rq 9 rfl fun K hK => ?_
    go_simp
    (go_at_call 55; refine (HA.out _ _ _ y hy.2 B11.out).mono ?_; rintro e w13 ⟨rfl, b13⟩)
    try go_wp2_with fail
    have D13 := Lib.hid (D11.out.below hc hcw b13)
    refine hK.out _ _ trivial (fun hHeld => ?_)
    clear hK K b13
    try simp only [aP]
    refine uq (i := 10) rfl ?_
    try simp only [aP]
    refine dq ?_
    go_wp2
    go_ret
    exact ⟨_, rfl, ⟨_, y, _, _, hy.1, hy.2, rfl⟩, D13.out⟩
 ·go_simp
  (go_at_call 24; refine (below_can (hc.draws D0.out) 3 (by decide) (by decide)).mono ?_; rintro e w14 ⟨x, rfl, hx, d14⟩)
  try go_wp2_with fail
  have D14 := Lib.hid (D0.out.trans d14)
  have hx1 : (x : Int) < 3 := by omega
  refine hK.out _ _ trivial (fun hHeld => ?_)
  clear hK K d14
  try simp only [aP]
  refine wpAnyH_ready (rs := [0, 6]) (by kernel_rfl) (by simp) ?_
  refine cq rfl (fun K hK => ?_) (cq rfl (fun K hK => ?_) AllReadyH.nil)
  ·have D15 := Lib.hid (D14.out.alloc hc hcw (.cells #[.string ⟨#[97]⟩, .string ⟨#[98]⟩, .string ⟨#[99]⟩] 9))
   have T15 := Lib.hid (ky_new hcw D14.out (.cells #[.string ⟨#[97]⟩, .string ⟨#[98]⟩, .string ⟨#[99]⟩] 9))
   go_simp
   try go_wp2_with fail
   refine hK.out _ _ trivial (fun hHeld => ?_)
   clear hK K
   try simp only [aP]
   generalize (w14).alloc (Obj.cells #[Value.string ⟨#[97]⟩, Value.string ⟨#[98]⟩, Value.string ⟨#[99]⟩] 9) = u15 at D15 T15 ⊢
   refine uq (i := 3) rfl ?_
   try simp only [aP]
   refine wpAnyH_ready (rs := [4, 6]) (by kernel_rfl) (by simp) ?_
   refine cq rfl (fun K hK => ?_) (cq rfl (fun K hK => ?_) AllReadyH.nil)
   ·obtain ⟨y, hy, hyc⟩ := tabA_at T15.out hx
    go_simp
    try go_wp2_with fail
    refine hK.out _ _ trivial (fun hHeld => ?_)
    clear hK K hyc
    try simp only [aP]
    refine rq 6 rfl fun K hK => ?_
    go_simp
    (go_at_call 24; refine (below_can (hc.draws D15.out) 4 (by decide) (by decide)).mono ?_; rintro e w17 ⟨z, rfl, hz, d17⟩)
    try go_wp2_with fail
    have D17 := Lib.hid (D15.out.trans d17)
    have T17 := Lib.hid (T15.out.draws d17)
    have hz1 : (z : Int) < 4 := by omega
    have hz8 : IntKind.u8.wrap (z : Int) = (z : Int) := by
     rcases (show z = 0 ∨ z = 1 ∨ z = 2 ∨ z = 3 by omega) with rfl | rfl | rfl | rfl <;> rfl
    refine hK.out _ _ trivial (fun hHeld => ?_)
    clear hK K d17
    try simp only [aP]
    refine uq (i := 7) rfl ?_
    try simp only [aP]
    refine rq 8 rfl fun K hK => ?_
    have D18 := Lib.hid (D17.out.alloc hc hcw (.cells #[.int .u8 (z : Int)] 5))
    have B18 := Lib.hid (ky_new hcw D17.out (.cells #[.int .u8 (z : Int)] 5))
    have T18 := Lib.hid (T17.out.alloc (.cells #[.int .u8 (z : Int)] 5))
    go_simp
    try go_wp2_with fail
    refine hK.out _ _ trivial (fun hHeld => ?_)
    clear hK K
    try simp only [aP]
    generalize (w17).alloc (Obj.cells #[Value.int .u8 (z : Int)] 5) = u18 at D18 B18 T18 ⊢
    refine rq 9 rfl fun K hK => ?_
    go_simp
    (go_at_call 55; refine (HA.out _ _ _ y hy.2 B18.out).mono ?_; rintro e w19 ⟨rfl, b19⟩)
    try go_wp2_with fail
    have D19 := Lib.hid (D18.out.below hc hcw b19)
    refine hK.out _ _ trivial (fun hHeld => ?_)
    clear hK K b19
    try simp only [aP]
    refine uq (i := 10) rfl ?_
    try simp only [aP]
    refine dq ?_
    go_wp2
    go_ret
    exact ⟨_, rfl, ⟨_, y, _, _, hy.1, hy.2, rfl⟩, D19.out⟩
   ·go_simp
    (go_at_call 24; refine (below_can (hc.draws D15.out) 4 (by decide) (by decide)).mono ?_; rintro e w20 ⟨z, rfl, hz, d20⟩)
    try go_wp2_with fail
    have D20 := Lib.hid (D15.out.trans d20)
    have T20 := Lib.hid (T15.out.draws d20)
    have hz1 : (z : Int) < 4 := by omega
    have hz8 : IntKind.u8.wrap (z : Int) = (z : Int) := by
     rcases (show z = 0 ∨ z = 1 ∨ z = 2 ∨ z = 3 by omega) with rfl | rfl | rfl | rfl <;> rfl
    refine hK.out _ _ trivial (fun hHeld => ?_)
    clear hK K d20
    try simp only [aP]
    refine uq (i := 7) rfl ?_
    try simp only [aP]
    refine wpAnyH_ready (rs := [4, 8]) (by kernel_rfl) (by simp) ?_
    refine cq rfl (fun K hK => ?_) (cq rfl (fun K hK => ?_) AllReadyH.nil)
    ·obtain ⟨y, hy, hyc⟩ := tabA_at T20.out hx
     go_simp
     try go_wp2_with fail
     refine hK.out _ _ trivial (fun hHeld => ?_)
     clear hK K hyc
     try simp only [aP]
     refine rq 8 rfl fun K hK => ?_
     have D22 := Lib.hid (D20.out.alloc hc hcw (.cells #[.int .u8 (z : Int)] 5))
     have B22 := Lib.hid (ky_new hcw D20.out (.cells #[.int .u8 (z : Int)] 5))
     have T22 := Lib.hid (T20.out.alloc (.cells #[.int .u8 (z : Int)] 5))
     go_simp
     try go_wp2_with fail
     refine hK.out _ _ trivial (fun hHeld => ?_)
     clear hK K
     try simp only [aP]
     generalize (w20).alloc (Obj.cells #[Value.int .u8 (z : Int)] 5) = u22 at D22 B22 T22 ⊢
     refine rq 9 rfl fun K hK => ?_
     go_simp
     (go_at_call 55; refine (HA.out _ _ _ y hy.2 B22.out).mono ?_; rintro e w23 ⟨rfl, b23⟩)
     try go_wp2_with fail
     have D23 := Lib.hid (D22.out.below hc hcw b23)
     refine hK.out _ _ trivial (fun hHeld => ?_)
     clear hK K b23
     try simp only [aP]
     refine uq (i := 10) rfl ?_
     try simp only [aP]
     refine dq ?_
     go_wp2
     go_ret
     exact ⟨_, rfl, ⟨_, y, _, _, hy.1, hy.2, rfl⟩, D23.out⟩
    ·have D24 := Lib.hid (D20.out.alloc hc hcw (.cells #[.int .u8 (z : Int)] 5))
     have B24 := Lib.hid (ky_new hcw D20.out (.cells #[.int .u8 (z : Int)] 5))
     have T24 := Lib.hid (T20.out.alloc (.cells #[.int .u8 (z : Int)] 5))
     go_simp
     try go_wp2_with fail
     refine hK.out _ _ trivial (fun hHeld => ?_)
     clear hK K
     try simp only [aP]
     generalize (w20).alloc (Obj.cells #[Value.int .u8 (z : Int)] 5) = u24 at D24 B24 T24 ⊢
     refine rq 4 rfl fun K hK => ?_
     obtain ⟨y, hy, hyc⟩ := tabA_at T24.out hx
     go_simp
     try go_wp2_with fail
     refine hK.out _ _ trivial (fun hHeld => ?_)
     clear hK K hyc
     try simp only [aP]
     refine rq 9 rfl fun K hK => ?_
     go_simp
     (go_at_call 55; refine (HA.out _ _ _ y hy.2 B24.out).mono ?_; rintro e w26 ⟨rfl, b26⟩)
     try go_wp2_with fail
     have D26 := Lib.hid (D24.out.below hc hcw b26)
     refine hK.out _ _ trivial (fun hHeld => ?_)
     clear hK K b26
     try simp only [aP]
     refine uq (i := 10) rfl ?_
     try simp only [aP]
     refine dq ?_
     go_wp2
     go_ret
     exact ⟨_, rfl, ⟨_, y, _, _, hy.1, hy.2, rfl⟩, D26.out⟩
  ·go_simp
   (go_at_call 24; refine (below_can (hc.draws D14.out) 4 (by decide) (by decide)).mono ?_; rintro e w27 ⟨z, rfl, hz, d27⟩)
   try go_wp2_with fail
   have D27 := Lib.hid (D14.out.trans d27)
   have hz1 : (z : Int) < 4 := by omega
   have hz8 : IntKind.u8.wrap (z : Int) = (z : Int) := by
    rcases (show z = 0 ∨ z = 1 ∨ z = 2 ∨ z = 3 by omega) with rfl | rfl | rfl | rfl <;> rfl
   refine hK.out _ _ trivial (fun hHeld => ?_)
   clear hK K d27
   try simp only [aP]
   refine uq (i := 7) rfl ?_
   try simp only [aP]
   refine wpAnyH_ready (rs := [0, 8]) (by kernel_rfl) (by simp) ?_
   refine cq rfl (fun K hK => ?_) (cq rfl (fun K hK => ?_) AllReadyH.nil)
   ·have D28 := Lib.hid (D27.out.alloc hc hcw (.cells #[.string ⟨#[97]⟩, .string ⟨#[98]⟩, .string ⟨#[99]⟩] 9))
    have T28 := Lib.hid (ky_new hcw D27.out (.cells #[.string ⟨#[97]⟩, .string ⟨#[98]⟩, .string ⟨#[99]⟩] 9))
    go_simp
    try go_wp2_with fail
    refine hK.out _ _ trivial (fun hHeld => ?_)
    clear hK K
    try simp only [aP]
    generalize (w27).alloc (Obj.cells #[Value.string ⟨#[97]⟩, Value.string ⟨#[98]⟩, Value.string ⟨#[99]⟩] 9) = u28 at D28 T28 ⊢
    refine uq (i := 3) rfl ?_
    try simp only [aP]
    refine wpAnyH_ready (rs := [4, 8]) (by kernel_rfl) (by simp) ?_
    refine cq rfl (fun K hK => ?_) (cq rfl (fun K hK => ?_) AllReadyH.nil)
    ·obtain ⟨y, hy, hyc⟩ := tabA_at T28.out hx
     go_simp
     try go_wp2_with fail
     refine hK.out _ _ trivial (fun hHeld => ?_)
     clear hK K hyc
     try simp only [aP]
     refine rq 8 rfl fun K hK => ?_
     have D30 := Lib.hid (D28.out.alloc hc hcw (.cells #[.int .u8 (z : Int)] 5))
     have B30 := Lib.hid (ky_new hcw D28.out (.cells #[.int .u8 (z : Int)] 5))
     have T30 := Lib.hid (T28.out.alloc (.cells #[.int .u8 (z : Int)] 5))
     go_simp
     try go_wp2_with fail
     refine hK.out _ _ trivial (fun hHeld => ?_)
     clear hK K
     try simp only [aP]
     generalize (u28).alloc (Obj.cells #[Value.int .u8 (z : Int)] 5) = u30 at D30 B30 T30 ⊢
     refine rq 9 rfl fun K hK => ?_
     go_simp
     (go_at_call 55; refine (HA.out _ _ _ y hy.2 B30.out).mono ?_; rintro e w31 ⟨rfl, b31⟩)
     try go_wp2_with fail
     have D31 := Lib.hid (D30.out.below hc hcw b31)
     refine hK.out _ _ trivial (fun hHeld => ?_)
     clear hK K b31
     try simp only [aP]
     refine uq (i := 10) rfl ?_
     try simp only [aP]
     refine dq ?_
     go_wp2
     go_ret
     exact ⟨_, rfl, ⟨_, y, _, _, hy.1, hy.2, rfl⟩, D31.out⟩
    ·have D32 := Lib.hid (D28.out.alloc hc hcw (.cells #[.int .u8 (z : Int)] 5))
     have B32 := Lib.hid (ky_new hcw D28.out (.cells #[.int .u8 (z : Int)] 5))
     have T32 := Lib.hid (T28.out.alloc (.cells #[.int .u8 (z : Int)] 5))
     go_simp
     try go_wp2_with fail
     refine hK.out _ _ trivial (fun hHeld => ?_)
     clear hK K
     try simp only [aP]
     generalize (u28).alloc (Obj.cells #[Value.int .u8 (z : Int)] 5) = u32 at D32 B32 T32 ⊢
     refine rq 4 rfl fun K hK => ?_
     obtain ⟨y, hy, hyc⟩ := tabA_at T32.out hx
     go_simp
     try go_wp2_with fail
     refine hK.out _ _ trivial (fun hHeld => ?_)
     clear hK K hyc
     try simp only [aP]
     refine rq 9 rfl fun K hK => ?_
     go_simp
     (go_at_call 55; refine (HA.out _ _ _ y hy.2 B32.out).mono ?_; rintro e w34 ⟨rfl, b34⟩)
     try go_wp2_with fail
     have D34 := Lib.hid (D32.out.below hc hcw b34)
     refine hK.out _ _ trivial (fun hHeld => ?_)
     clear hK K b34
     try simp only [aP]
     refine uq (i := 10) rfl ?_
     try simp only [aP]
     refine dq ?_
     go_wp2
     go_ret
     exact ⟨_, rfl, ⟨_, y, _, _, hy.1, hy.2, rfl⟩, D34.out⟩
   ·have D35 := Lib.hid (D27.out.alloc hc hcw (.cells #[.int .u8 (z : Int)] 5))
    have B35 := Lib.hid (ky_new hcw D27.out (.cells #[.int .u8 (z : Int)] 5))
    go_simp
    try go_wp2_with fail
    refine hK.out _ _ trivial (fun hHeld => ?_)
    clear hK K
    try simp only [aP]
    generalize (w27).alloc (Obj.cells #[Value.int .u8 (z : Int)] 5) = u35 at D35 B35 ⊢
    refine rq 0 rfl fun K hK => ?_
    have D36 := Lib.hid (D35.out.alloc hc hcw (.cells #[.string ⟨#[97]⟩, .string ⟨#[98]⟩, .string ⟨#[99]⟩] 9))
    have T36 := Lib.hid (ky_new hcw D35.out (.cells #[.string ⟨#[97]⟩, .string ⟨#[98]⟩, .string ⟨#[99]⟩] 9))
    have B36 := Lib.hid (B35.out.alloc (.cells #[.string ⟨#[97]⟩, .string ⟨#[98]⟩, .string ⟨#[99]⟩] 9))
    go_simp
    try go_wp2_with fail
    refine hK.out _ _ trivial (fun hHeld => ?_)
    clear hK K
    try simp only [aP]
    generalize (u35).alloc (Obj.cells #[Value.string ⟨#[97]⟩, Value.string ⟨#[98]⟩, Value.string ⟨#[99]⟩] 9) = u36 at D36 T36 B36 ⊢
    refine uq (i := 3) rfl ?_
    try simp only [aP]
    refine rq 4 rfl fun K hK => ?_
    obtain ⟨y, hy, hyc⟩ := tabA_at T36.out hx
    go_simp
    try go_wp2_with fail
    refine hK.out _ _ trivial (fun hHeld => ?_)
    clear hK K hyc
    try simp only [aP]
    refine rq 9 rfl fun K hK => ?_
    go_simp
    (go_at_call 55; refine (HA.out _ _ _ y hy.2 B36.out).mono ?_; rintro e w38 ⟨rfl, b38⟩)
    try go_wp2_with fail
    have D38 := Lib.hid (D36.out.below hc hcw b38)
    refine hK.out _ _ trivial (fun hHeld => ?_)
    clear hK K b38
    try simp only [aP]
    refine uq (i := 10) rfl ?_
    try simp only [aP]
    refine dq ?_
    go_wp2
    go_ret
    exact ⟨_, rfl, ⟨_, y, _, _, hy.1, hy.2, rfl⟩, D38.out⟩
theorem adr_any : Adr := fun {w c a n cap} hc hcw => (d10addr_any hc hcw).mono fun e w' ⟨s, he, hs, hd⟩ => ⟨s, he, by rw [hs.size]; omega, hd⟩
end Go.Proofs.YtcpmgellfaeejaaGreatDoor.dr
