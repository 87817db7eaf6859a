import Derived.Test.YtpfnnjfapcnbnaaGreatDoorRows
import Derived.Test.YtpfnnjfapcnbnaaGreatDoorLp
import Derived.Deep.QuietTactic
import Derived.BigQuiet
import Derived.Deep.RegionHeld3
import Derived.WalkLawsBesides
import Derived.Lib.ItoaLen
import Derived.Maps.AppendAt
set_option linter.unusedVariables false
set_option linter.unusedSimpArgs false
set_option maxRecDepth 100000
set_option maxHeartbeats 16000000
namespace Go.Proofs.YtpfnnjfapcnbnaaGreatDoor.st
open Go.ChangeShapes Go.WideShapes Go.ChangeAt Go.RowKit Go.Deep
theorem info9 : (Tryz.prog.info? 9).map (fun i => (i.zero, i.size, i.bytes)) = some (some (.string ⟨#[]⟩), 1, 16) := by kernel_rfl
end Go.Proofs.YtpfnnjfapcnbnaaGreatDoor.st
namespace Go.Proofs.YtpfnnjfapcnbnaaGreatDoor.sr
open Go.ChangeShapes Go.WideShapes Go.ChangeAt Go.RowKit Go.Deep
def dgt (k : Nat) : UInt8 := UInt8.ofNat (48 + k % 10)
theorem dgt_nat (k : Nat) : ((dgt k).toNat : Int) = 48 + ((k % 10 : Nat) : Int) := by
 have : (48 + k % 10) % 256 = 48 + k % 10 := Nat.mod_eq_of_lt (by omega)
 simp [dgt, UInt8.toNat_ofNat', this]
theorem dgt_conv (k : Nat) (wr : World) (z : Int) (hz : z = 48 + ((k % 10 : Nat) : Int)) : (convert 169 9 (.slice (some ⟨wr.heap.size, 0, none⟩) 1 1)).run Tryz.prog (wr.alloc (.cells #[.int .u8 z] 5)) = .ok (.string ⟨[dgt k].toArray⟩) (wr.alloc (.cells #[.int .u8 z] 5)) := by
 subst hz
 refine own_string (base := wr.heap.size) (n := 1) Tryz.underlying169 Tryz.underlying5 Tryz.underlying9 ?_
 rw [byteCells_one, dgt_nat]
 exact ⟨rfl, .inr ⟨wr.heap.size, 1, #[.int .u8 (48 + ((k % 10 : Nat) : Int))], rfl, Nat.le_refl _, heap_alloc_new wr _, by decide, by decide, rfl, rfl⟩⟩
theorem dec_step {k : Nat} (h : 9 < k) : Lib.decDigits k = Lib.decDigits (k / 10) ++ [dgt k] := by
 rw [Lib.decDigits, dif_neg (by omega)]; rfl
theorem dec_last {k : Nat} (h : ¬ 9 < k) : Lib.decDigits k = [dgt k] := by
 rw [Lib.decDigits, dif_pos (by omega), dgt, Nat.mod_eq_of_lt (by omega)]
def dig (k : Nat) : List UInt8 := if k = 0 then [] else Lib.decDigits k
theorem dig_step {k : Nat} (h : 0 < k) : dig k = dig (k / 10) ++ [dgt k] := by
 unfold dig
 rw [if_neg (by omega)]
 by_cases h9 : 9 < k
 ·rw [if_neg (by omega), dec_step h9]
 ·rw [if_pos (by omega), dec_last h9]; rfl
def mark (k : Nat) : ByteArray := ⟨(109 :: Lib.decDigits k).toArray⟩
theorem mark_any (k0 : Nat) (h0 : 0 < k0) (h1 : k0 ≤ 9223372036854775807) (w : World) :
  Calls Tryz.prog 62 #[.int .i64 (k0 : Int)] w fun e w' => e = .returned (.string (mark k0)) ∧ Below w.heap.size w w' := by
 obtain ⟨G, hG⟩ : ∃ G, Lib.decDigits k0 = G := ⟨_, rfl⟩
 have hgl : G.length ≤ 21 := by
  have h := Lib.itoa_length_le (k0 : Int) (by omega) (by omega)
  have hN : Lib.itoa (k0 : Int) = Lib.decDigits k0 := by simp [Lib.itoa]
  rw [hN, hG] at h
  exact h
 have hd0 : dig k0 = G := by rw [dig, if_neg (by omega), hG]
 have HGG : Hid (mark k0 = ⟨(109 :: G).toArray⟩) := by show _ = _; rw [mark, hG]
 rw [HGG.out]
 have hpos : ¬ (k0 : Int) ≤ 0 := by omega
 clear hG
 go_enter Tryz.func62, Tryz.ntmps62
 go_wp2
 go_loopw [0, 3] (fun a b wr => ∃ (k : Nat) (l : List UInt8), a = .int .i64 (k : Int) ∧ b = .string ⟨l.toArray⟩ ∧ k ≤ 9223372036854775807 ∧ dig k ++ l = G ∧ Below w.heap.size w wr) (fun a _ _ => (intOf a).toNat)
 case atStart => exact ⟨k0, [], rfl, rfl, h1, by rw [List.append_nil]; exact hd0, Below.refl _ _⟩
 case round =>
  obtain ⟨k, l, rfl, rfl, hk, hd, hbel⟩ := hrel
  have HD : Hid (dig k ++ l = G) := hd
  have hll : l.length ≤ 21 := by rw [← hd, List.length_append] at hgl; omega
  clear hd hd0 hgl
  have hsz : (⟨l.toArray⟩ : ByteArray).size = l.length := by simp [ByteArray.size]
  obtain ⟨s, hs⟩ : ∃ s : ByteArray, (⟨l.toArray⟩ : ByteArray) = s := ⟨_, rfl⟩
  rw [hs] at hsz ⊢
  have hcat : ¬ 9223372036854775807 < 1 + s.size := by omega
  have HS := Lib.hid hs
  clear hs hsz
  have HC : Hid ((⟨#[dgt k]⟩ : ByteArray) ++ s = ⟨(dgt k :: l).toArray⟩) := by
   show _ = _
   rw [← HS.out]
   apply ByteArray.ext
   simp
  by_cases hlt : 0 < k
  ·have hlti : 0 < (k : Int) := by omega
   have hconv := dgt_conv k wr (48 + (k : Int) % 10) (by omega)
   go_wp2
   go_roundw
   case rel => exact ⟨k / 10, dgt k :: l, by go_num, by rw [← HC.out], by omega, by rw [← HD.out, dig_step hlt]; simp, hbel.alloc hbel.size _⟩
   case measure => simp [intOf]; omega
  ·have hlti : ¬ 0 < (k : Int) := by omega
   obtain rfl : k = 0 := by omega
   have HR : Hid ((⟨#[109]⟩ : ByteArray) ++ s = ⟨(109 :: G).toArray⟩) := by
    show _ = _
    rw [← HD.out, ← HS.out]
    apply ByteArray.ext; simp [dig]
   go_wp2
   go_ret
   exact ⟨ret_str HR.out, hbel⟩
def MkR (w : World) (bb off n k i : Nat) : Prop := (∃ cs, w.heap[bb]? = some (.cells cs 9 (0, 0)) ∧ off + n ≤ cs.size) ∧ ∀ j, j < i → w.cell? ⟨bb, off + j, none⟩ = some (.string (mark (k + j)))
theorem MkR.below {w w' : World} {bb off n k i : Nat} (h : MkR w bb off n k i) (hb : Below w.heap.size w w') : MkR w' bb off n k i := by
 obtain ⟨⟨cs, hc, hs⟩, hm⟩ := h
 have hlt := (Array.getElem?_eq_some_iff.1 hc).1
 exact ⟨⟨cs, (hb.block bb hlt).trans hc, hs⟩, fun j hj => (hb.cell (p := ⟨bb, _, none⟩) hlt).trans (hm j hj)⟩
theorem MkR.cell {w : World} {bb off n k i : Nat} (h : MkR w bb off n k i) (j : Nat) (hj : j < n) : ∃ x, w.cell? ⟨bb, off + j, none⟩ = some x ∧ w.frozen? ⟨bb, off + j, none⟩ = false := by
 obtain ⟨⟨cs, hc, hs⟩, _⟩ := h
 have hlt : off + j < cs.size := by omega
 exact ⟨cs[off + j], by simp [World.cell?, hc, hlt], by simp [World.frozen?, hc]⟩
theorem heldS_any (bb off n c k0 : Nat) (w : World) (hM : MkR w bb off n k0 n) (h0 : 0 < k0) (hn : k0 + n ≤ 2000000) :
  Calls Tryz.prog 64 #[.slice (some ⟨bb, off, none⟩) n c, .int .i64 (k0 : Int)] w fun e w' => e = .returned (.int .i64 ((k0 + n : Nat) : Int)) ∧ Below w.heap.size w w' := by
 go_enter Tryz.func64, Tryz.ntmps64
 go_wp2
 go_loopw [1, 5] (fun a x wr => ∃ (i : Nat), i ≤ n ∧ x = .int .i64 (i : Int) ∧ a = .int .i64 ((k0 + i : Nat) : Int) ∧ Below w.heap.size w wr) (fun _ x _ => n - (intOf x).toNat)
 case atStart => exact ⟨0, Nat.zero_le _, rfl, rfl, Below.refl _ _⟩
 case round =>
  obtain ⟨i, hi, rfl, rfl, hbel⟩ := hrel
  by_cases h : i < n
  ·have h' : (i : Int) < (n : Int) := by omega
   have HMT : Hid (Calls Tryz.prog 62 #[.int .i64 ((k0 + i : Nat) : Int)] wr.drew fun e w' => e = .returned (.string (mark (k0 + i))) ∧ Below wr.drew.heap.size wr.drew w') := mark_any (k0 + i) (by omega) (by omega) wr.drew
   have ce := (hM.below hbel).2 i h
   obtain ⟨s, hs⟩ : ∃ s, mark (k0 + i) = s := ⟨_, rfl⟩
   obtain ⟨K, hK⟩ : ∃ K : Nat, k0 + i = K := ⟨_, rfl⟩
   rw [hs] at HMT ce
   rw [hK] at HMT
   have HKK : Hid (k0 + i = K) := hK
   have HBB : Hid (Below w.heap.size w wr) := hbel
   have HCE : Hid (∀ w2, Below wr.drew.heap.size wr.drew w2 → w2.cell? ⟨bb, off + i, none⟩ = some (.string s)) := fun w2 h2 => (h2.cell (p := ⟨bb, _, none⟩) (World.block_lt_of_cell? _ _ ce)).trans ce
   rw [hK]
   have hKb : K ≤ 2000000 := by omega
   clear hs hK
   go_wp2_with fail
   go_region_held3 (fun w' => w'.cell? ⟨bb, off + i, none⟩ = some (.string s))
    (first
     | go_keep
     | exact HCE.out _ hb1)
    (first | ((go_at_call 62; refine HMT.out.mono ?_; rintro e w1 ⟨rfl, hb1⟩)))
   go_wp2_with fail
   go_roundw
   case rel => exact ⟨i + 1, by omega, by go_num, by rw [← Nat.add_assoc, HKK.out]; go_num, HBB.out.drew.trans (hb1.mono HBB.out.size)⟩
   case measure => simp [intOf]; omega
  ·have h' : ¬ (i : Int) < (n : Int) := by omega
   obtain rfl : i = n := by omega
   go_wp2
   go_ret
   exact ⟨rfl, hbel⟩
def strL (l : List UInt8) : Value := .string ⟨l.toArray⟩
theorem strL_of (s : ByteArray) : strL s.data.toList = .string s := by cases s; simp [strL]
theorem toL (l : List UInt8) : (⟨l.toArray⟩ : ByteArray).toList = l := by simp [ByteArray.toList_eq]
theorem info9 : (Tryz.prog.info? 9).map (fun i => (i.zero, i.size, i.bytes)) = some (some (.string ⟨#[]⟩), 1, 16) := by kernel_rfl
theorem info_parts {e : TypeId} {z : Value} {size bytes : Nat} (hinfo : (Tryz.prog.info? e).map (fun i => (i.zero, i.size, i.bytes)) = some (some z, size, bytes)) : ∃ i, Tryz.prog.info? e = some i ∧ i.zero = some z ∧ i.size = size ∧ i.bytes = bytes := by
 obtain ⟨i, hi, hzz⟩ := Option.map_eq_some_iff.1 hinfo
 simp only [Prod.mk.injEq] at hzz
 exact ⟨i, hi, hzz.1, hzz.2.1, hzz.2.2⟩
def StrR (w : World) (v : Value) (xs : List (List UInt8)) : Prop := ∃ bb off cap, v = .slice (some ⟨bb, off, none⟩) xs.length cap ∧ xs.length ≤ cap ∧ cap ≤ maxLen ∧ ∀ i x, xs[i]? = some x → w.cell? ⟨bb, off + i, none⟩ = some (strL x)
theorem StrR.below {w w' : World} {v : Value} {xs : List (List UInt8)} (h : StrR w v xs) (hb : Below w.heap.size w w') : StrR w' v xs := by
 obtain ⟨bb, off, cap, e, h1, h2, hc⟩ := h
 exact ⟨bb, off, cap, e, h1, h2, fun i x hx => (hb.cell (p := ⟨bb, _, none⟩) (World.block_lt_of_cell? _ _ (hc i x hx))).trans (hc i x hx)⟩
theorem StrR.own' {w : World} {base : Nat} {v : Value} {xs : List (List UInt8)} (h : w.ownsRow base 9 1 v xs.length (xs.map strL)) (hv : v ≠ .slice none 0 0) : StrR w v xs := by
 obtain ⟨hl, h⟩ := h
 have h0 := h
 rcases h with ⟨e, _⟩ | ⟨g, cap, cur, rfl, hb, hg, hcs⟩
 ·exact absurd e hv
 ·have hk := World.ownsRow.cells (w := w) (base := base) (e := 9) (size := 1) (v := .slice (some ⟨g, 0, none⟩) xs.length cap) (n := xs.length) (xs := xs.map strL) ⟨hl, h0⟩ (g := g) rfl
  obtain ⟨k1, k2, _⟩ := hcs
  refine ⟨g, 0, cap, rfl, k1, k2, fun i x hx => ?_⟩
  have := hk i (strL x) (by simp [hx])
  rwa [addr_add] at this
def OwnS (base : Nat) (w : World) (v : Value) (xs : List (List UInt8)) : Prop := w.ownsRow base 9 1 v xs.length (xs.map strL) ∧ v ≠ .slice none 0 0
theorem OwnS.row {base : Nat} {w : World} {v : Value} {xs : List (List UInt8)} (h : OwnS base w v xs) : StrR w v xs := StrR.own' h.1 h.2
theorem OwnS.mono {base base' : Nat} {w : World} {v : Value} {xs : List (List UInt8)} (h : OwnS base w v xs) (hb : base' ≤ base) : OwnS base' w v xs := by
 refine ⟨⟨h.1.1, ?_⟩, h.2⟩
 rcases h.1.2 with ⟨e, _⟩ | ⟨g, cap, cur, e, hg, r⟩
 ·exact absurd e h.2
 ·exact .inr ⟨g, cap, cur, e, Nat.le_trans hb hg, r⟩
theorem strL_one (l : List (List UInt8)) : ∀ u ∈ l.map strL, u.oneCell' = true := by
 intro u hu
 obtain ⟨x, _, rfl⟩ := List.mem_map.1 hu
 rfl
theorem app_str (w : World) {ops : Array Oper} {rest : List Oper} {o : Oper} {a : Act} {Q : Exit → Act → World → Prop} (hgd : o.guard = none) (s x : Operand)
  (ho : o.op = .call { callee := .builtin .append, args := #[s, x], argTypes := #[85, 85] })
  (base : Nat) (v : Value) (xs : List (List UInt8)) (hs : a.eval s = v) (hown : w.ownsRow base 9 1 v xs.length (xs.map strL)) (hv : v ≠ .slice none 0 0)
  (ad : Addr) (m c : Nat) (ys : List (List UInt8)) (hx : a.eval x = .slice (some ad) m c) (hm : ys.length = m) (hnews : ∀ j u, (ys.map strL)[j]? = some u → w.cell? (ad.add j) = some u) (hlen : xs.length + m ≤ 1000000) (hbase : base ≤ w.heap.size)
  (h : ∀ v' w', w'.ownsRow base 9 1 v' (xs ++ ys).length ((xs ++ ys).map strL) → v' ≠ .slice none 0 0 → w.grownBy w' v.ownBlock → wpList Tryz.prog ops Q rest (a.put o.dst v') w') : wpList Tryz.prog ops Q (o :: rest) a w := by
 obtain ⟨i0, hi, hz0, hz1, hz2⟩ := info_parts info9
 refine wpList_append_own w hgd s x 85 ho base 9 i0 _ 1 16 Tryz.underlying85 hi hz0 hz1 hz2 rfl (by omega) v xs.length (xs.map strL) hs hown ad m c (ys.map strL) hx (by simpa using hm) hnews (strL_one _) (by unfold maxLen; omega) (by omega) hbase ?_
 intro v' w' h1 h2 h3
 exact h _ _ (by rw [List.length_append, List.map_append, hm]; exact h1) (fun e => hv (h3.1 e).1) h2
theorem one_at (w : World) (l : List UInt8) : ∀ j u, ([l].map strL)[j]? = some u → (w.alloc (.cells #[strL l] 9)).cell? ((⟨w.heap.size, 0, none⟩ : Addr).add j) = some u := by
 rw [List.map_singleton]
 exact one_new w _ 9
theorem row_news {w : World} {bb off : Nat} {xs : List (List UInt8)} (hc : ∀ i x, xs[i]? = some x → w.cell? ⟨bb, off + i, none⟩ = some (strL x)) : ∀ j u, (xs.map strL)[j]? = some u → w.cell? ((⟨bb, off, none⟩ : Addr).add j) = some u := by
 intro j u h
 rw [List.getElem?_map, Option.map_eq_some_iff] at h
 obtain ⟨x, hx, rfl⟩ := h
 rw [addr_add]
 exact hc j x hx
theorem own_zero (w : World) : (w.alloc (.cells #[] 9)).ownsRow w.heap.size 9 1 (.slice (some ⟨w.heap.size, 0, none⟩) 0 0) ([] : List (List UInt8)).length (([] : List (List UInt8)).map strL) := World.ownsRow_made w #[] 0 (Nat.le_refl _) (by decide) rfl
theorem not_nil (a : Addr) (n c : Nat) : (Value.slice (some a) n c) ≠ .slice none 0 0 := by intro e; cases e
def xAt (xs : List (List UInt8)) (i : Nat) : List UInt8 := xs[i]?.getD []
theorem xAt_some {xs : List (List UInt8)} {i : Nat} (h : i < xs.length) : xs[i]? = some (xAt xs i) := by simp [xAt, h]
def mrg : Nat → List (List UInt8) → List (List UInt8) → List (List UInt8)
 | 0, l, r => l ++ r
 | _ + 1, l, [] => l
 | f + 1, [], x :: r => x :: mrg f [] r
 | f + 1, y :: l, x :: r => if Op.bytesLess x y = true then x :: mrg f (y :: l) r else y :: mrg f l (x :: r)
def srt : Nat → List (List UInt8) → List (List UInt8)
 | 0, l => l
 | f + 1, l => if l.length < 2 then l else mrg l.length (srt f (l.take (l.length / 2))) (srt f (l.drop (l.length / 2)))
theorem mrg_len : ∀ (f : Nat) (l r : List (List UInt8)), (mrg f l r).length = l.length + r.length
 | 0, l, r => by simp [mrg]
 | f + 1, l, [] => by cases l <;> simp [mrg]
 | f + 1, [], x :: r => by simp [mrg, mrg_len f [] r]
 | f + 1, y :: l, x :: r => by
  unfold mrg
  split
  ·have := mrg_len f (y :: l) r; simp at this ⊢; omega
  ·have := mrg_len f l (x :: r); simp at this ⊢; omega
theorem srt_len : ∀ (f : Nat) (l : List (List UInt8)), (srt f l).length = l.length
 | 0, l => rfl
 | f + 1, l => by
  unfold srt
  split
  ·rfl
  ·rw [mrg_len, srt_len f, srt_len f, List.length_take, List.length_drop]; omega
theorem mrg_end (f : Nat) (l : List (List UInt8)) : mrg f l [] = l := by cases f <;> cases l <;> simp [mrg]
theorem nan_any (p : ByteArray) (w : World) : Calls Tryz.prog 191 #[.string p] w fun e w' => e = .returned (.bool false) ∧ w' = w := by
 go_enter Tryz.func191, Tryz.ntmps191
 go_wp2
 go_ret
 first | exact ⟨rfl, rfl⟩ | exact ⟨by simp, rfl⟩
theorem less_any (x y : ByteArray) (w : World) : Calls Tryz.prog 201 #[.string x, .string y] w fun e w' => e = .returned (.bool (Op.bytesLess x.toList y.toList)) ∧ w' = w := by
 have HNA : Hid (∀ x W, Calls Tryz.prog 191 #[.string x] W fun e w' => e = .returned (.bool false) ∧ w' = W) := fun x W => nan_any x W
 obtain ⟨r, hr⟩ : ∃ r, Op.bytesLess x.toList y.toList = r := ⟨_, rfl⟩
 go_enter Tryz.func201, Tryz.ntmps201
 go_wp2_with (go_at_call 191; refine (HNA.out _ _).mono ?_; rintro e w1 ⟨rfl, rfl⟩)
 go_ret
 exact ⟨by first | rfl | simp [hr], rfl⟩
theorem clone_any (xs : List (List UInt8)) (v : Value) (w : World) (hR : StrR w v xs) (hn : xs.length ≤ 4000) :
  Calls Tryz.prog 197 #[v] w fun e w' => ∃ v', e = .returned v' ∧ OwnS w.heap.size w' v' xs ∧ Below w.heap.size w w' := by
 obtain ⟨bb, off, cap, rfl, h1, h2, hc⟩ := hR
 have B0 : Below w.heap.size w (w.alloc (.cells #[] 9)) := (Below.refl _ _).alloc (Nat.le_refl _) _
 have HC : Hid (∀ j u, (xs.map strL)[j]? = some u → (w.alloc (.cells #[] 9)).cell? ((⟨bb, off, none⟩ : Addr).add j) = some u) := row_news fun i x hx => (B0.cell (p := ⟨bb, _, none⟩) (World.block_lt_of_cell? _ _ (hc i x hx))).trans (hc i x hx)
 have HO := Lib.hid (own_zero w)
 clear hc
 have he : ∀ w : World, (binOp .eql 85 (.slice (some ⟨bb, off, none⟩) xs.length cap) (.slice none 0 0)).run Tryz.prog w = .ok (.bool false) w := fun _ => rfl
 go_enter Tryz.func197, Tryz.ntmps197
 go_wp2_with (first
  | (at_builtin; refine app_str _ rfl _ _ rfl w.heap.size (.slice (some ⟨w.heap.size, 0, none⟩) 0 0) [] rfl HO.out (not_nil _ _ _) ⟨bb, off, none⟩ xs.length cap xs rfl rfl HC.out (by simp; omega) (by simp) ?_)
  | go_in)
 intro v1 w1 hown1 hv1 hg1
 have B1 := below_grown B0 HO.out hg1 (by simp)
 clear hg1
 go_wp2
 go_ret
 exact ⟨_, rfl, ⟨hown1, hv1⟩, B1⟩
end Go.Proofs.YtpfnnjfapcnbnaaGreatDoor.sr
namespace Go.Proofs.YtpfnnjfapcnbnaaGreatDoor.sv
open Go.ChangeShapes Go.WideShapes Go.ChangeAt Go.RowKit Go.Deep
theorem not_nil (a : Addr) (n c : Nat) : (Value.slice (some a) n c) ≠ .slice none 0 0 := by intro e; cases e
theorem app_text (w : World) {ops : Array Oper} {rest : List Oper} {o : Oper} {a : Act} {Q : Exit → Act → World → Prop} (hgd : o.guard = none) (s x : Operand)
  (ho : o.op = .call { callee := .builtin .append, args := #[s, x], argTypes := #[85, 85] })
  (base : Nat) (v : Value) (xs : List (List UInt8)) (hs : a.eval s = v) (hown : sr.OwnS base w v xs)
  (ad : Addr) (m c : Nat) (ys : List (List UInt8)) (hx : a.eval x = .slice (some ad) m c) (hm : ys.length = m) (hnews : ∀ j u, (ys.map sr.strL)[j]? = some u → w.cell? (ad.add j) = some u) (hlen : xs.length + m ≤ 1000000) (hbase : base ≤ w.heap.size)
  (h : ∀ v' w', sr.OwnS base w' v' (xs ++ ys) → w.grownBy w' v.ownBlock → (v'.ownBlock = v.ownBlock ∨ v'.ownBlock = some w.heap.size) → wpList Tryz.prog ops Q rest (a.put o.dst v') w') : wpList Tryz.prog ops Q (o :: rest) a w := by
 obtain ⟨i0, hi, hz0, hz1, hz2⟩ := sr.info_parts sr.info9
 refine wpList_append_own_at w hgd s x 85 ho base 9 i0 _ 1 16 Tryz.underlying85 hi hz0 hz1 hz2 rfl (by omega) v xs.length (xs.map sr.strL) hs hown.1 ad m c (ys.map sr.strL) hx (by simpa using hm) hnews (sr.strL_one _) (by unfold maxLen; omega) (by omega) hbase ?_
 intro v' w' h1 h2 h3 h4
 exact h _ _ ⟨by rw [List.length_append, List.map_append, hm]; exact h1, fun e => hown.2 (h3.1 e).1⟩ h2 h4
theorem one_str (w : World) {l : List UInt8} {u : ByteArray} (h : sr.strL l = .string u) : ∀ j v, ([l].map sr.strL)[j]? = some v → (w.alloc (.cells #[.string u] 9)).cell? ((⟨w.heap.size, 0, none⟩ : Addr).add j) = some v := by
 rw [List.map_singleton, h]
 exact one_new w _ 9
theorem own_zeroS (w : World) : sr.OwnS w.heap.size (w.alloc (.cells #[] 9)) (.slice (some ⟨w.heap.size, 0, none⟩) 0 0) [] := ⟨sr.own_zero w, not_nil _ _ _⟩
theorem OwnS.bel {B : Nat} {w w' : World} {v : Value} {xs : List (List UInt8)} (h : sr.OwnS B w v xs) (hb : Below w.heap.size w w') : sr.OwnS B w' v xs := ⟨own_below h.1 hb, h.2⟩
end Go.Proofs.YtpfnnjfapcnbnaaGreatDoor.sv
