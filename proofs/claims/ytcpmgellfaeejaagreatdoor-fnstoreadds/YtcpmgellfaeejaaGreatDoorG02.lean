import Derived.Test.YtcpmgellfaeejaaGreatDoorG01
import Derived.Sort.Walk0
import Derived.Deep.RegionHeld3
import Derived.WalkLawsBesides
import Derived.Maps.AppendAt
import Derived.BigQuiet
import Derived.Deep.QuietTactic
import Derived.Lib.Hide
import Derived.LaidLaws
import Derived.ChangeArms
import Derived.ChangeSame
import Derived.Deep.Slices
import Derived.Deep.RegionWith
namespace Go.Proofs.YtcpmgellfaeejaaGreatDoor.tt
open Go.ChangeShapes Go.WideShapes Go.ChangeAt Go.RowKit Go.Deep
set_option linter.unusedVariables false
set_option linter.unusedSimpArgs false
structure En where
 path : ByteArray
 kind : Int
 data : ByteArray
 exec : Bool
instance : Inhabited En := ⟨⟨⟨#[]⟩, 0, ⟨#[]⟩, false⟩⟩
def nameL (l : List UInt8) : Bool := nm.nameB ⟨l.toArray⟩
def pk : Nat → List UInt8 → List UInt8 → Bool
 | c, cur, [] => nameL cur && decide (c < 8)
 | c, cur, b :: l => if b = 47 then (nameL cur && decide (c < 8)) && pk (c + 1) [] l else pk c (cur ++ [b]) l
def pOk (s : ByteArray) : Bool := pk 0 [] s.data.toList
def cOk (e : En) : Bool :=
 decide (e.data.size ≤ 20000) && (if e.kind = 1 then decide (e.data.size = 0) && !e.exec else if e.kind = 2 then true else decide (e.kind = 3) && !decide (e.data.size = 0) && !e.exec)
def eOk (e : En) : Bool := pOk e.path && cOk e
def lst : List UInt8 → Option Nat
 | [] => none
 | b :: l => match lst l with
  | some i => some (i + 1)
  | none => if b = 47 then some 0 else none
theorem lst_none : ∀ {l : List UInt8}, lst l = none → ∀ j : Nat, l[j]? ≠ some (47 : UInt8)
 | [], _, j => by simp
 | b :: l, h, j => by
  unfold lst at h
  cases e : lst l with
  | some k => rw [e] at h; simp at h
  | none =>
   rw [e] at h
   simp only at h
   split at h
   ·cases h
   ·next hb =>
    cases j with
    | zero => simpa using hb
    | succ j => simpa using lst_none e j
theorem lst_some : ∀ {l : List UInt8} {i : Nat}, lst l = some i → l[i]? = some (47 : UInt8) ∧ ∀ j : Nat, i < j → l[j]? ≠ some (47 : UInt8)
 | [], i, h => by simp [lst] at h
 | b :: l, i, h => by
  unfold lst at h
  cases e : lst l with
  | some k =>
   rw [e] at h
   obtain rfl := Option.some.inj h
   obtain ⟨h1, h2⟩ := lst_some e
   refine ⟨by simpa using h1, fun j hj => ?_⟩
   obtain ⟨m, rfl⟩ : ∃ m, j = m + 1 := ⟨j - 1, by omega⟩
   simpa using h2 m (by omega)
  | none =>
   rw [e] at h
   simp only at h
   split at h
   ·next hb =>
    obtain rfl := Option.some.inj h
    subst hb
    refine ⟨rfl, fun j hj hq => ?_⟩
    obtain ⟨m, rfl⟩ : ∃ m, j = m + 1 := ⟨j - 1, by omega⟩
    exact lst_none e m (by simpa using hq)
   ·cases h
theorem lst_of {l : List UInt8} {i : Nat} (h1 : l[i]? = some (47 : UInt8)) (h2 : ∀ j : Nat, i < j → l[j]? ≠ some (47 : UInt8)) : lst l = some i := by
 cases e : lst l with
 | none => exact absurd h1 (lst_none e i)
 | some k =>
  obtain ⟨k1, k2⟩ := lst_some e
  rcases Nat.lt_trichotomy i k with h | h | h
  ·exact absurd k1 (h2 k h)
  ·rw [h]
  ·exact absurd h1 (k2 i h)
theorem lst_no {l : List UInt8} (h : ∀ j : Nat, l[j]? ≠ some (47 : UInt8)) : lst l = none := by
 cases e : lst l with
 | none => rfl
 | some k => exact absurd (lst_some e).1 (h k)
def up (l : List UInt8) : List UInt8 := match lst l with
 | some i => l.take i
 | none => []
def pth (E : Nat → En) (i : Nat) : List UInt8 := (E i).path.data.toList
def Asc (E : Nat → En) (n : Nat) : Prop := ∀ i j, i < j → j < n → pth E i < pth E j
def Dir (E : Nat → En) (n : Nat) (p : List UInt8) : Prop := ∃ j, j < n ∧ pth E j = p ∧ (E j).kind = 1
def Tr (E : Nat → En) (k : Nat) : Prop := (∀ i, i < k → eOk (E i) = true) ∧ (∀ i, i + 1 < k → pth E i < pth E (i + 1)) ∧ ∀ i, i < k → up (pth E i) ≠ [] → Dir E i (up (pth E i))
theorem Tr.asc {E : Nat → En} {k : Nat} (h : Tr E k) : Asc E k := by
 intro i j hij hj
 induction j with
 | zero => omega
 | succ j ih =>
  rcases Nat.lt_or_ge i j with h' | h'
  ·exact List.lt_trans (ih h' (by omega)) (h.2.1 j hj)
  ·obtain rfl : i = j := by omega
   exact h.2.1 i hj
theorem Tr.zero (E : Nat → En) : Tr E 0 := ⟨fun i h => by omega, fun i h => by omega, fun i h => by omega⟩
theorem Tr.next {E : Nat → En} {k : Nat} (h : Tr E k) (h1 : eOk (E k) = true) (h2 : 0 < k → pth E (k - 1) < pth E k) (h3 : up (pth E k) ≠ [] → Dir E k (up (pth E k))) : Tr E (k + 1) := by
 refine ⟨fun i hi => ?_, fun i hi => ?_, fun i hi => ?_⟩
 ·rcases Nat.lt_or_ge i k with h' | h'
  ·exact h.1 i h'
  ·obtain rfl : i = k := by omega
   exact h1
 ·rcases Nat.lt_or_ge (i + 1) k with h' | h'
  ·exact h.2.1 i h'
  ·obtain rfl : k = i + 1 := by omega
   exact h2 (by omega)
 ·rcases Nat.lt_or_ge i k with h' | h'
  ·exact h.2.2 i h'
  ·obtain rfl : i = k := by omega
   exact h3
end Go.Proofs.YtcpmgellfaeejaaGreatDoor.tt

namespace Go.Proofs.YtcpmgellfaeejaaGreatDoor.sr
open Go.ChangeShapes Go.WideShapes Go.ChangeAt Go.RowKit Go.Deep
set_option linter.unusedVariables false
set_option linter.unusedSimpArgs false
def strL (l : List UInt8) : Value := .string ⟨l.toArray⟩
theorem strL_of (s : ByteArray) : strL s.data.toList = .string s := by cases s; simp [strL]
theorem toL (l : List UInt8) : (⟨l.toArray⟩ : ByteArray).toList = l := by simp [ByteArray.toList_eq]
theorem info9 : (Tryz.prog.info? 9).map (fun i => (i.zero, i.size, i.bytes)) = some (some (.string ⟨#[]⟩), 1, 16) := by kernel_rfl
theorem info_parts {e : TypeId} {z : Value} {size bytes : Nat} (hinfo : (Tryz.prog.info? e).map (fun i => (i.zero, i.size, i.bytes)) = some (some z, size, bytes)) : ∃ i, Tryz.prog.info? e = some i ∧ i.zero = some z ∧ i.size = size ∧ i.bytes = bytes := by
 obtain ⟨i, hi, hzz⟩ := Option.map_eq_some_iff.1 hinfo
 simp only [Prod.mk.injEq] at hzz
 exact ⟨i, hi, hzz.1, hzz.2.1, hzz.2.2⟩
def StrR (w : World) (v : Value) (xs : List (List UInt8)) : Prop := ∃ bb off cap, v = .slice (some ⟨bb, off, none⟩) xs.length cap ∧ xs.length ≤ cap ∧ cap ≤ maxLen ∧ ∀ i x, xs[i]? = some x → w.cell? ⟨bb, off + i, none⟩ = some (strL x)
theorem StrR.below {w w' : World} {v : Value} {xs : List (List UInt8)} (h : StrR w v xs) (hb : Below w.heap.size w w') : StrR w' v xs := by
 obtain ⟨bb, off, cap, e, h1, h2, hc⟩ := h
 exact ⟨bb, off, cap, e, h1, h2, fun i x hx => (hb.cell (p := ⟨bb, _, none⟩) (World.block_lt_of_cell? _ _ (hc i x hx))).trans (hc i x hx)⟩
theorem StrR.own' {w : World} {base : Nat} {v : Value} {xs : List (List UInt8)} (h : w.ownsRow base 9 1 v xs.length (xs.map strL)) (hv : v ≠ .slice none 0 0) : StrR w v xs := by
 obtain ⟨hl, h⟩ := h
 have h0 := h
 rcases h with ⟨e, _⟩ | ⟨g, cap, cur, rfl, hb, hg, hcs⟩
 ·exact absurd e hv
 ·have hk := World.ownsRow.cells (w := w) (base := base) (e := 9) (size := 1) (v := .slice (some ⟨g, 0, none⟩) xs.length cap) (n := xs.length) (xs := xs.map strL) ⟨hl, h0⟩ (g := g) rfl
  obtain ⟨k1, k2, _⟩ := hcs
  refine ⟨g, 0, cap, rfl, k1, k2, fun i x hx => ?_⟩
  have := hk i (strL x) (by simp [hx])
  rwa [addr_add] at this
def OwnS (base : Nat) (w : World) (v : Value) (xs : List (List UInt8)) : Prop := w.ownsRow base 9 1 v xs.length (xs.map strL) ∧ v ≠ .slice none 0 0
theorem OwnS.row {base : Nat} {w : World} {v : Value} {xs : List (List UInt8)} (h : OwnS base w v xs) : StrR w v xs := StrR.own' h.1 h.2
theorem OwnS.mono {base base' : Nat} {w : World} {v : Value} {xs : List (List UInt8)} (h : OwnS base w v xs) (hb : base' ≤ base) : OwnS base' w v xs := by
 refine ⟨⟨h.1.1, ?_⟩, h.2⟩
 rcases h.1.2 with ⟨e, _⟩ | ⟨g, cap, cur, e, hg, r⟩
 ·exact absurd e h.2
 ·exact .inr ⟨g, cap, cur, e, Nat.le_trans hb hg, r⟩
theorem strL_one (l : List (List UInt8)) : ∀ u ∈ l.map strL, u.oneCell' = true := by
 intro u hu
 obtain ⟨x, _, rfl⟩ := List.mem_map.1 hu
 rfl
theorem app_str (w : World) {ops : Array Oper} {rest : List Oper} {o : Oper} {a : Act} {Q : Exit → Act → World → Prop} (hgd : o.guard = none) (s x : Operand)
  (ho : o.op = .call { callee := .builtin .append, args := #[s, x], argTypes := #[33, 33] })
  (base : Nat) (v : Value) (xs : List (List UInt8)) (hs : a.eval s = v) (hown : w.ownsRow base 9 1 v xs.length (xs.map strL)) (hv : v ≠ .slice none 0 0)
  (ad : Addr) (m c : Nat) (ys : List (List UInt8)) (hx : a.eval x = .slice (some ad) m c) (hm : ys.length = m) (hnews : ∀ j u, (ys.map strL)[j]? = some u → w.cell? (ad.add j) = some u) (hlen : xs.length + m ≤ 1000000) (hbase : base ≤ w.heap.size)
  (h : ∀ v' w', w'.ownsRow base 9 1 v' (xs ++ ys).length ((xs ++ ys).map strL) → v' ≠ .slice none 0 0 → w.grownBy w' v.ownBlock → wpList Tryz.prog ops Q rest (a.put o.dst v') w') : wpList Tryz.prog ops Q (o :: rest) a w := by
 obtain ⟨i0, hi, hz0, hz1, hz2⟩ := info_parts info9
 refine wpList_append_own w hgd s x 33 ho base 9 i0 _ 1 16 Tryz.underlying33 hi hz0 hz1 hz2 rfl (by omega) v xs.length (xs.map strL) hs hown ad m c (ys.map strL) hx (by simpa using hm) hnews (strL_one _) (by unfold maxLen; omega) (by omega) hbase ?_
 intro v' w' h1 h2 h3
 exact h _ _ (by rw [List.length_append, List.map_append, hm]; exact h1) (fun e => hv (h3.1 e).1) h2
theorem one_at (w : World) (l : List UInt8) : ∀ j u, ([l].map strL)[j]? = some u → (w.alloc (.cells #[strL l] 9)).cell? ((⟨w.heap.size, 0, none⟩ : Addr).add j) = some u := by
 rw [List.map_singleton]
 exact one_new w _ 9
theorem row_news {w : World} {bb off : Nat} {xs : List (List UInt8)} (hc : ∀ i x, xs[i]? = some x → w.cell? ⟨bb, off + i, none⟩ = some (strL x)) : ∀ j u, (xs.map strL)[j]? = some u → w.cell? ((⟨bb, off, none⟩ : Addr).add j) = some u := by
 intro j u h
 rw [List.getElem?_map, Option.map_eq_some_iff] at h
 obtain ⟨x, hx, rfl⟩ := h
 rw [addr_add]
 exact hc j x hx
theorem own_zero (w : World) : (w.alloc (.cells #[] 9)).ownsRow w.heap.size 9 1 (.slice (some ⟨w.heap.size, 0, none⟩) 0 0) ([] : List (List UInt8)).length (([] : List (List UInt8)).map strL) := World.ownsRow_made w #[] 0 (Nat.le_refl _) (by decide) rfl
theorem not_nil (a : Addr) (n c : Nat) : (Value.slice (some a) n c) ≠ .slice none 0 0 := by intro e; cases e
def xAt (xs : List (List UInt8)) (i : Nat) : List UInt8 := xs[i]?.getD []
theorem xAt_some {xs : List (List UInt8)} {i : Nat} (h : i < xs.length) : xs[i]? = some (xAt xs i) := by simp [xAt, h]
def mrg : Nat → List (List UInt8) → List (List UInt8) → List (List UInt8)
 | 0, l, r => l ++ r
 | _ + 1, l, [] => l
 | f + 1, [], x :: r => x :: mrg f [] r
 | f + 1, y :: l, x :: r => if Op.bytesLess x y = true then x :: mrg f (y :: l) r else y :: mrg f l (x :: r)
def srt : Nat → List (List UInt8) → List (List UInt8)
 | 0, l => l
 | f + 1, l => if l.length < 2 then l else mrg l.length (srt f (l.take (l.length / 2))) (srt f (l.drop (l.length / 2)))
theorem mrg_len : ∀ (f : Nat) (l r : List (List UInt8)), (mrg f l r).length = l.length + r.length
 | 0, l, r => by simp [mrg]
 | f + 1, l, [] => by cases l <;> simp [mrg]
 | f + 1, [], x :: r => by simp [mrg, mrg_len f [] r]
 | f + 1, y :: l, x :: r => by
  unfold mrg
  split
  ·have := mrg_len f (y :: l) r; simp at this ⊢; omega
  ·have := mrg_len f l (x :: r); simp at this ⊢; omega
theorem srt_len : ∀ (f : Nat) (l : List (List UInt8)), (srt f l).length = l.length
 | 0, l => rfl
 | f + 1, l => by
  unfold srt
  split
  ·rfl
  ·rw [mrg_len, srt_len f, srt_len f, List.length_take, List.length_drop]; omega
theorem mrg_end (f : Nat) (l : List (List UInt8)) : mrg f l [] = l := by cases f <;> cases l <;> simp [mrg]
theorem nan_any (p : ByteArray) (w : World) : Calls Tryz.prog 126 #[.string p] w fun e w' => e = .returned (.bool false) ∧ w' = w := by
 go_enter Tryz.func126, Tryz.ntmps126
 go_wp2
 go_ret
 first | exact ⟨rfl, rfl⟩ | exact ⟨by simp, rfl⟩
set_option maxRecDepth 100000 in
theorem less_any (x y : ByteArray) (w : World) : Calls Tryz.prog 87 #[.string x, .string y] w fun e w' => e = .returned (.bool (Op.bytesLess x.toList y.toList)) ∧ w' = w := by
 have HNA : Hid (∀ x W, Calls Tryz.prog 126 #[.string x] W fun e w' => e = .returned (.bool false) ∧ w' = W) := fun x W => nan_any x W
 obtain ⟨r, hr⟩ : ∃ r, Op.bytesLess x.toList y.toList = r := ⟨_, rfl⟩
 go_enter Tryz.func87, Tryz.ntmps87
 go_wp2_with (go_at_call 126; refine (HNA.out _ _).mono ?_; rintro e w1 ⟨rfl, rfl⟩)
 go_ret
 exact ⟨by first | rfl | simp [hr], rfl⟩
set_option maxRecDepth 100000 in
theorem clone_any (xs : List (List UInt8)) (v : Value) (w : World) (hR : StrR w v xs) (hn : xs.length ≤ 4000) :
  Calls Tryz.prog 84 #[v] w fun e w' => ∃ v', e = .returned v' ∧ OwnS w.heap.size w' v' xs ∧ Below w.heap.size w w' := by
 obtain ⟨bb, off, cap, rfl, h1, h2, hc⟩ := hR
 have B0 : Below w.heap.size w (w.alloc (.cells #[] 9)) := (Below.refl _ _).alloc (Nat.le_refl _) _
 have HC : Hid (∀ j u, (xs.map strL)[j]? = some u → (w.alloc (.cells #[] 9)).cell? ((⟨bb, off, none⟩ : Addr).add j) = some u) := row_news fun i x hx => (B0.cell (p := ⟨bb, _, none⟩) (World.block_lt_of_cell? _ _ (hc i x hx))).trans (hc i x hx)
 have HO : Hid ((w.alloc (.cells #[] 9)).ownsRow w.heap.size 9 1 (.slice (some ⟨w.heap.size, 0, none⟩) 0 0) ([] : List (List UInt8)).length (([] : List (List UInt8)).map strL)) := own_zero w
 clear hc
 have he : ∀ w : World, (binOp .eql 33 (.slice (some ⟨bb, off, none⟩) xs.length cap) (.slice none 0 0)).run Tryz.prog w = .ok (.bool false) w := fun _ => rfl
 go_enter Tryz.func84, Tryz.ntmps84
 go_wp2_with (first
  | (at_builtin; refine app_str _ rfl _ _ rfl w.heap.size (.slice (some ⟨w.heap.size, 0, none⟩) 0 0) [] rfl HO.out (not_nil _ _ _) ⟨bb, off, none⟩ xs.length cap xs rfl rfl HC.out (by simp; omega) (by simp) ?_)
  | go_in)
 intro v1 w1 hown1 hv1 hg1
 have B1 := below_grown B0 HO.out hg1 (by simp)
 clear hg1
 go_wp2
 go_ret
 exact ⟨_, rfl, ⟨hown1, hv1⟩, B1⟩
end Go.Proofs.YtcpmgellfaeejaaGreatDoor.sr

namespace Go.Proofs.YtcpmgellfaeejaaGreatDoor.sv
open Go.ChangeShapes Go.WideShapes Go.ChangeAt Go.RowKit Go.Deep
set_option linter.unusedVariables false
set_option linter.unusedSimpArgs false
theorem not_nil (a : Addr) (n c : Nat) : (Value.slice (some a) n c) ≠ .slice none 0 0 := by intro e; cases e
theorem app_text (w : World) {ops : Array Oper} {rest : List Oper} {o : Oper} {a : Act} {Q : Exit → Act → World → Prop} (hgd : o.guard = none) (s x : Operand)
  (ho : o.op = .call { callee := .builtin .append, args := #[s, x], argTypes := #[33, 33] })
  (base : Nat) (v : Value) (xs : List (List UInt8)) (hs : a.eval s = v) (hown : sr.OwnS base w v xs)
  (ad : Addr) (m c : Nat) (ys : List (List UInt8)) (hx : a.eval x = .slice (some ad) m c) (hm : ys.length = m) (hnews : ∀ j u, (ys.map sr.strL)[j]? = some u → w.cell? (ad.add j) = some u) (hlen : xs.length + m ≤ 1000000) (hbase : base ≤ w.heap.size)
  (h : ∀ v' w', sr.OwnS base w' v' (xs ++ ys) → w.grownBy w' v.ownBlock → (v'.ownBlock = v.ownBlock ∨ v'.ownBlock = some w.heap.size) → wpList Tryz.prog ops Q rest (a.put o.dst v') w') : wpList Tryz.prog ops Q (o :: rest) a w := by
 obtain ⟨i0, hi, hz0, hz1, hz2⟩ := sr.info_parts sr.info9
 refine wpList_append_own_at w hgd s x 33 ho base 9 i0 _ 1 16 Tryz.underlying33 hi hz0 hz1 hz2 rfl (by omega) v xs.length (xs.map sr.strL) hs hown.1 ad m c (ys.map sr.strL) hx (by simpa using hm) hnews (sr.strL_one _) (by unfold maxLen; omega) (by omega) hbase ?_
 intro v' w' h1 h2 h3 h4
 exact h _ _ ⟨by rw [List.length_append, List.map_append, hm]; exact h1, fun e => hown.2 (h3.1 e).1⟩ h2 h4
theorem one_str (w : World) {l : List UInt8} {u : ByteArray} (h : sr.strL l = .string u) : ∀ j v, ([l].map sr.strL)[j]? = some v → (w.alloc (.cells #[.string u] 9)).cell? ((⟨w.heap.size, 0, none⟩ : Addr).add j) = some v := by
 rw [List.map_singleton, h]
 exact one_new w _ 9
theorem own_zeroS (w : World) : sr.OwnS w.heap.size (w.alloc (.cells #[] 9)) (.slice (some ⟨w.heap.size, 0, none⟩) 0 0) [] := ⟨sr.own_zero w, not_nil _ _ _⟩
theorem OwnS.bel {B : Nat} {w w' : World} {v : Value} {xs : List (List UInt8)} (h : sr.OwnS B w v xs) (hb : Below w.heap.size w w') : sr.OwnS B w' v xs := ⟨own_below h.1 hb, h.2⟩
end Go.Proofs.YtcpmgellfaeejaaGreatDoor.sv

namespace Go.Proofs.YtcpmgellfaeejaaGreatDoor.tt
open Go.ChangeShapes Go.WideShapes Go.ChangeAt Go.RowKit Go.Deep
set_option linter.unusedVariables false
set_option linter.unusedSimpArgs false
theorem bytes_ext (s : ByteArray) (a b : Nat) : (s.extract a b).data.toList = (s.data.toList.drop a).take (b - a) := by
 simp [ByteArray.data_extract, List.take_drop]
theorem drop_one {s : ByteArray} {pos : Nat} (h : pos < s.size) : s.data.toList.drop pos = s[pos] :: s.data.toList.drop (pos + 1) := by
 rw [List.drop_eq_getElem_cons (by simpa using h)]
 rfl
theorem ext_more {s : ByteArray} {a i : Nat} (ha : a ≤ i) (hi : i < s.size) : (s.extract a (i + 1)).data.toList = (s.extract a i).data.toList ++ [s[i]] := by
 rw [bytes_ext, bytes_ext, show i + 1 - a = (i - a) + 1 by omega, List.take_add, List.drop_drop, show a + (i - a) = i by omega, drop_one hi]
 rfl
theorem name_ext (s : ByteArray) (a b : Nat) : nm.nameB (s.extract a b) = nameL (s.extract a b).data.toList := by
 unfold nameL
 congr 1
theorem strL_b (B : ByteArray) : sr.strL B.data.toList = .string B := sr.strL_of B
set_option maxHeartbeats 4000000 in
set_option maxRecDepth 100000 in
theorem names_any (s : ByteArray) (hs : s.size ≤ 1048576) (w : World) :
  Calls Tryz.prog 120 #[.string s] w fun e w' => (∃ v, e = .returned (.tuple #[v, .bool (pOk s)])) ∧ Below w.heap.size w w' := by
 have hz : s.data.toList.length = s.size := by simp
 have HO0 : Hid (sr.OwnS w.heap.size (w.alloc (.cells #[] 9)) (.slice (some ⟨w.heap.size, 0, none⟩) 0 0) []) := sv.own_zeroS w
 have HP0 : Hid (pOk s = pk 0 (s.extract 0 0).data.toList (s.data.toList.drop 0)) := by show _ = _; unfold pOk; rw [bytes_ext]; rfl
 obtain ⟨R, hR⟩ : ∃ R, pOk s = R := ⟨_, rfl⟩
 rw [hR] at HP0 ⊢
 clear hR
 go_enter Tryz.func120, Tryz.ntmps120
 go_wp2
 go_loopw [4, 5, 6] (fun r x y wr => ∃ (f i : Nat) (acc : List (List UInt8)), x = .int .i64 (f : Int) ∧ y = .int .i64 (i : Int) ∧ i ≤ s.size + 1 ∧ acc.length ≤ 8 ∧ sr.OwnS w.heap.size wr r acc ∧ (i ≤ s.size ∧ f ≤ i ∧ R = pk acc.length (s.extract f i).data.toList (s.data.toList.drop i) ∨ i = s.size + 1 ∧ R = true) ∧ Below w.heap.size w wr) (fun _ _ y _ => s.size + 1 - (intOf y).toNat)
 case atStart => exact ⟨0, 0, [], rfl, rfl, by omega, by simp, HO0.out, .inl ⟨by omega, Nat.le_refl _, HP0.out⟩, (Below.refl _ _).alloc (Nat.le_refl _) _⟩
 case round =>
  obtain ⟨f, i, acc, rfl, rfl, hi, hac, hown, hst, hbel⟩ := hrel
  have HOW : Hid (sr.OwnS w.heap.size wr u4 acc) := hown
  have HBE : Hid (Below w.heap.size w wr) := hbel
  obtain ⟨ra, rc, hu⟩ := own_shape hown.1
  clear hown hbel
  by_cases hend : i = s.size + 1
  ·have HE : Hid (R = true) := by
    rcases hst with ⟨h, _⟩ | ⟨_, h⟩
    ·omega
    ·exact h
   have hc : ¬ (i : Int) ≤ (s.size : Int) := by omega
   clear hst
   go_wp2
   go_ret2
   have hRR := HE.out
   subst hRR
   exact ⟨⟨_, rfl⟩, HBE.out⟩
  have hle : i ≤ s.size := by omega
  have hle' : (i : Int) ≤ (s.size : Int) := by omega
  obtain ⟨hfi, hR⟩ : f ≤ i ∧ R = pk acc.length (s.extract f i).data.toList (s.data.toList.drop i) := by
   rcases hst with ⟨_, h1, h2⟩ | ⟨h, _⟩
   ·exact ⟨h1, h2⟩
   ·omega
  have HR : Hid (R = pk acc.length (s.extract f i).data.toList (s.data.toList.drop i)) := hR
  have f0 : (0 : Int) ≤ (f : Int) := by omega
  have f1 : (f : Int) ≤ (i : Int) := by omega
  have f2 : (f : Int) ≤ (s.size : Int) := by omega
  have HNM : Hid (∀ W, Calls Tryz.prog 72 #[.string (s.extract f i)] W fun e w' => e = .returned (.bool (nameL (s.extract f i).data.toList)) ∧ w' = W) := fun W => by
   have := nm.spec_any (s.extract f i) (by simp; omega) W
   rwa [name_ext] at this
  obtain ⟨X, hX⟩ : ∃ X, s.extract f i = X := ⟨_, rfl⟩
  have HX : Hid (s.extract f i = X) := hX
  rw [hX] at HNM
  clear hst hR
  -- a piece ends
  have HSTEP : Hid (∀ b, nameL X.data.toList = b → (b && decide (acc.length < 8)) = false → (i = s.size ∨ ∃ h : i < s.size, s[i] = 47) → R = false) := fun b hb h0 h1 => by
   rw [HR.out, hX]
   rcases h1 with rfl | ⟨h, h47⟩
   ·rw [List.drop_of_length_le (by omega), pk, hb, h0]
   ·rw [drop_one h, pk, if_pos h47, hb, h0]; rfl
  by_cases hsep : i = s.size ∨ ∃ h : i < s.size, s[i] = 47
  ·cases hnb : nameL X.data.toList with
   | false =>
    rw [hnb] at HNM
    have HF : Hid (R = false) := HSTEP.out false hnb rfl hsep
    clear hnb HSTEP
    rcases hsep with rfl | ⟨hlt, h47⟩
    ·go_wp2_with (go_at_call 72; refine (HNM.out _).mono ?_; rintro e w2 ⟨rfl, hw2⟩; obtain rfl := hw2.symm; clear hw2)
     go_ret2
     have hRR := HF.out
     subst hRR
     exact ⟨⟨_, rfl⟩, HBE.out⟩
    ·have hlt' : (i : Int) < (s.size : Int) := by omega
     have hne : ¬ (i : Int) = (s.size : Int) := by omega
     have hbi : (s[i].toNat : Int) = 47 := by rw [h47]; rfl
     clear h47
     go_wp2_with (go_at_call 72; refine (HNM.out _).mono ?_; rintro e w2 ⟨rfl, hw2⟩; obtain rfl := hw2.symm; clear hw2)
     go_ret2
     have hRR := HF.out
     subst hRR
     exact ⟨⟨_, rfl⟩, HBE.out⟩
   | true =>
    rw [hnb] at HNM
    by_cases hc8 : acc.length = 8
    ·have hc8' : (acc.length : Int) = 8 := by omega
     have HF : Hid (R = false) := HSTEP.out true hnb (by simp; omega) hsep
     subst hu
     clear hnb HSTEP
     rcases hsep with rfl | ⟨hlt, h47⟩
     ·go_wp2_with (go_at_call 72; refine (HNM.out _).mono ?_; rintro e w2 ⟨rfl, hw2⟩; obtain rfl := hw2.symm; clear hw2)
      go_ret2
      have hRR := HF.out
      subst hRR
      exact ⟨⟨_, rfl⟩, HBE.out⟩
     ·have hlt' : (i : Int) < (s.size : Int) := by omega
      have hne : ¬ (i : Int) = (s.size : Int) := by omega
      have hbi : (s[i].toNat : Int) = 47 := by rw [h47]; rfl
      clear h47
      go_wp2_with (go_at_call 72; refine (HNM.out _).mono ?_; rintro e w2 ⟨rfl, hw2⟩; obtain rfl := hw2.symm; clear hw2)
      go_ret2
      have hRR := HF.out
      subst hRR
      exact ⟨⟨_, rfl⟩, HBE.out⟩
    ·have hc8' : ¬ (acc.length : Int) = 8 := by omega
     have hc7 : acc.length < 8 := by omega
     have HNX : Hid (nameL X.data.toList = true) := hnb
     subst hu
     clear hnb HSTEP hc8
     rcases hsep with rfl | ⟨hlt, h47⟩
     ·have HN : Hid (R = true) := by
       show _ = _
       rw [HR.out, HX.out, List.drop_of_length_le (by omega), pk, HNX.out]
       simpa using hc7
      go_wp2_with (first
       | (go_at_call 72; refine (HNM.out _).mono ?_; rintro e w2 ⟨rfl, hw2⟩; obtain rfl := hw2.symm; clear hw2)
       | (at_builtin; refine sv.app_text _ rfl _ _ rfl w.heap.size _ acc rfl ⟨HOW.out.1.alloc _, HOW.out.2⟩ ⟨_, 0, none⟩ 1 1 [X.data.toList] rfl rfl (sv.one_str _ (strL_b X)) (by omega) (by have := HBE.out.size; simp; omega) ?_; intro v4 w4 hown4 hg4 hat4; have HB4 : Hid (Below w.heap.size w w4) := below_grown (HBE.out.alloc HBE.out.size _) (HOW.out.1.alloc _) hg4 (by have := HBE.out.size; simp; omega); clear hg4 hat4)
       | go_in)
      go_roundw
      case rel => exact ⟨s.size + 1, s.size + 1, acc ++ [X.data.toList], by go_num, by go_num, by omega, by simp; omega, hown4, .inr ⟨rfl, HN.out⟩, HB4.out⟩
      case measure => simp [intOf]
     ·have hlt' : (i : Int) < (s.size : Int) := by omega
      have hne : ¬ (i : Int) = (s.size : Int) := by omega
      have hbi : (s[i].toNat : Int) = 47 := by rw [h47]; rfl
      have HN : Hid (R = pk (acc ++ [X.data.toList]).length (s.extract (i + 1) (i + 1)).data.toList (s.data.toList.drop (i + 1))) := by
       show _ = _
       rw [HR.out, HX.out, drop_one hlt, pk, if_pos h47, HNX.out, bytes_ext s (i + 1) (i + 1)]
       simp [hc7]
      clear h47
      go_wp2_with (first
       | (go_at_call 72; refine (HNM.out _).mono ?_; rintro e w2 ⟨rfl, hw2⟩; obtain rfl := hw2.symm; clear hw2)
       | (at_builtin; refine sv.app_text _ rfl _ _ rfl w.heap.size _ acc rfl ⟨HOW.out.1.alloc _, HOW.out.2⟩ ⟨_, 0, none⟩ 1 1 [X.data.toList] rfl rfl (sv.one_str _ (strL_b X)) (by omega) (by have := HBE.out.size; simp; omega) ?_; intro v4 w4 hown4 hg4 hat4; have HB4 : Hid (Below w.heap.size w w4) := below_grown (HBE.out.alloc HBE.out.size _) (HOW.out.1.alloc _) hg4 (by have := HBE.out.size; simp; omega); clear hg4 hat4)
       | go_in)
      go_roundw
      case rel => exact ⟨i + 1, i + 1, acc ++ [X.data.toList], by go_num, by go_num, by omega, by simp; omega, hown4, .inl ⟨by omega, Nat.le_refl _, HN.out⟩, HB4.out⟩
      case measure => simp [intOf]; omega
  ·have hlt : i < s.size := by
    rcases Nat.lt_or_ge i s.size with h | h
    ·exact h
    ·exact absurd (.inl (by omega)) hsep
   have h47 : ¬ s[i] = 47 := fun e => hsep (.inr ⟨hlt, e⟩)
   have hlt' : (i : Int) < (s.size : Int) := by omega
   have hne : ¬ (i : Int) = (s.size : Int) := by omega
   have hbn : ¬ s[i].toNat = 47 := fun e => h47 (UInt8.toNat.inj e)
   have hbi : ¬ (s[i].toNat : Int) = 47 := by omega
   have hbb : ((s[i].toNat : Int) == 47) = false := by simpa using hbi
   have HN : Hid (R = pk acc.length (s.extract f (i + 1)).data.toList (s.data.toList.drop (i + 1))) := by
    show _ = _
    rw [HR.out, drop_one hlt, pk, if_neg h47, ext_more hfi hlt]
   subst hu
   clear h47 hbn hsep HSTEP hX
   go_wp2
   go_roundw
   case rel => exact ⟨f, i + 1, acc, by first | rfl | trivial, by go_num, by omega, hac, HOW.out, .inl ⟨by omega, by omega, HN.out⟩, HBE.out⟩
   case measure => simp [intOf]; omega
end Go.Proofs.YtcpmgellfaeejaaGreatDoor.tt

namespace Go.Proofs.YtcpmgellfaeejaaGreatDoor.tt
open Go.ChangeShapes Go.WideShapes Go.ChangeAt Go.RowKit Go.Deep
set_option linter.unusedVariables false
set_option linter.unusedSimpArgs false
theorem emp_size {d : ByteArray} : d.toList.isEmpty = decide (d.size = 0) := by
 have hz : d.data.toList.length = d.size := by simp
 rw [ByteArray.toList_eq]
 cases h : d.data.toList with
 | nil => rw [h] at hz; simp at hz; simp [← hz]
 | cons a l =>
  have hne : ¬ d.size = 0 := by rw [h, List.length_cons] at hz; omega
  simp [hne]
def eV (e : En) : Value := .agg #[.string e.path, .int .i64 e.kind, .string e.data, .bool e.exec]
set_option maxHeartbeats 4000000 in
set_option maxRecDepth 100000 in
theorem entry_any (e : En) (hp : e.path.size ≤ 1048576) (hd : e.data.size ≤ 1048576) (w : World) :
  Calls Tryz.prog 73 #[eV e] w fun r w' => r = .returned (.bool (eOk e)) ∧ Below w.heap.size w w' := by
 obtain ⟨p, k, d, x⟩ := e
 unfold eV
 simp only at hp hd ⊢
 have HNM : Hid (∀ W, Calls Tryz.prog 120 #[.string p] W fun e w' => (∃ v, e = .returned (.tuple #[v, .bool (pOk p)])) ∧ Below W.heap.size W w') := fun W => names_any p hp W
 obtain ⟨R, hR⟩ : ∃ R, eOk ⟨p, k, d, x⟩ = R := ⟨_, rfl⟩
 have HR : Hid (R = (pOk p && cOk ⟨p, k, d, x⟩)) := by show _ = _; rw [← hR]; rfl
 have HEM : Hid (d.toList.isEmpty = decide (d.size = 0)) := emp_size
 rw [hR]
 have B0 : Below w.heap.size w (w.alloc (.cells #[.string p, .int .i64 k, .string d, .bool x] 73)) := (Below.refl _ _).alloc (Nat.le_refl _) _
 have HB0 : Hid (Below w.heap.size w (w.alloc (.cells #[.string p, .int .i64 k, .string d, .bool x] 73))) := B0
 have HCC : Hid (∀ W : World, Below (w.alloc (.cells #[.string p, .int .i64 k, .string d, .bool x] 73)).heap.size (w.alloc (.cells #[.string p, .int .i64 k, .string d, .bool x] 73)) W → W.cell? ⟨w.heap.size, 1, none⟩ = some (.int .i64 k) ∧ W.cell? ⟨w.heap.size, 2, none⟩ = some (.string d) ∧ W.cell? ⟨w.heap.size, 3, none⟩ = some (.bool x)) := fun W hb => by
  refine ⟨(hb.cell (p := ⟨w.heap.size, 1, none⟩) (by simp)).trans (by simp [go_sem]), (hb.cell (p := ⟨w.heap.size, 2, none⟩) (by simp)).trans (by simp [go_sem]), (hb.cell (p := ⟨w.heap.size, 3, none⟩) (by simp)).trans (by simp [go_sem])⟩
 clear hR B0
 cases hpk : pOk p with
 | false =>
  rw [hpk] at HNM HR
  clear hpk
  go_enter Tryz.func73, Tryz.ntmps73
  go_wp2_with (go_at_call 120; refine (HNM.out _).mono ?_; rintro e w2 ⟨⟨v2, rfl⟩, hl2⟩; obtain ⟨c1, c2, c3⟩ := HCC.out w2 hl2)
  go_ret
  exact ⟨by rw [HR.out]; rfl, HB0.out.trans (hl2.mono (by simp))⟩
 | true =>
  rw [hpk] at HNM HR
  clear hpk
  by_cases hbig : 20000 < d.size
  ·have hbig' : (20000 : Int) < (d.size : Int) := by omega
   have HF : Hid (R = false) := by show _ = _; rw [HR.out]; unfold cOk; simp; omega
   go_enter Tryz.func73, Tryz.ntmps73
   go_wp2_with (go_at_call 120; refine (HNM.out _).mono ?_; rintro e w2 ⟨⟨v2, rfl⟩, hl2⟩; obtain ⟨c1, c2, c3⟩ := HCC.out w2 hl2)
   go_ret
   exact ⟨by rw [HF.out]; first | done | rfl, HB0.out.trans (hl2.mono (by simp))⟩
  have hbig' : ¬ (20000 : Int) < (d.size : Int) := by omega
  have hsm : decide (d.size ≤ 20000) = true := by simpa using (by omega : d.size ≤ 20000)
  have HC : Hid (R = (if k = 1 then decide (d.size = 0) && !x else if k = 2 then true else decide (k = 3) && !decide (d.size = 0) && !x)) := by show _ = _; rw [HR.out]; unfold cOk; simp [hsm]
  clear HR hsm
  cases hem : d.toList.isEmpty with
  | true =>
   have hz : d.size = 0 := by have := HEM.out; rw [hem] at this; simpa using this.symm
   have HZ : Hid (d.size = 0) := hz
   clear hz HEM hbig
   by_cases k1 : k = 1
   ·subst k1
    cases x <;> (
     go_enter Tryz.func73, Tryz.ntmps73
     go_wp2_with (go_at_call 120; refine (HNM.out _).mono ?_; rintro e w2 ⟨⟨v2, rfl⟩, hl2⟩; obtain ⟨c1, c2, c3⟩ := HCC.out w2 hl2)
     go_ret
     exact ⟨by rw [HC.out, HZ.out]; rfl, HB0.out.trans (hl2.mono (by simp))⟩)
   ·by_cases k2 : k = 2
    ·subst k2
     go_enter Tryz.func73, Tryz.ntmps73
     go_wp2_with (go_at_call 120; refine (HNM.out _).mono ?_; rintro e w2 ⟨⟨v2, rfl⟩, hl2⟩; obtain ⟨c1, c2, c3⟩ := HCC.out w2 hl2)
     go_ret
     exact ⟨by rw [HC.out]; rfl, HB0.out.trans (hl2.mono (by simp))⟩
    ·by_cases k3 : k = 3
     ·subst k3
      go_enter Tryz.func73, Tryz.ntmps73
      go_wp2_with (go_at_call 120; refine (HNM.out _).mono ?_; rintro e w2 ⟨⟨v2, rfl⟩, hl2⟩; obtain ⟨c1, c2, c3⟩ := HCC.out w2 hl2)
      go_ret
      exact ⟨by rw [HC.out, HZ.out]; rfl, HB0.out.trans (hl2.mono (by simp))⟩
     ·have HF : Hid (R = false) := by show _ = _; rw [HC.out, if_neg k1, if_neg k2]; simp [k3]
      clear HC
      go_enter Tryz.func73, Tryz.ntmps73
      go_wp2_with (go_at_call 120; refine (HNM.out _).mono ?_; rintro e w2 ⟨⟨v2, rfl⟩, hl2⟩; obtain ⟨c1, c2, c3⟩ := HCC.out w2 hl2)
      go_ret
      exact ⟨by rw [HF.out]; first | done | rfl, HB0.out.trans (hl2.mono (by simp))⟩
  | false =>
   have hz : decide (d.size = 0) = false := by have := HEM.out; rw [hem] at this; exact this.symm
   have HZ : Hid (decide (d.size = 0) = false) := hz
   clear hz HEM hbig
   by_cases k1 : k = 1
   ·subst k1
    go_enter Tryz.func73, Tryz.ntmps73
    go_wp2_with (go_at_call 120; refine (HNM.out _).mono ?_; rintro e w2 ⟨⟨v2, rfl⟩, hl2⟩; obtain ⟨c1, c2, c3⟩ := HCC.out w2 hl2)
    go_ret
    exact ⟨by rw [HC.out, HZ.out]; rfl, HB0.out.trans (hl2.mono (by simp))⟩
   ·by_cases k2 : k = 2
    ·subst k2
     go_enter Tryz.func73, Tryz.ntmps73
     go_wp2_with (go_at_call 120; refine (HNM.out _).mono ?_; rintro e w2 ⟨⟨v2, rfl⟩, hl2⟩; obtain ⟨c1, c2, c3⟩ := HCC.out w2 hl2)
     go_ret
     exact ⟨by rw [HC.out]; rfl, HB0.out.trans (hl2.mono (by simp))⟩
    ·by_cases k3 : k = 3
     ·subst k3
      cases x <;> (
       go_enter Tryz.func73, Tryz.ntmps73
       go_wp2_with (go_at_call 120; refine (HNM.out _).mono ?_; rintro e w2 ⟨⟨v2, rfl⟩, hl2⟩; obtain ⟨c1, c2, c3⟩ := HCC.out w2 hl2)
       go_ret
       exact ⟨by rw [HC.out, HZ.out]; rfl, HB0.out.trans (hl2.mono (by simp))⟩)
     ·have HF : Hid (R = false) := by show _ = _; rw [HC.out, if_neg k1, if_neg k2]; simp [k3]
      clear HC
      go_enter Tryz.func73, Tryz.ntmps73
      go_wp2_with (go_at_call 120; refine (HNM.out _).mono ?_; rintro e w2 ⟨⟨v2, rfl⟩, hl2⟩; obtain ⟨c1, c2, c3⟩ := HCC.out w2 hl2)
      go_ret
      exact ⟨by rw [HF.out]; first | done | rfl, HB0.out.trans (hl2.mono (by simp))⟩
theorem at_byte {s : ByteArray} {i : Nat} (h : i < s.size) : s.data.toList[i]? = some s[i] := by
 rw [List.getElem?_eq_getElem (by simpa using h)]
 rfl
theorem take_ext {s : ByteArray} {i : Nat} (h : i ≤ s.size) : s.extract 0 i = ⟨(s.data.toList.take i).toArray⟩ := by
 apply ByteArray.ext
 apply Array.toList_inj.1
 rw [bytes_ext]
 simp
set_option maxHeartbeats 2000000 in
set_option maxRecDepth 100000 in
theorem up_any (s : ByteArray) (hs : s.size ≤ 1048576) (w : World) :
  Calls Tryz.prog 74 #[.string s] w fun e w' => e = .returned (.string ⟨(up s.data.toList).toArray⟩) ∧ Below w.heap.size w w' := by
 have hz : s.data.toList.length = s.size := by simp
 go_enter Tryz.func74, Tryz.ntmps74
 go_wp2
 go_loopw [3] (fun x wr => ∃ k : Nat, k ≤ s.size ∧ x = .int .i64 ((k : Int) - 1) ∧ (∀ j : Nat, k ≤ j → s.data.toList[j]? ≠ some (47 : UInt8)) ∧ wr = w) (fun x _ => (intOf x + 1).toNat)
 case atStart => exact ⟨s.size, Nat.le_refl _, by go_num, fun j hj => by rw [List.getElem?_eq_none (by omega)]; simp, rfl⟩
 case round =>
  obtain ⟨k, hk, rfl, hno, rfl⟩ := hrel
  have HNO : Hid (∀ j : Nat, k ≤ j → s.data.toList[j]? ≠ some (47 : UInt8)) := hno
  clear hno
  by_cases hk0 : k = 0
  ·have HU : Hid (up s.data.toList = []) := by
    show _ = _
    unfold up
    rw [lst_no (fun j => HNO.out j (by omega))]
   subst hk0
   go_wp2
   go_ret
   exact ⟨by rw [HU.out]; first | done | rfl, Below.refl _ _⟩
  ·obtain ⟨K, rfl⟩ : ∃ K, k = K + 1 := ⟨k - 1, by omega⟩
   have hK1 : ((K + 1 : Nat) : Int) - 1 = (K : Int) := by omega
   have hK0 : (0 : Int) ≤ (K : Int) := by omega
   have hK2 : (K : Int) < (s.size : Int) := by omega
   have hK3 : (K : Int) ≤ (s.size : Int) := by omega
   have hlt : K < s.size := by omega
   rw [hK1]
   by_cases h47 : s[K] = 47
   ·have hbi : (s[K].toNat : Int) = 47 := by rw [h47]; rfl
    have HU : Hid (up s.data.toList = s.data.toList.take K) := by
     show _ = _
     unfold up
     rw [lst_of (i := K) (by rw [at_byte hlt, h47]) (fun j hj => HNO.out j (by omega))]
    have HE : Hid (s.extract 0 K = ⟨(s.data.toList.take K).toArray⟩) := take_ext (by omega)
    clear h47
    go_wp2
    go_ret
    exact ⟨by rw [HU.out, ← HE.out]; first | done | rfl, Below.refl _ _⟩
   ·have hbn : ¬ s[K].toNat = 47 := fun e => h47 (UInt8.toNat.inj e)
    have hbi : ¬ (s[K].toNat : Int) = 47 := by omega
    have hbb : ((s[K].toNat : Int) == 47) = false := by simpa using hbi
    have HN : Hid (∀ j : Nat, K ≤ j → s.data.toList[j]? ≠ some (47 : UInt8)) := fun j hj e => by
     rcases Nat.lt_or_ge K j with h | h
     ·exact HNO.out j h e
     ·obtain rfl : j = K := by omega
      rw [at_byte hlt] at e
      exact h47 (Option.some.inj e)
    clear h47 hbn
    go_wp2
    go_roundw
    case rel => exact ⟨K, by omega, by first | rfl | go_num, HN.out, by first | rfl | trivial⟩
    case measure => simp [intOf] <;> omega
end Go.Proofs.YtcpmgellfaeejaaGreatDoor.tt

namespace Go.Proofs.YtcpmgellfaeejaaGreatDoor.tt
open Go.ChangeShapes Go.WideShapes Go.ChangeAt Go.RowKit Go.Deep
set_option linter.unusedVariables false
set_option linter.unusedSimpArgs false
theorem bl (x y : ByteArray) : Op.bytesLess x.toList y.toList = decide (x.data.toList < y.data.toList) := by rw [ByteArray.toList_eq, ByteArray.toList_eq, Go.Proofs.bytesLess_eq]
def N4 (w : World) (b o : Nat) (e : En) : Prop := w.cell? ⟨b, o, none⟩ = some (.string e.path) ∧ w.cell? ⟨b, o + 1, none⟩ = some (.int .i64 e.kind) ∧ w.cell? ⟨b, o + 2, none⟩ = some (.string e.data) ∧ w.cell? ⟨b, o + 3, none⟩ = some (.bool e.exec)
theorem N4.below {w w' : World} {b o : Nat} {e : En} (h : N4 w b o e) (hb : Below w.heap.size w w') : N4 w' b o e := by
 have hlt : b < w.heap.size := World.block_lt_of_cell? _ _ h.1
 exact ⟨(hb.cell (p := ⟨b, _, none⟩) hlt).trans h.1, (hb.cell (p := ⟨b, _, none⟩) hlt).trans h.2.1, (hb.cell (p := ⟨b, _, none⟩) hlt).trans h.2.2.1, (hb.cell (p := ⟨b, _, none⟩) hlt).trans h.2.2.2⟩
def EnR (w : World) (b o n : Nat) (E : Nat → En) : Prop := ∀ i, i < n → N4 w b (o + i * 4) (E i)
theorem EnR.below {w w' : World} {b o n : Nat} {E : Nat → En} (h : EnR w b o n E) (hb : Below w.heap.size w w') : EnR w' b o n E := fun i hi => (h i hi).below hb
def SmE (n : Nat) (E : Nat → En) : Prop := ∀ i, i < n → (E i).path.size ≤ 1048576 ∧ (E i).data.size ≤ 1048576
noncomputable def dirB (E : Nat → En) (n : Nat) (p : List UInt8) : Bool := @decide (Dir E n p) (Classical.propDecidable _)
theorem dirB_yes {E : Nat → En} {n : Nat} {p : List UInt8} (h : Dir E n p) : dirB E n p = true := by unfold dirB; exact @decide_eq_true _ (Classical.propDecidable _) h
theorem dirB_no {E : Nat → En} {n : Nat} {p : List UInt8} (h : ¬ Dir E n p) : dirB E n p = false := by unfold dirB; exact @decide_eq_false _ (Classical.propDecidable _) h
theorem dirB_iff {E : Nat → En} {n : Nat} {p : List UInt8} : dirB E n p = true ↔ Dir E n p := by unfold dirB; exact @decide_eq_true_iff _ (Classical.propDecidable _)
noncomputable def treeB (E : Nat → En) (n : Nat) : Bool := @decide (n ≤ 500 ∧ Tr E n) (Classical.propDecidable _)
theorem treeB_yes {E : Nat → En} {n : Nat} (h : n ≤ 500) (h2 : Tr E n) : treeB E n = true := by unfold treeB; exact @decide_eq_true _ (Classical.propDecidable _) ⟨h, h2⟩
theorem treeB_no {E : Nat → En} {n : Nat} (h : ¬ (n ≤ 500 ∧ Tr E n)) : treeB E n = false := by unfold treeB; exact @decide_eq_false _ (Classical.propDecidable _) h
def Fnd (E : Nat → En) (n : Nat) (p : List UInt8) (r : Int) : Prop := (∃ j : Nat, j < n ∧ pth E j = p ∧ r = (j : Int)) ∨ (∀ j, j < n → pth E j ≠ p) ∧ r = -1
set_option maxHeartbeats 4000000 in
set_option maxRecDepth 100000 in
theorem find_any (E : Nat → En) (b o n cap : Nat) (q : ByteArray) (w : World) (hR : EnR w b o n E) (hA : Asc E n) (hn : n ≤ 1048576) (hcap : n ≤ cap) :
  Calls Tryz.prog 93 #[.slice (some ⟨b, o, none⟩) n cap, .string q] w fun e w' => (∃ r : Int, e = .returned (.int .i64 r) ∧ Fnd E n q.data.toList r) ∧ Below w.heap.size w w' := by
 have HR : Hid (EnR w b o n E) := hR
 have HA : Hid (Asc E n) := hA
 clear hR hA
 go_enter Tryz.func93, Tryz.ntmps93
 go_wp2
 go_loopw [5, 6, 7] (fun x y _ wr => ∃ lo hi : Nat, x = .int .i64 (lo : Int) ∧ y = .int .i64 (hi : Int) ∧ lo ≤ hi ∧ hi ≤ n ∧ (∀ j, j < lo → pth E j < q.data.toList) ∧ (∀ j, hi ≤ j → j < n → ¬ pth E j < q.data.toList) ∧ wr = w) (fun x y _ _ => (intOf y - intOf x).toNat)
 case atStart => exact ⟨0, n, rfl, rfl, Nat.zero_le _, Nat.le_refl _, fun j h => by omega, fun j h h2 => by omega, rfl⟩
 case round =>
  obtain ⟨lo, hi, rfl, rfl, hlh, hhn, h1, h2, rfl⟩ := hrel
  have H1 : Hid (∀ j, j < lo → pth E j < q.data.toList) := h1
  have H2 : Hid (∀ j, hi ≤ j → j < n → ¬ pth E j < q.data.toList) := h2
  clear h1 h2
  by_cases hl : lo < hi
  ·have hl' : (lo : Int) < (hi : Int) := by omega
   obtain ⟨m, hm⟩ : ∃ m : Nat, (lo + hi) / 2 = m := ⟨_, rfl⟩
   have hm1 : lo ≤ m := by omega
   have hm2 : m < hi := by omega
   have hmi : ((lo : Int) + (hi : Int)).tdiv 2 = (m : Int) := by rw [Int.tdiv_eq_ediv_of_nonneg (by omega)]; omega
   have hmi2 : ((lo : Int) + (hi : Int)) / 2 = (m : Int) := by omega
   have hm0 : (0 : Int) ≤ (m : Int) := by omega
   have hmn : (m : Int) < (n : Int) := by omega
   obtain ⟨c0, -, -, -⟩ := HR.out m (by omega)
   obtain ⟨M, hM⟩ : ∃ M, (E m).path = M := ⟨_, rfl⟩
   have hpm : pth E m = M.data.toList := by unfold pth; rw [hM]
   rw [hM] at c0
   have HPM : Hid (pth E m = M.data.toList) := hpm
   clear hm hM hpm
   by_cases hlt : M.data.toList < q.data.toList
   ·have hbl : Op.bytesLess M.toList q.toList = true := by rw [bl]; simpa using hlt
    have HN : Hid (∀ j, j < m + 1 → pth E j < q.data.toList) := fun j hj => by
     rcases Nat.lt_or_ge j m with h | h
     ·exact List.lt_trans (HA.out j m h (by omega)) (by rw [HPM.out]; exact hlt)
     ·obtain rfl : j = m := by omega
      rw [HPM.out]; exact hlt
    clear hlt
    go_wp2
    go_roundw
    case rel => exact ⟨m + 1, hi, by go_num, by first | rfl | trivial, by omega, hhn, HN.out, H2.out, by first | rfl | trivial⟩
    case measure => simp [intOf] <;> omega
   ·have hbl : Op.bytesLess M.toList q.toList = false := by rw [bl]; simpa using hlt
    have HN : Hid (∀ j, m ≤ j → j < n → ¬ pth E j < q.data.toList) := fun j hj hj2 h => by
     rcases Nat.lt_or_ge m j with h' | h'
     ·exact hlt (by rw [← HPM.out]; exact List.lt_trans (HA.out m j h' hj2) h)
     ·obtain rfl : j = m := by omega
      exact hlt (by rw [← HPM.out]; exact h)
    clear hlt
    go_wp2
    go_roundw
    case rel => exact ⟨lo, m, by first | rfl | trivial, by first | rfl | trivial | go_num, by omega, by omega, H1.out, HN.out, by first | rfl | trivial⟩
    case measure => simp [intOf] <;> omega
  ·have hl' : ¬ (lo : Int) < (hi : Int) := by omega
   obtain rfl : lo = hi := by omega
   by_cases hln : lo < n
   ·have hln' : (lo : Int) < (n : Int) := by omega
    have hl0 : (0 : Int) ≤ (lo : Int) := by omega
    obtain ⟨c0, -, -, -⟩ := HR.out lo hln
    obtain ⟨M, hM⟩ : ∃ M, (E lo).path = M := ⟨_, rfl⟩
    have HPM : Hid (pth E lo = M.data.toList) := by show _ = _; unfold pth; rw [hM]
    rw [hM] at c0
    clear hM
    by_cases he : M = q
    ·subst he
     go_wp2
     go_ret
     exact ⟨⟨_, rfl, .inl ⟨lo, hln, HPM.out, rfl⟩⟩, Below.refl _ _⟩
    ·have heb : (M.toList == q.toList) = false := by simpa [ByteArray.toList_eq] using fun e => he (ByteArray.ext (Array.toList_inj.1 e))
     have HF : Hid (∀ j, j < n → pth E j ≠ q.data.toList) := fun j hj e => by
      rcases Nat.lt_trichotomy j lo with h | h | h
      ·exact List.lt_irrefl _ (by have := H1.out j h; rwa [e] at this)
      ·subst h
       rw [HPM.out] at e
       exact he (ByteArray.ext (Array.toList_inj.1 e))
      ·exact H2.out lo (Nat.le_refl _) hln (by rw [← e]; exact HA.out lo j h hj)
     clear he
     go_wp2
     go_ret
     exact ⟨⟨_, rfl, .inr ⟨HF.out, rfl⟩⟩, Below.refl _ _⟩
   ·have hln' : ¬ (lo : Int) < (n : Int) := by omega
    have HF : Hid (∀ j, j < n → pth E j ≠ q.data.toList) := fun j hj e => List.lt_irrefl _ (by have := H1.out j (by omega); rwa [e] at this)
    go_wp2
    go_ret
    exact ⟨⟨_, rfl, .inr ⟨HF.out, rfl⟩⟩, Below.refl _ _⟩
set_option maxHeartbeats 2000000 in
set_option maxRecDepth 100000 in
theorem dir_any (E : Nat → En) (b o n cap : Nat) (q : ByteArray) (w : World) (hR : EnR w b o n E) (hA : Asc E n) (hn : n ≤ 1048576) (hcap : n ≤ cap) :
  Calls Tryz.prog 75 #[.slice (some ⟨b, o, none⟩) n cap, .string q] w fun e w' => e = .returned (.bool (dirB E n q.data.toList)) ∧ Below w.heap.size w w' := by
 have HFI : Hid (Calls Tryz.prog 93 #[.slice (some ⟨b, o, none⟩) n cap, .string q] w fun e w' => (∃ r : Int, e = .returned (.int .i64 r) ∧ Fnd E n q.data.toList r) ∧ Below w.heap.size w w') := find_any E b o n cap q w hR hA hn hcap
 have HR : Hid (EnR w b o n E) := hR
 have HA : Hid (Asc E n) := hA
 clear hR hA
 go_enter Tryz.func75, Tryz.ntmps75
 go_wp2_with (go_at_call 93; refine HFI.out.mono ?_; rintro e w1 ⟨⟨r, rfl, hf⟩, hl1⟩; refine Hid.out ?_)
 refine Lib.hid ?_
 rcases hf with ⟨j, hj, hp, rfl⟩ | ⟨hno, rfl⟩
 ·have hj0 : (0 : Int) ≤ (j : Int) := by omega
  have hjn : (j : Int) < (n : Int) := by omega
  obtain ⟨-, c1, -, -⟩ := (HR.out j hj).below hl1
  have HD : Hid ((E j).kind = 1 ↔ Dir E n q.data.toList) := ⟨fun h => ⟨j, hj, hp, h⟩, fun ⟨i, hi, hpi, hk⟩ => by
   rcases Nat.lt_trichotomy i j with h | h | h
   ·exact absurd (HA.out i j h hj) (by rw [hpi, hp]; exact List.lt_irrefl _)
   ·rw [← h]; exact hk
   ·exact absurd (HA.out j i h hi) (by rw [hpi, hp]; exact List.lt_irrefl _)⟩
  obtain ⟨k, hk⟩ : ∃ k, (E j).kind = k := ⟨_, rfl⟩
  rw [hk] at c1 HD
  clear hp hk
  by_cases hk1 : k = 1
  ·have HD2 : Hid (Dir E n q.data.toList) := HD.out.1 hk1
   subst hk1
   go_wp2
   go_ret
   exact ⟨by rw [dirB_yes HD2.out]; first | done | rfl, hl1⟩
  ·have HD2 : Hid (¬ Dir E n q.data.toList) := fun h => hk1 (HD.out.2 h)
   go_wp2
   go_ret
   exact ⟨by rw [dirB_no HD2.out]; first | done | rfl | simp [hk1], hl1⟩
 ·have HD2 : Hid (¬ Dir E n q.data.toList) := fun ⟨i, hi, hpi, _⟩ => hno i hi hpi
  clear hno
  go_wp2
  go_ret
  exact ⟨by rw [dirB_no HD2.out]; first | done | rfl, hl1⟩
end Go.Proofs.YtcpmgellfaeejaaGreatDoor.tt

namespace Go.Proofs.YtcpmgellfaeejaaGreatDoor.tt
open Go.ChangeShapes Go.WideShapes Go.ChangeAt Go.RowKit Go.Deep
set_option linter.unusedVariables false
set_option linter.unusedSimpArgs false
theorem infoE : (Tryz.prog.info? 73).map (fun i => (i.zero, i.size, i.bytes)) = some (some (.agg #[.string ⟨#[]⟩, .int .i64 0, .string ⟨#[]⟩, .bool false]), 4, 48) := by kernel_rfl
def cellE (E : Nat → En) (j : Nat) : Value := if j % 4 = 0 then .string (E (j / 4)).path else if j % 4 = 1 then .int .i64 (E (j / 4)).kind else if j % 4 = 2 then .string (E (j / 4)).data else .bool (E (j / 4)).exec
theorem cellE0 (E : Nat → En) (k : Nat) : cellE E (k * 4) = .string (E k).path := by
 unfold cellE
 rw [if_pos (by omega), show k * 4 / 4 = k by omega]
theorem cellE1 (E : Nat → En) (k : Nat) : cellE E (k * 4 + 1) = .int .i64 (E k).kind := by
 unfold cellE
 rw [if_neg (by omega), if_pos (by omega), show (k * 4 + 1) / 4 = k by omega]
theorem cellE2 (E : Nat → En) (k : Nat) : cellE E (k * 4 + 2) = .string (E k).data := by
 unfold cellE
 rw [if_neg (by omega), if_neg (by omega), if_pos (by omega), show (k * 4 + 2) / 4 = k by omega]
theorem cellE3 (E : Nat → En) (k : Nat) : cellE E (k * 4 + 3) = .bool (E k).exec := by
 unfold cellE
 rw [if_neg (by omega), if_neg (by omega), if_neg (by omega), show (k * 4 + 3) / 4 = k by omega]
end Go.Proofs.YtcpmgellfaeejaaGreatDoor.tt
