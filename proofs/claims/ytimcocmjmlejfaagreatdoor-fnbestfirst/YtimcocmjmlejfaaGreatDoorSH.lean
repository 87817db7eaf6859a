import Derived.Test.YtimcocmjmlejfaaGreatDoorSG
import Derived.Test.YtimcocmjmlejfaaGreatDoorV1
namespace Go.Proofs.YtimcocmjmlejfaaGreatDoor.sv
open Go.ChangeShapes Go.WideShapes Go.ChangeAt Go.RowKit Go.Deep Go.Proofs.YtimcocmjmlejfaaGreatDoor.vr
set_option linter.unusedVariables false
set_option linter.unusedSimpArgs false

theorem tx_bytes (xs : List (List UInt8)) (i : Nat) : (⟨(tx xs i).toArray⟩ : ByteArray).data.toList = tx xs i := by simp

theorem vok_any {xs : List (List UInt8)} {i : Nat} (hs : (tx xs i).length ≤ 1048576) (W : World) : Calls Tryz.prog 12 #[.string ⟨(tx xs i).toArray⟩] W fun e w' => e = .returned (.bool (okP xs i)) ∧ Below W.heap.size W w' := by
  have := sok_any ⟨(tx xs i).toArray⟩ (by show (tx xs i).toArray.size ≤ _; simpa using hs) W
  rw [tx_bytes] at this
  exact this

theorem cmpX_any {xs : List (List UInt8)} {i j : Nat} (hi : okP xs i = true) (hj : okP xs j = true) (hs : (tx xs i).length ≤ 1048576) (hs2 : (tx xs j).length ≤ 1048576) (W : World) : Calls Tryz.prog 31 #[.string ⟨(tx xs i).toArray⟩, .string ⟨(tx xs j).toArray⟩] W fun e w' => e = .returned (.int .i64 (cmpP (pl xs i) (pl xs j))) ∧ Below W.heap.size W w' := by
  have := scmp_any ⟨(tx xs i).toArray⟩ ⟨(tx xs j).toArray⟩ (by show (tx xs i).toArray.size ≤ _; simpa using hs) (by show (tx xs j).toArray.size ≤ _; simpa using hs2) W
  rw [tx_bytes, tx_bytes, show cmpV (tx xs i) (tx xs j) = cmpP (pl xs i) (pl xs j) from cmpV_yes (pl_ver hi) (pl_ver hj)] at this
  exact this

theorem outS_eq {xs : List (List UInt8)} {o : List Nat} (hn : xs.length ≤ 2000) (hp : o.Perm (plc xs xs.length)) (ho : o.Pairwise (RR xs)) : o.map (tx xs) = outS xs := by
  have hp2 : (2 : Nat) ^ 11 = 2048 := by decide
  unfold outS nf
  rw [if_pos hn, sorted_one (f := 11) (by omega) hp ho]

/-- One append of texts at a step of a region that draws its order. -/
theorem step_row {base : Nat} {W : World} {ops : Array Oper} {o : Oper} {a : Act} {K : Act → World → Prop} {Q : Exit → Act → World → Prop} {E : Prop} (hgd : o.guard = none) (s x : Operand)
    (ho : o.op = .call { callee := .builtin .append, args := #[s, x], argTypes := #[24, 24] }) (v : Value) (l : List (List UInt8)) (hs : a.eval s = v) (hown : sr.OwnS base W v l) (hb : base ≤ W.heap.size) (ad : Addr) (m c : Nat) (news : List (List UInt8))
    (hx : a.eval x = .slice (some ad) m c) (hm : news.length = m) (hnews : ∀ j u, (news.map sr.strL)[j]? = some u → W.cell? (ad.add j) = some u) (hlen : l.length + m ≤ 1000000) (h : ∀ v' w', sr.OwnS base w' v' (l ++ news) → W.grownBy w' v.ownBlock → K (a.put o.dst v') w') :
    if Region.wanted o (yielded ops a.tmps) = true then Oper.wp Tryz.prog o a W K Q else E := by
  have hw : Region.wanted o (yielded ops a.tmps) = true := by simp [Region.wanted, hgd]
  rw [if_pos hw]
  obtain ⟨i0, hi, hz0, hz1, hz2⟩ := sr.info_parts sr.info9
  refine wp_append_own W s x 24 ho base 9 i0 _ 1 16 Tryz.underlying24 hi hz0 hz1 hz2 rfl (by omega) v l.length (l.map sr.strL) hs hown.1 ad m c (news.map sr.strL) hx (by simpa using hm) hnews (sr.strL_one _) (by unfold maxLen; omega) (by omega) hb ?_
  intro v' w' h1 h2 h3
  exact h _ _ ⟨by rw [List.length_append, List.map_append, hm]; exact h1, fun e => hown.2 (h3.1 e).1⟩ h2

theorem OwnSmono {B B' : Nat} {w : World} {v : Value} {xs : List (List UInt8)} (h : sr.OwnS B w v xs) (hb : B' ≤ B) : sr.OwnS B' w v xs := h.mono hb

theorem own_at1 (w : World) (o : Obj) : ((w.alloc o).alloc (.cells #[] 9)).ownsRow (w.alloc o).heap.size 9 1 (.slice (some ⟨w.heap.size + 1, 0, none⟩) 0 0) ([] : List (List UInt8)).length (([] : List (List UInt8)).map sr.strL) := by
  have := (own_zeroS (w.alloc o)).1
  rwa [show (w.alloc o).heap.size = w.heap.size + 1 by simp] at this ⊢

theorem row_take {w : World} {bb off : Nat} {xs l m : List (List UInt8)} (h : xs = l ++ m) (hc : ∀ j y, xs[j]? = some y → w.cell? ⟨bb, off + j, none⟩ = some (sr.strL y)) : ∀ j u, (l.map sr.strL)[j]? = some u → w.cell? ((⟨bb, off, none⟩ : Addr).add j) = some u := by
  intro j u hu
  rw [List.getElem?_map, Option.map_eq_some_iff] at hu
  obtain ⟨y, hy, rfl⟩ := hu
  rw [addr_add]
  refine hc j y ?_
  rw [h, List.getElem?_append_left (List.getElem?_eq_some_iff.1 hy).1]
  exact hy

theorem row_drop {w : World} {bb off k cap n : Nat} {xs l m : List (List UInt8)} (h : xs = l ++ m) (hl : l.length = k) (hcap : n ≤ cap) {a1 : Addr} (ha : (if cap = k then some (⟨bb, off, none⟩ : Addr) else some ⟨bb, off + k, none⟩) = some a1) (hc : ∀ j y, xs[j]? = some y → w.cell? ⟨bb, off + j, none⟩ = some (sr.strL y)) (hn : xs.length = n) : ∀ j u, (m.map sr.strL)[j]? = some u → w.cell? (a1.add j) = some u := by
  intro j u hu
  rw [List.getElem?_map, Option.map_eq_some_iff] at hu
  obtain ⟨y, hy, rfl⟩ := hu
  have hlt := (List.getElem?_eq_some_iff.1 hy).1
  have hlen : xs.length = k + m.length := by rw [h, List.length_append, hl]
  rw [if_neg (by omega)] at ha
  obtain rfl := Option.some.inj ha
  rw [addr_add, Nat.add_assoc]
  refine hc (k + j) y ?_
  rw [h, List.getElem?_append_right (by omega), hl, Nat.add_sub_cancel_left]
  exact hy

end Go.Proofs.YtimcocmjmlejfaaGreatDoor.sv
