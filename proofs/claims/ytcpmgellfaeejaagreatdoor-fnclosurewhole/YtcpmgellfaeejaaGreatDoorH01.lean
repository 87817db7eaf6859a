import Derived.Deep.RegionHeld3
import Derived.WalkKit
import Derived.ProofKit
import Derived.OpenShut
import Derived.Below
import Derived.WalkSpells
import Derived.WalkSmall
import Derived.WalkLawsBesides
import Derived.Deep.OwnRows
import Derived.Lib.SlBytesRow
import Derived.Lib.BufferRead
import Derived.Laws.Bits64b
import Derived.Test.YtcpmgellfaeejaaGreatDoorRows
import Derived.LaidLaws
import Derived.ChangeArms
import Derived.ChangeSame
import Derived.Deep.Slices
import Derived.Deep.RegionWith
import Derived.Lib.Hide
import Derived.Deep.QuietTactic
import Derived.BigQuiet
import Derived.Lib.ItoaLen
import Derived.Lib.Strings
import Derived.Lib.Walk
import Derived.Lib.BufferWrite
import Derived.Lib.UnsafeStr
import Derived.Laws.MakeOwn
import Derived.Sort.Walk0
namespace Go.Proofs.YtcpmgellfaeejaaGreatDoor
theorem tq {P : Program} {ops : Array Oper} {Q : Exit → Act → World → Prop} {md : Region.Mode} {S : World → Prop} {i : Nat} {oi : Oper} {v : Value} {fuel : Nat} {listed : Array Bool} {a : Act} {w : World} (hi : ops.toList[i]? = some oi)
    (hy : ∀ w, S w → (execOp a.eval oi).run P w = .ok (.value v) w) (h : wpAnyH P md ops Q S fuel (listed.setIfInBounds i true) (a.put oi.dst v) w)
    (hs : Region.noSelect ops = true := by kernel_rfl) (hf : Region.free md ops listed i = true := by kernel_rfl) (hr : (Region.ready md ops listed).contains i = true := by kernel_rfl)
    (hQ : ∀ c a w, Q (.panic c) (a.put oi.dst v) w → Q (.panic c) a w := by exact fun _ _ _ h => h) (hw : Region.wanted oi (yielded ops a.tmps) = true := by rfl) (hS : S w := by assumption) : wpAnyH P md ops Q S (fuel + 1) listed a w :=
  wpAnyH_take ((Array.getElem?_toList).symm.trans hi) hs hf hr hQ (Or.inl ⟨hw, hy⟩) hS h
theorem uq {P : Program} {ops : Array Oper} {Q : Exit → Act → World → Prop} {md : Region.Mode} {S : World → Prop} {i : Nat} {oi : Oper} {v : Value} {fuel : Nat} {listed : Array Bool} {a : Act} {w : World} (hi : ops.toList[i]? = some oi)
    (h : wpAnyH P md ops Q S fuel (listed.setIfInBounds i true) (a.put oi.dst v) w) (hy : ∀ w, S w → (execOp a.eval oi).run P w = .ok (.value v) w := by (intro w hSw; (try dsimp only at hSw); go_simp; try with_reducible rfl))
    (hs : Region.noSelect ops = true := by kernel_rfl) (hf : Region.free md ops listed i = true := by kernel_rfl) (hr : (Region.ready md ops listed).contains i = true := by kernel_rfl)
    (hQ : ∀ c a w, Q (.panic c) (a.put oi.dst v) w → Q (.panic c) a w := by exact fun _ _ _ h => h) (hw : Region.wanted oi (yielded ops a.tmps) = true := by rfl) (hS : S w := by assumption) : wpAnyH P md ops Q S (fuel + 1) listed a w :=
  wpAnyH_take ((Array.getElem?_toList).symm.trans hi) hs hf hr hQ (Or.inl ⟨hw, hy⟩) hS h
theorem sq {P : Program} {ops : Array Oper} {Q : Exit → Act → World → Prop} {md : Region.Mode} {S : World → Prop} {i : Nat} {oi : Oper} {fuel : Nat} {listed : Array Bool} {a : Act} {w : World} (hi : ops.toList[i]? = some oi)
    (h : wpAnyH P md ops Q S fuel (listed.setIfInBounds i true) (a.put oi.dst undef) w)
    (hs : Region.noSelect ops = true := by kernel_rfl) (hf : Region.free md ops listed i = true := by kernel_rfl) (hr : (Region.ready md ops listed).contains i = true := by kernel_rfl)
    (hQ : ∀ c a w, Q (.panic c) (a.put oi.dst undef) w → Q (.panic c) a w := by exact fun _ _ _ h => h) (hw : Region.wanted oi (yielded ops a.tmps) = false := by rfl) (hS : S w := by assumption) : wpAnyH P md ops Q S (fuel + 1) listed a w :=
  wpAnyH_take ((Array.getElem?_toList).symm.trans hi) hs hf hr hQ (Or.inr ⟨hw, rfl⟩) hS h
theorem cq {P : Program} {ops : Array Oper} {Q : Exit → Act → World → Prop} {md : Region.Mode} {S : World → Prop} {fuel : Nat} {listed : Array Bool} {a : Act} {w : World} {i : Nat} {o : Oper} {rs : List Nat} (ho : ops.toList[i]? = some o)
    (h : ∀ K' : Act → World → Prop, Shut (∀ a w, S w → (S w → wpAnyH P md ops Q S fuel (listed.setIfInBounds i true) a w) → K' a w) → if Region.wanted o (yielded ops a.tmps) = true then Oper.wp P o a w K' Q else K' (a.put o.dst undef) w)
    (hs : AllReadyH P md ops Q S fuel listed a w rs) : AllReadyH P md ops Q S fuel listed a w (i :: rs) := AllReadyH.cons ((Array.getElem?_toList).symm.trans ho) h hs
theorem aP : (∀ (a : Act) (i : Tmp) (v : Value), a.put (some i) v = { a with tmps := a.tmps.setIfInBounds i v }) ∧ (∀ (a : Act) (v : Value), a.put none v = a) ∧ (∀ {α : Type} (l : List α) (i : Nat) (x : α), l.toArray.setIfInBounds i x = (l.set i x).toArray) ∧ (∀ {α : Type} (x y : α) (l : List α), (x :: l).set 0 y = y :: l) ∧ (∀ {α : Type} (x : α) (l : List α) (i : Nat) (y : α), (x :: l).set (i + 1) y = x :: l.set i y) :=
  ⟨fun _ _ _ => rfl, fun _ _ => rfl, fun _ _ _ => by simp, fun _ _ _ => rfl, fun _ _ _ _ => rfl⟩
theorem wq {P : Program} {ops : Array Oper} {Q : Exit → Act → World → Prop} {S : World → Prop} {id : Nat} {a : Act} {w : World} (n : Nat) (hm : P.follows .mixedOrders = true) (hS : S w.drew)
    (h : S w.drew → wpAnyH P .any ops Q S n (Array.replicate n false) a w.drew) (hn : ops.size = n := by kernel_rfl) : (Code.region id ops true).wp P Q a w := by
  subst hn
  exact wp_region_held_drew hm hS h
theorem un {P : Program} {ops : Array Oper} {Q : Exit → Act → World → Prop} {md : Region.Mode} {S : World → Prop} (n : Nat) {oi : Oper} {v : Value} {fuel : Nat} {listed : Array Bool} {a : Act} {w : World} (hi : ops.toList[n - (fuel + 1)]? = some oi)
    (h : wpAnyH P md ops Q S fuel (listed.setIfInBounds (n - (fuel + 1)) true) (a.put oi.dst v) w) (hw : Region.wanted oi (yielded ops a.tmps) = true := by rfl) (hy : ∀ w, S w → (execOp a.eval oi).run P w = .ok (.value v) w := by (intro w hSw; (try dsimp only at hSw); go_simp; try with_reducible rfl))
    (hs : Region.noSelect ops = true := by kernel_rfl) (hf : Region.free md ops listed (n - (fuel + 1)) = true := by kernel_rfl) (hr : (Region.ready md ops listed).contains (n - (fuel + 1)) = true := by kernel_rfl)
    (hQ : ∀ c a w, Q (.panic c) (a.put oi.dst v) w → Q (.panic c) a w := by exact fun _ _ _ h => h) (hS : S w := by assumption) : wpAnyH P md ops Q S (fuel + 1) listed a w :=
  wpAnyH_take ((Array.getElem?_toList).symm.trans hi) hs hf hr hQ (Or.inl ⟨hw, hy⟩) hS h
theorem sn {P : Program} {ops : Array Oper} {Q : Exit → Act → World → Prop} {md : Region.Mode} {S : World → Prop} (n : Nat) {oi : Oper} {fuel : Nat} {listed : Array Bool} {a : Act} {w : World} (hi : ops.toList[n - (fuel + 1)]? = some oi)
    (h : wpAnyH P md ops Q S fuel (listed.setIfInBounds (n - (fuel + 1)) true) (a.put oi.dst undef) w) (hw : Region.wanted oi (yielded ops a.tmps) = false := by rfl)
    (hs : Region.noSelect ops = true := by kernel_rfl) (hf : Region.free md ops listed (n - (fuel + 1)) = true := by kernel_rfl) (hr : (Region.ready md ops listed).contains (n - (fuel + 1)) = true := by kernel_rfl)
    (hQ : ∀ c a w, Q (.panic c) (a.put oi.dst undef) w → Q (.panic c) a w := by exact fun _ _ _ h => h) (hS : S w := by assumption) : wpAnyH P md ops Q S (fuel + 1) listed a w :=
  wpAnyH_take ((Array.getElem?_toList).symm.trans hi) hs hf hr hQ (Or.inr ⟨hw, rfl⟩) hS h
theorem rq {P : Program} {ops : Array Oper} {Q : Exit → Act → World → Prop} {md : Region.Mode} {S : World → Prop} {fuel : Nat} {listed : Array Bool} {a : Act} {w : World} (i : Nat) {o : Oper} (ho : ops.toList[i]? = some o)
    (h : ∀ K' : Act → World → Prop, Shut (∀ a w, S w → (S w → wpAnyH P md ops Q S fuel (listed.setIfInBounds i true) a w) → K' a w) → if Region.wanted o (yielded ops a.tmps) = true then Oper.wp P o a w K' Q else K' (a.put o.dst undef) w)
    (hr : Region.ready md ops listed = [i] := by kernel_rfl) : wpAnyH P md ops Q S (fuel + 1) listed a w := wpAnyH_ready hr (by simp) (AllReadyH.cons ((Array.getElem?_toList).symm.trans ho) h AllReadyH.nil)
theorem dq {P : Program} {ops : Array Oper} {Q : Exit → Act → World → Prop} {md : Region.Mode} {S : World → Prop} {fuel : Nat} {listed : Array Bool} {a : Act} {w : World} (h : Q .normal a w) (hr : Region.ready md ops listed = [] := by kernel_rfl) : wpAnyH P md ops Q S fuel listed a w := wpAnyH_done hr h _
end Go.Proofs.YtcpmgellfaeejaaGreatDoor

namespace Go.Proofs.YtcpmgellfaeejaaGreatDoor
open Go.ChangeShapes Go.WideShapes Go.ChangeAt Go.RowKit Go.Deep
set_option linter.unusedVariables false
theorem ret_bool {a b : Bool} (h : a = b) : Ending.returned (.bool a) = .returned (.bool b) := by rw [h]
theorem ret_int {k : IntKind} {a b : Int} (h : a = b) : Ending.returned (.int k a) = .returned (.int k b) := by rw [h]
theorem ret_str {a b : ByteArray} (h : a = b) : Ending.returned (.string a) = .returned (.string b) := by rw [h]
theorem addr_add (b off i : Nat) : (⟨b, off, none⟩ : Addr).add i = ⟨b, off + i, none⟩ := by
 unfold Addr.add
 by_cases h : i = 0 <;> simp [h]
theorem app_own {P : Program} (w : World) {ops : Array Oper} {rest : List Oper} {o : Oper} {a : Act} {Q : Exit → Act → World → Prop} (hgd : o.guard = none) (s x : Operand) (t : TypeId)
  (ho : o.op = .call { callee := .builtin .append, args := #[s, x], argTypes := #[t, t] })
  (base : Nat) (e : TypeId) (z : Value) (bytes : Nat) (ht : P.underlying t = some (.slice e)) (hinfo : (P.info? e).map (fun i => (i.zero, i.size, i.bytes)) = some (some z, 1, bytes)) (hzs : z.cells.size = 1)
  (v : Value) (n : Nat) (xs : List Value) (hs : a.eval s = v) (hown : w.ownsRow base e 1 v n xs)
  (ad : Addr) (m c : Nat) (news : List Value) (hx : a.eval x = .slice (some ad) m c) (hl : news.length = m) (hnews : ∀ j u, news[j]? = some u → w.cell? (ad.add j) = some u) (h1 : ∀ u ∈ news, u.oneCell' = true)
  (h63 : n + m ≤ maxLen) (hbytes : (n + m) * bytes ≤ 140737488355328) (hbase : base ≤ w.heap.size)
  (h : ∀ v' w', w'.ownsRow base e 1 v' (n + m) (xs ++ news) → w.grownBy w' v.ownBlock → wpList P ops Q rest (a.put o.dst v') w') : wpList P ops Q (o :: rest) a w := by
 obtain ⟨i, hi, hzz⟩ := Option.map_eq_some_iff.1 hinfo
 simp only [Prod.mk.injEq] at hzz
 obtain ⟨hz, hsz, hb⟩ := hzz
 exact wpList_append_own w hgd s x t ho base e i z 1 bytes ht hi hz hsz hb hzs (by decide) v n xs hs hown ad m c news hx (by simpa using hl) hnews h1 h63 hbytes hbase (fun v' w' a b _ => h v' w' a b)
theorem below_grownS {w wr : World} {w' : World} {base : Nat} {e : TypeId} {size : Nat} {v : Value} {n : Nat} {xs : List Value} (hb : Below base w wr) (hown : wr.ownsRow base e size v n xs) (hg : wr.grownBy w' v.ownBlock) (hB : base ≤ wr.heap.size) : Below base w w' :=
 hb.grown hg hB (fun k hk => (hown.lt k hk).1)
theorem one_new (w : World) (u : Value) (e : TypeId) : ∀ j v, [u][j]? = some v → (w.alloc (.cells #[u] e)).cell? ((⟨w.heap.size, 0, none⟩ : Addr).add j) = some v := by
 intro j v h
 match j, h with
 | 0, h =>
  obtain rfl : u = v := by simpa using h
  simp [Addr.add]
theorem below_grown {w wr : World} {w' : World} {base : Nat} {e : TypeId} {v : Value} {n : Nat} {xs : List Value} (hb : Below base w wr) (hown : wr.ownsRow base e 1 v n xs) (hg : wr.grownBy w' v.ownBlock) (hB : base ≤ wr.heap.size) : Below base w w' :=
 hb.grown hg hB (fun k hk => (hown.lt k hk).1)
theorem own_below {w w' : World} {base : Nat} {e : TypeId} {size : Nat} {v : Value} {n : Nat} {xs : List Value} (h : w.ownsRow base e size v n xs) (hb : Below w.heap.size w w') : w'.ownsRow base e size v n xs :=
 h.kept (row := none) ⟨hb.os, hb.tape, hb.output, hb.size, fun k hk _ => hb.block k hk⟩ (by cases v.ownBlock <;> simp)
theorem bcell {W w1 : World} (hb : Below W.heap.size W w1) : (∀ b o, b < W.heap.size → w1.cell? ⟨b, o, none⟩ = W.cell? ⟨b, o, none⟩) ∧ (∀ b o, b < W.heap.size → w1.frozen? ⟨b, o, none⟩ = W.frozen? ⟨b, o, none⟩) :=
 ⟨fun b o h => hb.cell (p := ⟨b, o, none⟩) h, fun b o h => hb.frozen (p := ⟨b, o, none⟩) h⟩
theorem own_shape {w : World} {base : Nat} {e : TypeId} {size : Nat} {v : Value} {n : Nat} {xs : List Value} (h : w.ownsRow base e size v n xs) : ∃ a cap, v = .slice a n cap := by
 rcases h.2 with ⟨rfl, rfl⟩ | ⟨g, cap, cur, rfl, _⟩
 ·exact ⟨_, _, rfl⟩
 ·exact ⟨_, _, rfl⟩
def byteCells (l : List UInt8) : List Value := l.map fun b => Value.int .u8 (b.toNat : Int)
theorem byteCells_append (l m : List UInt8) : byteCells (l ++ m) = byteCells l ++ byteCells m := by simp [byteCells]
theorem byteCells_one (b : UInt8) : byteCells [b] = [Value.int .u8 (b.toNat : Int)] := rfl
theorem byteCells_oneCell (l : List UInt8) : ∀ u ∈ byteCells l, u.oneCell' = true := by
 intro u hu
 obtain ⟨b, _, rfl⟩ := List.mem_map.1 hu
 rfl
theorem own_string {P : Program} {w : World} {base e src dst : Nat} {v : Value} {n : Nat} {l : List UInt8} (hs : P.underlying src = some (.slice e)) (he : P.underlying e = some (.int .u8)) (hd : P.underlying dst = some .string)
  (h : w.ownsRow base e 1 v n (byteCells l)) : (convert src dst v).run P w = .ok (.string ⟨l.toArray⟩) w := by
 obtain ⟨hl, h⟩ := h
 have hl' : l.length = n := by simpa [byteCells] using hl
 rcases h with ⟨rfl, rfl⟩ | ⟨g, cap, cur, rfl, hb, hg, hc, hm, hz, ht⟩
 ·have : l = [] := List.length_eq_zero_iff.1 hl'
  subst this
  exact Lib.run_convert_nil_bytes w src dst e 0 hs he hd
 ·subst hl'
  have hB : Lib.Bytes w g 0 ⟨l.toArray⟩ := fun i hi => by
   have hi' : i < l.length := by simpa [ByteArray.size] using hi
   have e1 : (byteCells l)[i]? = some (Value.int .u8 (l[i].toNat : Int)) := by simp [byteCells, hi']
   rw [← ht, List.getElem?_take_of_lt (by omega)] at e1
   have e2 : cur[i]? = some (Value.int .u8 (l[i].toNat : Int)) := by simpa using e1
   rw [Nat.zero_add]
   simp only [World.cell?, hg]
   show cur[i]? = _
   rw [e2]
   rfl
  have := Lib.run_convert_whole (P := P) w src e dst hs he hd g 0 ⟨l.toArray⟩ hB cap
  simpa [ByteArray.size] using this
end Go.Proofs.YtcpmgellfaeejaaGreatDoor

namespace Go.Proofs.YtcpmgellfaeejaaGreatDoor.ty
open Go.ChangeShapes Go.WideShapes Go.ChangeAt Go.RowKit Go.Deep
set_option linter.unusedVariables false
set_option linter.unusedSimpArgs false
def Okb (md : Option Nat) (w : World) (b : Nat) : Prop := ∀ lo, md = some lo → lo ≤ b ∧ ∃ cs t, w.heap[b]? = some (.cells cs t (0, 0))
def Kep (md : Option Nat) (w w' : World) : Prop := ∀ j, (∀ lo, md = some lo → lo ≤ j) → j < w.heap.size → w'.heap[j]? = w.heap[j]?
theorem Kep.of_below {md : Option Nat} {w w' : World} (h : Below w.heap.size w w') : Kep md w w' := fun j _ hj => h.block j hj
theorem Okb.kept {md : Option Nat} {w w' : World} {b : Nat} (h : Okb md w b) (hk : w'.heap[b]? = w.heap[b]?) : Okb md w' b := fun lo e => by
 obtain ⟨h1, cs, t, h2⟩ := h lo e
 exact ⟨h1, cs, t, by rw [hk]; exact h2⟩
theorem Okb.free (w : World) (b : Nat) : Okb none w b := fun lo e => by cases e
theorem sum_mem {α : Type} (f : α → Nat) : ∀ {l : List α} {x : α}, x ∈ l → f x ≤ (l.map f).sum
 | y :: l, x, h => by
  rw [List.map_cons, List.sum_cons]
  rcases List.mem_cons.1 h with rfl | h
  ·omega
  ·have := sum_mem f h; omega
def SrcS (md : Option Nat) (w : World) (a : Option Addr) (l : List ByteArray) : Prop := (md = none ∧ l = []) ∨ ∃ b o, a = some ⟨b, o, none⟩ ∧ Okb md w b ∧ ∀ (i : Nat) (x : ByteArray), l[i]? = some x → w.cell? ⟨b, o + i, none⟩ = some (.string x)
theorem SrcS.kept {md : Option Nat} {w w' : World} {a : Option Addr} {l : List ByteArray} (h : SrcS md w a l) (hk : Kep md w w') : SrcS md w' a l := by
 cases l with
 | nil =>
  cases md with
  | none => exact .inl ⟨rfl, rfl⟩
  | some lo =>
   rcases h with ⟨h, _⟩ | ⟨b, o, e, h1, h2⟩
   ·cases h
   ·obtain ⟨g1, cs, t, g2⟩ := h1 lo rfl
    have hh := hk b (fun lo' e => by cases e; exact g1) (Array.getElem?_eq_some_iff.1 g2).1
    exact .inr ⟨b, o, e, h1.kept hh, fun i x hx => by simp at hx⟩
 | cons y l =>
  rcases h with ⟨_, h⟩ | ⟨b, o, e, h1, h2⟩
  ·cases h
  ·have hb : b < w.heap.size := World.block_lt_of_cell? _ _ (h2 0 y rfl)
   have hh := hk b (fun lo e => (h1 lo e).1) hb
   exact .inr ⟨b, o, e, h1.kept hh, fun i x hx => (World.cell?_of_block (a := ⟨b, _, none⟩) hh).trans (h2 i x hx)⟩
theorem SrcS.below {md : Option Nat} {w w' : World} {a : Option Addr} {l : List ByteArray} (h : SrcS md w a l) (hb : Below w.heap.size w w') : SrcS md w' a l := h.kept (.of_below hb)
theorem SrcS.any {md : Option Nat} {w : World} {a : Option Addr} {l : List ByteArray} (h : SrcS md w a l) : SrcS none w a l := by
 rcases h with h | ⟨b, o, e, h1, h2⟩
 ·exact .inl ⟨rfl, h.2⟩
 ·exact .inr ⟨b, o, e, Okb.free _ _, h2⟩
theorem SrcS.mono {lo lo' : Nat} {w : World} {a : Option Addr} {l : List ByteArray} (h : SrcS (some lo) w a l) (hl : lo' ≤ lo) : SrcS (some lo') w a l := by
 rcases h with h | ⟨b, o, e, h1, h2⟩
 ·cases h.1
 ·exact .inr ⟨b, o, e, fun q hq => by cases hq; have := h1 lo rfl; exact ⟨by omega, this.2⟩, h2⟩
def wtkS (l : List ByteArray) (k : Nat) : Nat := ((l.take k).map fun x => x.size).sum
def wtS (l : List ByteArray) : Nat := l.length + wtkS l l.length
theorem wtS_mem {l : List ByteArray} {x : ByteArray} (h : x ∈ l) : l.length + x.size ≤ wtS l := by
 unfold wtS wtkS
 rw [List.take_length]
 have := sum_mem (fun x : ByteArray => x.size) h
 omega
theorem wtS_len (l : List ByteArray) : l.length ≤ wtS l := by unfold wtS; omega
structure Et where
 fPath : ByteArray
 fKind : Int
 fData : ByteArray
 fExec : Bool
instance : Inhabited Et := ⟨⟨⟨#[]⟩, 0, ⟨#[]⟩, false⟩⟩
def CEt (md : Option Nat) (w : World) (b o : Nat) (x : Et) : Prop := w.cell? ⟨b, o, none⟩ = some (.string x.fPath) ∧ w.cell? ⟨b, o + 1, none⟩ = some (.int .i64 x.fKind) ∧ w.cell? ⟨b, o + 2, none⟩ = some (.string x.fData) ∧ w.cell? ⟨b, o + 3, none⟩ = some (.bool x.fExec)
def SrcEt (md : Option Nat) (w : World) (a : Option Addr) (l : List Et) : Prop := (md = none ∧ l = []) ∨ ∃ b o, a = some ⟨b, o, none⟩ ∧ Okb md w b ∧ ∀ (i : Nat) (x : Et), l[i]? = some x → CEt md w b (o + i * 4) x
theorem CEt.kept {md : Option Nat} {w w' : World} {b o : Nat} {x : Et} (h : CEt md w b o x) (hb : ∀ j, j < 4 → w'.cell? ⟨b, o + j, none⟩ = w.cell? ⟨b, o + j, none⟩) (hk : Kep md w w') : CEt md w' b o x := by
 obtain ⟨h0, h1, h2, h3⟩ := h
 exact ⟨(hb 0 (by omega)).trans h0, (hb 1 (by omega)).trans h1, (hb 2 (by omega)).trans h2, (hb 3 (by omega)).trans h3⟩
theorem CEt.any {md : Option Nat} {w : World} {b o : Nat} {x : Et} (h : CEt md w b o x) : CEt none w b o x := by
 obtain ⟨h0, h1, h2, h3⟩ := h
 exact ⟨h0, h1, h2, h3⟩
theorem CEt.mono {lo lo' : Nat} {w : World} {b o : Nat} {x : Et} (h : CEt (some lo) w b o x) (hl : lo' ≤ lo) : CEt (some lo') w b o x := by
 obtain ⟨h0, h1, h2, h3⟩ := h
 exact ⟨h0, h1, h2, h3⟩
theorem CEt.below {md : Option Nat} {w w' : World} {b o : Nat} {x : Et} (h : CEt md w b o x) (hb : Below w.heap.size w w') : CEt md w' b o x := by
 have hlt : b < w.heap.size := by
  obtain ⟨h0, h1, h2, h3⟩ := h
  exact World.block_lt_of_cell? _ _ h0
 exact h.kept (fun j _ => World.cell?_of_block (a := ⟨b, _, none⟩) (hb.block b hlt)) (.of_below hb)
theorem SrcEt.kept {md : Option Nat} {w w' : World} {a : Option Addr} {l : List Et} (h : SrcEt md w a l) (hk : Kep md w w') : SrcEt md w' a l := by
 cases l with
 | nil =>
  cases md with
  | none => exact .inl ⟨rfl, rfl⟩
  | some lo =>
   rcases h with ⟨h, _⟩ | ⟨b, o, e, k1, k2⟩
   ·cases h
   ·obtain ⟨g1, cs, t, g2⟩ := k1 lo rfl
    have hh := hk b (fun lo' e => by cases e; exact g1) (Array.getElem?_eq_some_iff.1 g2).1
    exact .inr ⟨b, o, e, k1.kept hh, fun i x hx => by simp at hx⟩
 | cons y l =>
  rcases h with ⟨_, h⟩ | ⟨b, o, e, k1, k2⟩
  ·cases h
  ·have hb : b < w.heap.size := by
    obtain ⟨h0, h1, h2, h3⟩ := k2 0 y rfl
    exact World.block_lt_of_cell? _ _ h0
   have hh := hk b (fun lo e => (k1 lo e).1) hb
   exact .inr ⟨b, o, e, k1.kept hh, fun i x hx => (k2 i x hx).kept (fun j _ => World.cell?_of_block (a := ⟨b, _, none⟩) hh) hk⟩
theorem SrcEt.any {md : Option Nat} {w : World} {a : Option Addr} {l : List Et} (h : SrcEt md w a l) : SrcEt none w a l := by
 rcases h with h | ⟨b, o, e, k1, k2⟩
 ·exact .inl ⟨rfl, h.2⟩
 ·exact .inr ⟨b, o, e, Okb.free _ _, fun i x hx => (k2 i x hx).any⟩
theorem SrcEt.mono {lo lo' : Nat} {w : World} {a : Option Addr} {l : List Et} (h : SrcEt (some lo) w a l) (hl : lo' ≤ lo) : SrcEt (some lo') w a l := by
 rcases h with h | ⟨b, o, e, k1, k2⟩
 ·cases h.1
 ·exact .inr ⟨b, o, e, fun q hq => by cases hq; have := k1 lo rfl; exact ⟨by omega, this.2⟩, fun i x hx => (k2 i x hx).mono hl⟩
def wt1Et (x : Et) : Nat := x.fPath.size + x.fData.size
def wtkEt (l : List Et) (k : Nat) : Nat := ((l.take k).map wt1Et).sum
def wtEt (l : List Et) : Nat := l.length + wtkEt l l.length
theorem wtkEt_succ {l : List Et} {k : Nat} {x : Et} (h : l[k]? = some x) : wtkEt l (k + 1) = wtkEt l k + wt1Et x := by
 unfold wtkEt
 rw [List.take_add_one, h]
 simp
theorem wtEt_mem {l : List Et} {x : Et} (h : x ∈ l) : l.length + wt1Et x ≤ wtEt l := by
 unfold wtEt wtkEt
 rw [List.take_length]
 have := sum_mem wt1Et h
 omega
theorem wtEt_len (l : List Et) : l.length ≤ wtEt l := by unfold wtEt; omega
structure It where
 fPath : ByteArray
 fSum : ByteArray
 fRefs : List ByteArray
 fFrom : ByteArray
 fTree : List Et
instance : Inhabited It := ⟨⟨⟨#[]⟩, ⟨#[]⟩, [], ⟨#[]⟩, []⟩⟩
def CIt (md : Option Nat) (w : World) (b o : Nat) (x : It) : Prop := ∃ a2 c2, ∃ a4 c4, w.cell? ⟨b, o, none⟩ = some (.string x.fPath) ∧ w.cell? ⟨b, o + 1, none⟩ = some (.string x.fSum) ∧ w.cell? ⟨b, o + 2, none⟩ = some (.slice a2 x.fRefs.length c2) ∧ w.cell? ⟨b, o + 3, none⟩ = some (.string x.fFrom) ∧ w.cell? ⟨b, o + 4, none⟩ = some (.slice a4 x.fTree.length c4) ∧ SrcS md w a2 x.fRefs ∧ SrcEt md w a4 x.fTree ∧ (∀ lo, md = some lo → x.fRefs.length ≤ c2 ∧ (c2 ≤ maxLen ∨ c2 = x.fRefs.length)) ∧ (∀ lo, md = some lo → x.fTree.length ≤ c4 ∧ (c4 ≤ maxLen ∨ c4 = x.fTree.length))
def SrcIt (md : Option Nat) (w : World) (a : Option Addr) (l : List It) : Prop := (md = none ∧ l = []) ∨ ∃ b o, a = some ⟨b, o, none⟩ ∧ Okb md w b ∧ ∀ (i : Nat) (x : It), l[i]? = some x → CIt md w b (o + i * 5) x
theorem CIt.kept {md : Option Nat} {w w' : World} {b o : Nat} {x : It} (h : CIt md w b o x) (hb : ∀ j, j < 5 → w'.cell? ⟨b, o + j, none⟩ = w.cell? ⟨b, o + j, none⟩) (hk : Kep md w w') : CIt md w' b o x := by
 obtain ⟨a2, c2, a4, c4, h0, h1, h2, h3, h4, s2, s4, t2, t4⟩ := h
 exact ⟨a2, c2, a4, c4, (hb 0 (by omega)).trans h0, (hb 1 (by omega)).trans h1, (hb 2 (by omega)).trans h2, (hb 3 (by omega)).trans h3, (hb 4 (by omega)).trans h4, s2.kept hk, s4.kept hk, t2, t4⟩
theorem CIt.any {md : Option Nat} {w : World} {b o : Nat} {x : It} (h : CIt md w b o x) : CIt none w b o x := by
 obtain ⟨a2, c2, a4, c4, h0, h1, h2, h3, h4, s2, s4, t2, t4⟩ := h
 exact ⟨a2, c2, a4, c4, h0, h1, h2, h3, h4, s2.any, s4.any, (fun lo e => by cases e), (fun lo e => by cases e)⟩
theorem CIt.mono {lo lo' : Nat} {w : World} {b o : Nat} {x : It} (h : CIt (some lo) w b o x) (hl : lo' ≤ lo) : CIt (some lo') w b o x := by
 obtain ⟨a2, c2, a4, c4, h0, h1, h2, h3, h4, s2, s4, t2, t4⟩ := h
 exact ⟨a2, c2, a4, c4, h0, h1, h2, h3, h4, s2.mono hl, s4.mono hl, (fun q hq => t2 lo rfl), (fun q hq => t4 lo rfl)⟩
theorem CIt.below {md : Option Nat} {w w' : World} {b o : Nat} {x : It} (h : CIt md w b o x) (hb : Below w.heap.size w w') : CIt md w' b o x := by
 have hlt : b < w.heap.size := by
  obtain ⟨a2, c2, a4, c4, h0, h1, h2, h3, h4, s2, s4, t2, t4⟩ := h
  exact World.block_lt_of_cell? _ _ h0
 exact h.kept (fun j _ => World.cell?_of_block (a := ⟨b, _, none⟩) (hb.block b hlt)) (.of_below hb)
theorem SrcIt.kept {md : Option Nat} {w w' : World} {a : Option Addr} {l : List It} (h : SrcIt md w a l) (hk : Kep md w w') : SrcIt md w' a l := by
 cases l with
 | nil =>
  cases md with
  | none => exact .inl ⟨rfl, rfl⟩
  | some lo =>
   rcases h with ⟨h, _⟩ | ⟨b, o, e, k1, k2⟩
   ·cases h
   ·obtain ⟨g1, cs, t, g2⟩ := k1 lo rfl
    have hh := hk b (fun lo' e => by cases e; exact g1) (Array.getElem?_eq_some_iff.1 g2).1
    exact .inr ⟨b, o, e, k1.kept hh, fun i x hx => by simp at hx⟩
 | cons y l =>
  rcases h with ⟨_, h⟩ | ⟨b, o, e, k1, k2⟩
  ·cases h
  ·have hb : b < w.heap.size := by
    obtain ⟨a2, c2, a4, c4, h0, h1, h2, h3, h4, s2, s4, t2, t4⟩ := k2 0 y rfl
    exact World.block_lt_of_cell? _ _ h0
   have hh := hk b (fun lo e => (k1 lo e).1) hb
   exact .inr ⟨b, o, e, k1.kept hh, fun i x hx => (k2 i x hx).kept (fun j _ => World.cell?_of_block (a := ⟨b, _, none⟩) hh) hk⟩
theorem SrcIt.below {md : Option Nat} {w w' : World} {a : Option Addr} {l : List It} (h : SrcIt md w a l) (hb : Below w.heap.size w w') : SrcIt md w' a l := h.kept (.of_below hb)
theorem SrcIt.any {md : Option Nat} {w : World} {a : Option Addr} {l : List It} (h : SrcIt md w a l) : SrcIt none w a l := by
 rcases h with h | ⟨b, o, e, k1, k2⟩
 ·exact .inl ⟨rfl, h.2⟩
 ·exact .inr ⟨b, o, e, Okb.free _ _, fun i x hx => (k2 i x hx).any⟩
theorem SrcIt.mono {lo lo' : Nat} {w : World} {a : Option Addr} {l : List It} (h : SrcIt (some lo) w a l) (hl : lo' ≤ lo) : SrcIt (some lo') w a l := by
 rcases h with h | ⟨b, o, e, k1, k2⟩
 ·cases h.1
 ·exact .inr ⟨b, o, e, fun q hq => by cases hq; have := k1 lo rfl; exact ⟨by omega, this.2⟩, fun i x hx => (k2 i x hx).mono hl⟩
def wt1It (x : It) : Nat := x.fPath.size + x.fSum.size + wtS x.fRefs + x.fFrom.size + wtEt x.fTree
def wtkIt (l : List It) (k : Nat) : Nat := ((l.take k).map wt1It).sum
def wtIt (l : List It) : Nat := l.length + wtkIt l l.length
theorem wtIt_mem {l : List It} {x : It} (h : x ∈ l) : l.length + wt1It x ≤ wtIt l := by
 unfold wtIt wtkIt
 rw [List.take_length]
 have := sum_mem wt1It h
 omega
theorem wtIt_len (l : List It) : l.length ≤ wtIt l := by unfold wtIt; omega
end Go.Proofs.YtcpmgellfaeejaaGreatDoor.ty

namespace Go.Proofs.YtcpmgellfaeejaaGreatDoor.st
open Go.ChangeShapes Go.WideShapes Go.ChangeAt Go.RowKit Go.Deep
set_option linter.unusedVariables false
theorem info9 : (Tryz.prog.info? 9).map (fun i => (i.zero, i.size, i.bytes)) = some (some (.string ⟨#[]⟩), 1, 16) := by kernel_rfl
end Go.Proofs.YtcpmgellfaeejaaGreatDoor.st

namespace Go.Proofs.YtcpmgellfaeejaaGreatDoor.sr
open Go.ChangeShapes Go.WideShapes Go.ChangeAt Go.RowKit Go.Deep
set_option linter.unusedVariables false
set_option linter.unusedSimpArgs false
def dgt (k : Nat) : UInt8 := UInt8.ofNat (48 + k % 10)
theorem dgt_nat (k : Nat) : ((dgt k).toNat : Int) = 48 + ((k % 10 : Nat) : Int) := by
 have : (48 + k % 10) % 256 = 48 + k % 10 := Nat.mod_eq_of_lt (by omega)
 simp [dgt, UInt8.toNat_ofNat', this]
theorem dgt_conv (k : Nat) (wr : World) (z : Int) (hz : z = 48 + ((k % 10 : Nat) : Int)) : (convert 22 9 (.slice (some ⟨wr.heap.size, 0, none⟩) 1 1)).run Tryz.prog (wr.alloc (.cells #[.int .u8 z] 5)) = .ok (.string ⟨[dgt k].toArray⟩) (wr.alloc (.cells #[.int .u8 z] 5)) := by
 subst hz
 refine own_string (base := wr.heap.size) (n := 1) Tryz.underlying22 Tryz.underlying5 Tryz.underlying9 ?_
 rw [byteCells_one, dgt_nat]
 exact ⟨rfl, .inr ⟨wr.heap.size, 1, #[.int .u8 (48 + ((k % 10 : Nat) : Int))], rfl, Nat.le_refl _, heap_alloc_new wr _, by decide, by decide, rfl, rfl⟩⟩
theorem dec_step {k : Nat} (h : 9 < k) : Lib.decDigits k = Lib.decDigits (k / 10) ++ [dgt k] := by
 rw [Lib.decDigits, dif_neg (by omega)]; rfl
theorem dec_last {k : Nat} (h : ¬ 9 < k) : Lib.decDigits k = [dgt k] := by
 rw [Lib.decDigits, dif_pos (by omega), dgt, Nat.mod_eq_of_lt (by omega)]
end Go.Proofs.YtcpmgellfaeejaaGreatDoor.sr

namespace Go.Proofs.YtcpmgellfaeejaaGreatDoor.ty
open Go.ChangeShapes Go.WideShapes Go.ChangeAt Go.RowKit Go.Deep
set_option linter.unusedVariables false
set_option linter.unusedSimpArgs false
theorem sb {W : World} {b p q : Nat} {v : Value} (h : q ≠ b) : (W.setCell ⟨b, p, none⟩ v).heap[q]? = W.heap[q]? := by simp only [World.setCell]; rw [Array.getElem?_modify, if_neg (fun e => h e.symm)]
def up (f : Nat → Value) (p : Nat) (v : Value) : Nat → Value := fun j => if j = p then v else f j
end Go.Proofs.YtcpmgellfaeejaaGreatDoor.ty

namespace Go.Proofs.YtcpmgellfaeejaaGreatDoor.cl
open Go.RowKit
set_option linter.unusedVariables false
theorem info5 : (Tryz.prog.info? 5).map (fun i => (i.zero, i.size, i.bytes)) = some (some (.int .u8 0), 1, 1) := by kernel_rfl
set_option maxHeartbeats 4000000 in
set_option maxRecDepth 100000 in
theorem slite_any (s : ByteArray) (w : World) (hlim : s.size ≤ 1099511627776) :
  Calls Tryz.prog 124 #[.string s] w fun e w' => e = .returned (.string s) ∧ Below w.heap.size w w' := by
 by_cases h0 : s.size = 0
 ·have hs : s = ⟨#[]⟩ := by
   apply ByteArray.ext
   exact Array.eq_empty_of_size_eq_zero h0
  subst hs
  go_enter Tryz.func124, Tryz.ntmps124
  go_wp2
  go_ret
  exact ⟨rfl, Below.refl _ _⟩
 ·obtain ⟨i0, hi, hz0, hz1, hz2⟩ := info_parts info5
  have hinfo : (Tryz.prog.info? 5).map (·.size) = some 1 := by rw [hi]; simp [hz1]
  have hco : Tryz.prog.cellsOf 5 = 1 := by simp [Program.cellsOf, hi, hz1]
  obtain ⟨M, hM⟩ : ∃ M, M = madeCells (Value.int .u8 0).cells (((s.size : Nat) : Int).toNat * i0.size) := ⟨_, rfl⟩
  have hMs : M.size = s.size := by rw [hM, size_madeCells, hz1]; simp
  have hmk : ∀ W : World, (Instr.makeSlice 22 (.int .i64 (s.size : Int)) (.int .i64 (s.size : Int))).run Tryz.prog W = .ok (.slice (some ⟨W.heap.size, 0, none⟩) s.size s.size) (W.alloc (.cells M 5)) := fun W => by
   have h := run_make (P := Tryz.prog) W 22 5 i0 (.int .u8 0) Tryz.underlying22 hi hz0 .i64 .i64 (s.size : Int) (s.size : Int) (by omega) (by omega) (by rw [hz2]; omega) (by omega)
   rw [← hM] at h
   simpa using h
  clear hM
  have hcp := Lib.run_copy_row_string (P := Tryz.prog) (w.alloc (.cells M 5)) 22 9 3 5 w.heap.size 0 s.size s.size s M 5 Tryz.underlying22 hinfo (heap_alloc_new w _) (Nat.le_refl _) (by omega)
  obtain ⟨Y, hY⟩ : ∃ Y, Y = (M.toList.take 0 ++ Lib.byteCells s.data.toList ++ M.toList.drop (0 + s.size)).toArray := ⟨_, rfl⟩
  rw [← hY] at hcp
  have hYl : Y.toList = Lib.byteCells s.data.toList := by
   rw [hY, List.toList_toArray, List.take_zero, List.nil_append, List.drop_of_length_le (by rw [Array.length_toList]; omega), List.append_nil]
  have hYs : Y.size = s.size := by rw [← Array.length_toList, hYl, Lib.byteCells_length, ← Lib.size_eq]
  have hgY : ((w.alloc (.cells M 5)).setRow w.heap.size Y).heap[w.heap.size]? = some (.cells Y 5 (0, 0)) := setRow_heap _ _ M _ 5 (0, 0) (heap_alloc_new w _)
  have hne : s.data.toList ≠ [] := fun e => h0 (by rw [Lib.size_eq, e]; rfl)
  have hUS := Lib.run_unsafeString_row (P := Tryz.prog) ((w.alloc (.cells M 5)).setRow w.heap.size Y) 156 3 9 5 Tryz.underlying156 hco w.heap.size Y.size (by unfold World.shape?; rw [hgY]) s.data.toList hne (by rw [← Lib.size_eq]; omega) (by rw [← Lib.size_eq]; omega)
   (fun j x hx => Lib.cells_of_row hgY Y.size j _ (by rw [List.take_of_length_le (by rw [Array.length_toList]; exact Nat.le_refl _), hYl]; simp [Lib.byteCells, hx]))
  rw [← Lib.size_eq] at hUS
  clear hY
  go_enter Tryz.func124, Tryz.ntmps124
  go_wp2
  go_ret
  have hb1 : Below w.heap.size w (w.alloc (.cells M 5)) := (Below.refl _ w).alloc (Nat.le_refl _) _
  have hb2 : Below w.heap.size (w.alloc (.cells M 5)) ((w.alloc (.cells M 5)).setRow w.heap.size Y) := ⟨rfl, rfl, rfl, by simp, fun k hk => setRow_other _ _ _ _ (by omega)⟩
  exact ⟨rfl, Lib.below_freeze (hb1.trans hb2) (p := ⟨w.heap.size, 0, none⟩) (Nat.le_refl _) _⟩
theorem clone_any (s : ByteArray) (w : World) (hlim : s.size ≤ 1099511627776) :
  Calls Tryz.prog 83 #[.string s] w fun e w' => e = .returned (.string s) ∧ Below w.heap.size w w' := by
 go_enter Tryz.func83, Tryz.ntmps83
 go_wp2_with (go_at_call 124; refine (slite_any _ _ hlim).mono ?_; rintro e w1 ⟨rfl, hl⟩)
 go_ret
 exact ⟨rfl, hl⟩
end Go.Proofs.YtcpmgellfaeejaaGreatDoor.cl

namespace Go.Proofs.YtcpmgellfaeejaaGreatDoor.nm
open Go.ChangeShapes Go.WideShapes Go.ChangeAt Go.RowKit Go.Deep
set_option linter.unusedVariables false
def letB (c : Int) : Bool := decide (97 ≤ c ∧ c ≤ 122 ∨ 65 ≤ c ∧ c ≤ 90)
def digB (c : Int) : Bool := decide (48 ≤ c ∧ c ≤ 57)
def okB (c : Int) : Bool := letB c || digB c || (c == 45) || (c == 95) || (c == 46) || (c == 43)
theorem letter_any (c : Int) (w : World) :
  Calls Tryz.prog 118 #[.int .u8 c] w fun e w' => e = .returned (.bool (letB c)) ∧ w' = w := by
 go_enter Tryz.func118, Tryz.ntmps118
 go_wp2
 all_goals go_ret
 all_goals refine ⟨ret_bool ?_, rfl⟩
 all_goals (rw [Bool.eq_iff_iff]; simp [letB]; omega)
theorem digit_any (c : Int) (w : World) :
  Calls Tryz.prog 119 #[.int .u8 c] w fun e w' => e = .returned (.bool (digB c)) ∧ w' = w := by
 go_enter Tryz.func119, Tryz.ntmps119
 go_wp2
 all_goals go_ret
 all_goals refine ⟨ret_bool ?_, rfl⟩
 all_goals (rw [Bool.eq_iff_iff]; simp [digB]; omega)
theorem isLetter_any (c : Int) (w : World) :
  Calls Tryz.prog 152 #[.int .i32 c] w fun e w' => e = .returned (.bool (letB c)) ∧ w' = w := by
 go_enter Tryz.func152, Tryz.ntmps152
 go_wp2
 all_goals go_ret
 all_goals refine ⟨ret_bool ?_, rfl⟩
 all_goals (rw [Bool.eq_iff_iff]; simp [letB]; omega)
theorem isDigit_any (c : Int) (w : World) :
  Calls Tryz.prog 153 #[.int .i32 c] w fun e w' => e = .returned (.bool (digB c)) ∧ w' = w := by
 go_enter Tryz.func153, Tryz.ntmps153
 go_wp2
 all_goals go_ret
 all_goals refine ⟨ret_bool ?_, rfl⟩
 all_goals (rw [Bool.eq_iff_iff]; simp [digB]; omega)
theorem inName_any (c : Int) (h0 : 0 ≤ c) (h1 : c ≤ 255) (w : World) :
  Calls Tryz.prog 130 #[.int .u8 c] w fun e w' => e = .returned (.bool (okB c)) ∧ w' = w := by
 go_enter Tryz.func130, Tryz.ntmps130
 go_wp2_with (first
  | (go_at_call 152; refine (isLetter_any _ _).mono ?_; rintro e w' ⟨rfl, rfl⟩)
  | (go_at_call 153; refine (isDigit_any _ _).mono ?_; rintro e w' ⟨rfl, rfl⟩))
 all_goals go_ret
 all_goals refine ⟨ret_bool ?_, rfl⟩
 all_goals simp [okB, *]
def allOk (s : ByteArray) (k : Nat) : Bool := (s.data.toList.take k).all fun c => okB (c.toNat : Int)
def nameB (s : ByteArray) : Bool := decide (1 ≤ s.size) && decide (s.size ≤ 60) && !(((s.data.toList[0]?.getD 0).toNat : Int) == 46) && allOk s s.size
theorem take_snoc (s : ByteArray) (k : Nat) (h : k < s.size) : s.data.toList.take (k + 1) = s.data.toList.take k ++ [s[k]] := by
 rw [List.take_succ_eq_append_getElem (by simpa using h)]; rfl
theorem allOk_succ (s : ByteArray) (k : Nat) (h : k < s.size) : allOk s (k + 1) = (allOk s k && okB (s[k].toNat : Int)) := by
 unfold allOk
 rw [take_snoc s k h, List.all_append]
 simp
theorem allOk_false {s : ByteArray} {k : Nat} (h : k < s.size) (ho : okB (s[k].toNat : Int) = false) : allOk s s.size = false := by
 rw [Bool.eq_false_iff]
 intro hall
 unfold allOk at hall
 rw [List.all_eq_true] at hall
 have := hall s[k] (by rw [List.take_of_length_le (by simp)]; exact List.getElem_mem (l := s.data.toList) (by simpa using h))
 rw [ho] at this
 cases this
theorem get0 {s : ByteArray} (h : 0 < s.size) : s.data.toList[0]?.getD 0 = s[0] := by
 rw [List.getElem?_eq_getElem (by simpa using h)]; rfl
theorem name_dot {s : ByteArray} (h0 : 0 < s.size) (h3 : ((s[0].toNat : Int) == 46) = true) : nameB s = false := by
 unfold nameB
 rw [get0 h0, h3]
 simp
theorem impl_any (s : ByteArray) (hs : s.size ≤ 1048576) (w : World) :
  Calls Tryz.prog 96 #[.string s] w fun e w' => e = .returned (.bool (nameB s)) ∧ w' = w := by
 by_cases h1 : s.size < 1
 ·go_enter Tryz.func96, Tryz.ntmps96
  go_wp2
  go_ret
  exact ⟨ret_bool (by simp [nameB]; omega), rfl⟩
 by_cases h2 : 60 < s.size
 ·go_enter Tryz.func96, Tryz.ntmps96
  go_wp2
  go_ret
  exact ⟨ret_bool (by simp [nameB]; omega), rfl⟩
 have h0 : 0 < s.size := by omega
 by_cases h3 : ((s[0].toNat : Int) == 46) = true
 ·go_enter Tryz.func96, Tryz.ntmps96
  go_wp2
  go_ret
  exact ⟨ret_bool (name_dot h0 h3).symm, rfl⟩
 have h3' : ((s[0].toNat : Int) == 46) = false := by simpa using h3
 have hn : Hid (nameB s = allOk s s.size) := by
  show nameB s = allOk s s.size
  unfold nameB
  rw [get0 h0, h3']
  simp
  omega
 clear h3
 go_enter Tryz.func96, Tryz.ntmps96
 go_wp2
 go_loop [3, 19] (fun x i => ∃ k : Nat, k ≤ s.size ∧ i = .int .i64 k ∧ allOk s k = true) (fun _ i => s.size - (intOf i).toNat)
 case atStart => exact ⟨0, Nat.zero_le _, rfl, by simp [allOk]⟩
 case round =>
  obtain ⟨k, hk, rfl, hok⟩ := hrel
  by_cases hlt : k < s.size
  ·have hsn : Hid (allOk s (k + 1) = (allOk s k && okB (s[k].toNat : Int))) := allOk_succ s k hlt
   have hb : (0 : Int) ≤ (s[k].toNat : Int) ∧ (s[k].toNat : Int) ≤ 255 := ⟨by omega, by have := s[k].toNat_lt; omega⟩
   by_cases ho : okB (s[k].toNat : Int) = true
   ·go_wp2_with (go_at_call 130; refine (inName_any _ hb.1 hb.2 _).mono ?_; rintro e w' ⟨rfl, rfl⟩)
    go_round
    case rel => exact ⟨k + 1, by omega, by go_num, by rw [hsn.out, hok, ho]; rfl⟩
    case measure => simp [intOf]; omega
   ·have ho' : okB (s[k].toNat : Int) = false := by simpa using ho
    have hF : Hid (allOk s s.size = false) := allOk_false hlt ho'
    go_wp2_with (go_at_call 130; refine (inName_any _ hb.1 hb.2 _).mono ?_; rintro e w' ⟨rfl, rfl⟩)
    go_ret
    exact ⟨ret_bool (by rw [hn.out, hF.out]), rfl⟩
  ·obtain rfl : k = s.size := by omega
   go_wp2
   go_ret
   exact ⟨ret_bool (by rw [hn.out, hok]), rfl⟩
theorem spec_any (s : ByteArray) (hs : s.size ≤ 1048576) (w : World) :
    Calls Tryz.prog 72 #[.string s] w fun e w' => e = .returned (.bool (nameB s)) ∧ w' = w := by
  by_cases h1 : s.size < 1
  · go_enter Tryz.func72, Tryz.ntmps72
    go_wp2
    go_ret
    exact ⟨ret_bool (by simp [nameB]; omega), rfl⟩
  by_cases h2 : 60 < s.size
  · go_enter Tryz.func72, Tryz.ntmps72
    go_wp2
    go_ret
    exact ⟨ret_bool (by simp [nameB]; omega), rfl⟩
  have h0 : 0 < s.size := by omega
  by_cases h3 : ((s[0].toNat : Int) == 46) = true
  · go_enter Tryz.func72, Tryz.ntmps72
    go_wp2
    go_ret
    exact ⟨ret_bool (name_dot h0 h3).symm, rfl⟩
  have h3' : ((s[0].toNat : Int) == 46) = false := by simpa using h3
  have hn : Hid (nameB s = allOk s s.size) := by
    show nameB s = allOk s s.size
    unfold nameB
    rw [get0 h0, h3']
    simp
    omega
  clear h3
  go_enter Tryz.func72, Tryz.ntmps72
  go_wp2
  go_loop [3, 4] (fun i x => ∃ k : Nat, k ≤ s.size ∧ i = .int .i64 k ∧ allOk s k = true) (fun i _ => s.size - (intOf i).toNat)
  case atStart => exact ⟨0, Nat.zero_le _, rfl, by simp [allOk]⟩
  case round =>
    obtain ⟨k, hk, rfl, hok⟩ := hrel
    by_cases hlt : k < s.size
    · have hsn : Hid (allOk s (k + 1) = (allOk s k && okB (s[k].toNat : Int))) := allOk_succ s k hlt
      have hb : (0 : Int) ≤ (s[k].toNat : Int) ∧ (s[k].toNat : Int) ≤ 255 := ⟨by omega, by have := s[k].toNat_lt; omega⟩
      go_wp2_with (first | (go_at_call 118; refine (letter_any _ _).mono ?_; rintro e w' ⟨rfl, rfl⟩) | (go_at_call 119; refine (digit_any _ _).mono ?_; rintro e w' ⟨rfl, rfl⟩))
      all_goals first
        | (go_round
           case rel => exact ⟨k + 1, by omega, by go_num, by rw [hsn.out, hok]; simp [okB, *] <;> (rename_i h; simp at h; omega)⟩
           case measure => simp [intOf]; omega)
        | (go_ret
           exact ⟨ret_bool (by rw [hn.out, allOk_false hlt (by simp [okB, *] <;> (rename_i h; simp at h; omega))]), rfl⟩)
    · obtain rfl : k = s.size := by omega
      go_wp2
      go_ret
      exact ⟨ret_bool (by rw [hn.out, hok]), rfl⟩
end Go.Proofs.YtcpmgellfaeejaaGreatDoor.nm

namespace Go.Proofs.YtcpmgellfaeejaaGreatDoor.tt
open Go.ChangeShapes Go.WideShapes Go.ChangeAt Go.RowKit Go.Deep
set_option linter.unusedVariables false
set_option linter.unusedSimpArgs false
structure En where
 path : ByteArray
 kind : Int
 data : ByteArray
 exec : Bool
instance : Inhabited En := ⟨⟨⟨#[]⟩, 0, ⟨#[]⟩, false⟩⟩
def nameL (l : List UInt8) : Bool := nm.nameB ⟨l.toArray⟩
def pk : Nat → List UInt8 → List UInt8 → Bool
 | c, cur, [] => nameL cur && decide (c < 8)
 | c, cur, b :: l => if b = 47 then (nameL cur && decide (c < 8)) && pk (c + 1) [] l else pk c (cur ++ [b]) l
def pOk (s : ByteArray) : Bool := pk 0 [] s.data.toList
def cOk (e : En) : Bool :=
 decide (e.data.size ≤ 20000) && (if e.kind = 1 then decide (e.data.size = 0) && !e.exec else if e.kind = 2 then true else decide (e.kind = 3) && !decide (e.data.size = 0) && !e.exec)
def eOk (e : En) : Bool := pOk e.path && cOk e
def lst : List UInt8 → Option Nat
 | [] => none
 | b :: l => match lst l with
  | some i => some (i + 1)
  | none => if b = 47 then some 0 else none
theorem lst_none : ∀ {l : List UInt8}, lst l = none → ∀ j : Nat, l[j]? ≠ some (47 : UInt8)
 | [], _, j => by simp
 | b :: l, h, j => by
  unfold lst at h
  cases e : lst l with
  | some k => rw [e] at h; simp at h
  | none =>
   rw [e] at h
   simp only at h
   split at h
   ·cases h
   ·next hb =>
    cases j with
    | zero => simpa using hb
    | succ j => simpa using lst_none e j
theorem lst_some : ∀ {l : List UInt8} {i : Nat}, lst l = some i → l[i]? = some (47 : UInt8) ∧ ∀ j : Nat, i < j → l[j]? ≠ some (47 : UInt8)
 | [], i, h => by simp [lst] at h
 | b :: l, i, h => by
  unfold lst at h
  cases e : lst l with
  | some k =>
   rw [e] at h
   obtain rfl := Option.some.inj h
   obtain ⟨h1, h2⟩ := lst_some e
   refine ⟨by simpa using h1, fun j hj => ?_⟩
   obtain ⟨m, rfl⟩ : ∃ m, j = m + 1 := ⟨j - 1, by omega⟩
   simpa using h2 m (by omega)
  | none =>
   rw [e] at h
   simp only at h
   split at h
   ·next hb =>
    obtain rfl := Option.some.inj h
    subst hb
    refine ⟨rfl, fun j hj hq => ?_⟩
    obtain ⟨m, rfl⟩ : ∃ m, j = m + 1 := ⟨j - 1, by omega⟩
    exact lst_none e m (by simpa using hq)
   ·cases h
theorem lst_of {l : List UInt8} {i : Nat} (h1 : l[i]? = some (47 : UInt8)) (h2 : ∀ j : Nat, i < j → l[j]? ≠ some (47 : UInt8)) : lst l = some i := by
 cases e : lst l with
 | none => exact absurd h1 (lst_none e i)
 | some k =>
  obtain ⟨k1, k2⟩ := lst_some e
  rcases Nat.lt_trichotomy i k with h | h | h
  ·exact absurd k1 (h2 k h)
  ·rw [h]
  ·exact absurd h1 (k2 i h)
theorem lst_no {l : List UInt8} (h : ∀ j : Nat, l[j]? ≠ some (47 : UInt8)) : lst l = none := by
 cases e : lst l with
 | none => rfl
 | some k => exact absurd (lst_some e).1 (h k)
def up (l : List UInt8) : List UInt8 := match lst l with
 | some i => l.take i
 | none => []
def pth (E : Nat → En) (i : Nat) : List UInt8 := (E i).path.data.toList
def Asc (E : Nat → En) (n : Nat) : Prop := ∀ i j, i < j → j < n → pth E i < pth E j
def Dir (E : Nat → En) (n : Nat) (p : List UInt8) : Prop := ∃ j, j < n ∧ pth E j = p ∧ (E j).kind = 1
def Tr (E : Nat → En) (k : Nat) : Prop := (∀ i, i < k → eOk (E i) = true) ∧ (∀ i, i + 1 < k → pth E i < pth E (i + 1)) ∧ ∀ i, i < k → up (pth E i) ≠ [] → Dir E i (up (pth E i))
theorem Tr.asc {E : Nat → En} {k : Nat} (h : Tr E k) : Asc E k := by
 intro i j hij hj
 induction j with
 | zero => omega
 | succ j ih =>
  rcases Nat.lt_or_ge i j with h' | h'
  ·exact List.lt_trans (ih h' (by omega)) (h.2.1 j hj)
  ·obtain rfl : i = j := by omega
   exact h.2.1 i hj
theorem Tr.zero (E : Nat → En) : Tr E 0 := ⟨fun i h => by omega, fun i h => by omega, fun i h => by omega⟩
theorem Tr.next {E : Nat → En} {k : Nat} (h : Tr E k) (h1 : eOk (E k) = true) (h2 : 0 < k → pth E (k - 1) < pth E k) (h3 : up (pth E k) ≠ [] → Dir E k (up (pth E k))) : Tr E (k + 1) := by
 refine ⟨fun i hi => ?_, fun i hi => ?_, fun i hi => ?_⟩
 ·rcases Nat.lt_or_ge i k with h' | h'
  ·exact h.1 i h'
  ·obtain rfl : i = k := by omega
   exact h1
 ·rcases Nat.lt_or_ge (i + 1) k with h' | h'
  ·exact h.2.1 i h'
  ·obtain rfl : k = i + 1 := by omega
   exact h2 (by omega)
 ·rcases Nat.lt_or_ge i k with h' | h'
  ·exact h.2.2 i h'
  ·obtain rfl : i = k := by omega
   exact h3
end Go.Proofs.YtcpmgellfaeejaaGreatDoor.tt
