import Derived.Test.YtpfnnjfapcnbnaaGreatDoorYGp
import Derived.Test.YtpfnnjfapcnbnaaGreatDoorCT1p
import Derived.Test.YtpfnnjfapcnbnaaGreatDoorST1p
import Derived.Test.YtpfnnjfapcnbnaaGreatDoorKN1p
import Derived.Deep.DeepAppendRoom
import Derived.Test.YtpfnnjfapcnbnaaGreatDoorWO1p
import Derived.Test.YtpfnnjfapcnbnaaGreatDoorYE1p
import Derived.Deep.RegionHeld3
set_option linter.unusedVariables false
set_option linter.unusedSimpArgs false
set_option maxRecDepth 100000
set_option maxHeartbeats 16000000
namespace Go.Proofs.YtpfnnjfapcnbnaaGreatDoor.so
open Go.ChangeShapes Go.WideShapes Go.ChangeAt Go.RowKit Go.Deep Go.Shelf Go.Maps
theorem own_cells' {w : World} {base e size g n cap : Nat} {xs : List Value} (h : w.ownsRow base e size (.slice (some ⟨g, 0, none⟩) n cap) n xs) : (∃ f, w.rowIs g e (cap * size) f) ∧ n ≤ cap ∧ base ≤ g ∧ ∀ j u, xs[j]? = some u → w.cell? ⟨g, j, none⟩ = some u := by
 rcases h.2 with ⟨h1, _⟩ | ⟨g', cap', cur, h1, hb, hg, hnc, hcm, hcs, htk⟩
 ·cases h1
 ·cases h1
  refine ⟨⟨fun j => cur[j]?.getD undef, cur, hg, hcs, fun i hi => by have hq : cur[i]? = some (cur[i]'(by omega)) := Array.getElem?_eq_getElem _; simp [hq]⟩, hnc, hb, fun j u hj => ?_⟩
  have hjl := (List.getElem?_eq_some_iff.1 hj).1
  rw [h.1] at hjl
  rw [← htk, List.getElem?_take_of_lt hjl, Array.getElem?_toList] at hj
  simp [World.cell?, hg, hj]
def RdT (w : World) (a : Option Addr) (l : List ByteArray) : Prop := ∃ b o, a = some ⟨b, o, none⟩ ∧ ∀ (j : Nat) (y : ByteArray), l[j]? = some y → w.cell? ⟨b, o + j, none⟩ = some (.string y)
theorem RdT.below {w w' : World} {a : Option Addr} {l : List ByteArray} (h : RdT w a l) (hb : Below w.heap.size w w') : RdT w' a l := by
 obtain ⟨b, o, e, h⟩ := h
 exact ⟨b, o, e, fun j y hy => (hb.cell (p := ⟨b, o + j, none⟩) (World.block_lt_of_cell? _ _ (h j y hy))).trans (h j y hy)⟩
theorem RdT.of {lo : Nat} {w : World} {a : Option Addr} {l : List ByteArray} (h : ty.SrcS (some lo) w a l) : RdT w a l := by
 rcases h with h | ⟨b, o, e, _, hc⟩
 ·cases h.1
 ·exact ⟨b, o, e, hc⟩
def RdE (w : World) (a : Option Addr) (l : List ty.Et) : Prop := ∃ b o, a = some ⟨b, o, none⟩ ∧ ∀ (j : Nat) (y : ty.Et), l[j]? = some y → ty.CEt none w b (o + j * 4) y
theorem RdE.below {w w' : World} {a : Option Addr} {l : List ty.Et} (h : RdE w a l) (hb : Below w.heap.size w w') : RdE w' a l := by
 obtain ⟨b, o, e, h⟩ := h
 exact ⟨b, o, e, fun j y hy => (h j y hy).below hb⟩
theorem RdE.of {lo : Nat} {w : World} {a : Option Addr} {l : List ty.Et} (h : ty.SrcEt (some lo) w a l) : RdE w a l := by
 rcases h with h | ⟨b, o, e, _, hc⟩
 ·cases h.1
 ·exact ⟨b, o, e, fun j y hy => (hc j y hy).any⟩
theorem ge_of {base : Nat} {w : World} {v : Value} {l : List ty.Et} (h : w.ownsRow base 96 4 v l.length (tt.enC (enT l) l.length)) (hv : v ≠ .slice none 0 0) : ∃ g d, v = .slice (some ⟨g, 0, none⟩) l.length d ∧ ty.GEt base w.heap.size w (some ⟨g, 0, none⟩) l := by
 obtain ⟨g, cap, f, rfl, h1, h2, h3, h4, h5⟩ := tt.own_rowE h hv
 refine ⟨g, cap, rfl, g, 0, _, _, f, fun _ => base, fun _ => base, rfl, h1, h4.lt, h4, by omega, fun i x hx => ?_, fun i j _ _ => .inl (Nat.le_refl _)⟩
 have hi := (List.getElem?_eq_some_iff.1 hx).1
 obtain ⟨q0, q1, q2, q3⟩ := h5 i hi
 rw [enT_some hx] at q0 q1 q2 q3
 have k : ∀ {p : Nat} {v : Value}, p < cap * 4 → w.cell? ⟨g, p, none⟩ = some v → f p = v := fun {p v} hp hc => by
  rw [h4.cell hp] at hc
  exact Option.some.inj hc
 refine ⟨Nat.le_refl _, by show base ≤ _; have := h4.lt; omega, .inr h1, k (by omega) q0, k (by omega) q1, k (by omega) q2, k (by omega) q3⟩
structure Iz where
 x : ty.It
 a2 : Option Addr
 c2 : Nat
 a4 : Option Addr
 c4 : Nat
 s2 : Nat
 e2 : Nat
 s4 : Nat
 e4 : Nat
instance : Inhabited Iz := ⟨⟨default, none, 0, none, 0, 0, 0, 0, 0⟩⟩
def izC (z : Iz) : List Value := [.string z.x.fPath, .string z.x.fSum, .slice z.a2 z.x.fRefs.length z.c2, .string z.x.fFrom, .slice z.a4 z.x.fTree.length z.c4]
def itC : List Iz → List Value
 | [] => []
 | z :: l => izC z ++ itC l
theorem itC_len : ∀ l : List Iz, (itC l).length = l.length * 5
 | [] => rfl
 | z :: l => by rw [itC, List.length_append, itC_len l, List.length_cons]; show 5 + _ = _; omega
theorem itC_app : ∀ l m : List Iz, itC (l ++ m) = itC l ++ itC m
 | [], m => rfl
 | z :: l, m => by rw [List.cons_append, itC, itC, itC_app l m, List.append_assoc]
theorem itC_at : ∀ {l : List Iz} {i : Nat} {z : Iz}, l[i]? = some z → ∀ r, r < 5 → (itC l)[i * 5 + r]? = (izC z)[r]?
 | y :: l, 0, z, h, r, hr => by
  cases h
  rw [itC, Nat.zero_mul, Nat.zero_add, List.getElem?_append_left (by show r < 5; exact hr)]
 | y :: l, i + 1, z, h, r, hr => by
  rw [itC, List.getElem?_append_right (by show 5 ≤ _; omega)]
  have : (i + 1) * 5 + r - (izC y).length = i * 5 + r := by show (i + 1) * 5 + r - 5 = _; omega
  rw [this]
  exact itC_at (l := l) (by simpa using h) r hr
theorem izC_one (z : Iz) : ∀ u ∈ izC z, u.oneCell' = true := by
 intro u hu
 simp only [izC, List.mem_cons, List.not_mem_nil, or_false] at hu
 rcases hu with rfl | rfl | rfl | rfl | rfl <;> rfl
theorem ge_lt {lo hi : Nat} {w : World} {a : Option Addr} {l : List ty.Et} (h : ty.GEt lo hi w a l) : lo < hi := by
 obtain ⟨b, o, t, N, f, s, e, e0, h1, h2, _⟩ := h; omega
theorem make0I {P : Program} (t e : TypeId) (z : Value) (sz bytes : Nat) (ht : P.underlying t = some (.slice e)) (hinfo : (P.info? e).map (fun i => (i.zero, i.size, i.bytes)) = some (some z, sz, bytes))
  (n : Nat) (hbytes : bytes * n ≤ 281474976710656) (h63 : n ≤ 9223372036854775807) (w : World) :
  (Instr.makeSlice t (.int .i64 0) (.int .i64 (n : Int))).run P w = .ok (.slice (some ⟨w.heap.size, 0, none⟩) 0 n) (w.alloc (.cells (madeCells z.cells (n * sz)) e)) := by
 obtain ⟨i, hi, hzz⟩ := Option.map_eq_some_iff.1 hinfo
 simp only [Prod.mk.injEq] at hzz
 obtain ⟨hz, hs, hb⟩ := hzz
 have hb' : (i.bytes : Int) * (n : Int) ≤ 281474976710656 := by
  have h : ((i.bytes * n : Nat) : Int) ≤ 281474976710656 := by rw [hb]; omega
  rwa [Int.natCast_mul] at h
 have hr := run_make (P := P) w t e i z ht hi hz .i64 .i64 0 (n : Int) (by omega) (by omega) hb' (by omega)
 simpa [hs] using hr
theorem cells_newI (W : World) (k : Nat) (hk : k = W.heap.size) (e : TypeId) (vs : List Value) : ∀ j u, vs[j]? = some u → (W.alloc (.cells vs.toArray e)).cell? ((⟨k, 0, none⟩ : Addr).add j) = some u := by
 subst hk
 intro j u h
 have hc : (W.alloc (.cells vs.toArray e)).cell? ⟨W.heap.size, j, none⟩ = vs.toArray[j]? := World.cell?_alloc_new W _ _ j
 rw [addr_add, Nat.zero_add, hc, ← h]
 simp
theorem bel_growI {B : Nat} {w w1 w2 : World} (h : Below B w w1) (hg : w1.grownBy w2 (some B)) (hB : B ≤ w1.heap.size) : Below B w w2 := h.grown hg hB (fun k hk => by cases hk; exact Nat.le_refl _)
theorem own_belowI {w w' : World} {base e size n : Nat} {v : Value} {xs : List Value} (h : w.ownsRow base e size v n xs) (hb : Below w.heap.size w w') : w'.ownsRow base e size v n xs := World.ownsRow.kept h (row := none) ⟨hb.os, hb.tape, hb.output, hb.size, fun j hj _ => hb.block j hj⟩ (Classical.em _)
def RdJ (w : World) (a : Option Addr) (l : List ty.It) : Prop := ∀ (i : Nat) (x : ty.It), l[i]? = some x → ∃ b o a2 c2 a4 c4, a = some ⟨b, o, none⟩ ∧ (w.cell? ⟨b, o + i * 5, none⟩ = some (.string x.fPath) ∧ w.cell? ⟨b, o + i * 5 + 1, none⟩ = some (.string x.fSum) ∧ w.cell? ⟨b, o + i * 5 + 2, none⟩ = some (.slice a2 x.fRefs.length c2) ∧ w.cell? ⟨b, o + i * 5 + 3, none⟩ = some (.string x.fFrom) ∧ w.cell? ⟨b, o + i * 5 + 4, none⟩ = some (.slice a4 x.fTree.length c4)) ∧ RdT w a2 x.fRefs ∧ RdE w a4 x.fTree
theorem RdJ.of {lo : Nat} {w : World} {a : Option Addr} {l : List ty.It} (h : ty.SrcIt (some lo) w a l) : RdJ w a l := fun i x hx => by
 rcases h with h | ⟨b, o, e, _, hc⟩
 ·cases h.1
 ·obtain ⟨a2, c2, a4, c4, q0, q1, q2, q3, q4, s2, s4, _⟩ := hc i x hx
  exact ⟨b, o, a2, c2, a4, c4, e, ⟨q0, q1, q2, q3, q4⟩, RdT.of s2, RdE.of s4⟩
end Go.Proofs.YtpfnnjfapcnbnaaGreatDoor.so
