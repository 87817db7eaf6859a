import Derived.Test.YthbgpfjbfkiljaaGreatDoorG11
import Derived.Test.YthbgpfjbfkiljaaGreatDoorG12
import Derived.Test.YthbgpfjbfkiljaaGreatDoorG05
import Derived.Maps.AppendAt
import Derived.Deep.RegionHeld3
import Derived.WalkLawsBesides
import Derived.Test.YthbgpfjbfkiljaaGreatDoorG01
set_option linter.unusedVariables false
set_option linter.unusedSimpArgs false
set_option maxRecDepth 100000
set_option maxHeartbeats 16000000
namespace Go.Proofs.YthbgpfjbfkiljaaGreatDoor.so
open Go.ChangeShapes Go.WideShapes Go.ChangeAt Go.RowKit Go.Deep Go.Shelf
def enX (x : ty.Et) : tt.En := ⟨x.fPath, x.fKind, x.fData, x.fExec⟩
def enT (l : List ty.Et) (i : Nat) : tt.En := match l[i]? with | some x => enX x | none => ⟨⟨#[]⟩, 0, ⟨#[]⟩, false⟩
theorem enT_some {l : List ty.Et} {i : Nat} {x : ty.Et} (h : l[i]? = some x) : enT l i = enX x := by unfold enT; rw [h]
theorem src_enr {md : Option Nat} {w : World} {b o : Nat} {l : List ty.Et} (h : ∀ (i : Nat) (x : ty.Et), l[i]? = some x → ty.CEt md w b (o + i * 4) x) : tt.EnR w b o l.length (enT l) := fun i hi => by
 obtain ⟨x, hx⟩ : ∃ x, l[i]? = some x := ⟨_, List.getElem?_eq_getElem hi⟩
 obtain ⟨h0, h1, h2, h3⟩ := h i x hx
 rw [enT_some hx]
 exact ⟨h0, h1, h2, h3⟩
theorem small_enr {l : List ty.Et} (h : ty.wtEt l ≤ 1048576) : tt.SmE l.length (enT l) := fun i hi => by
 obtain ⟨x, hx⟩ : ∃ x, l[i]? = some x := ⟨_, List.getElem?_eq_getElem hi⟩
 have := ty.wtEt_mem (List.mem_of_getElem? hx)
 rw [enT_some hx]
 unfold ty.wt1Et at this
 exact ⟨by show x.fPath.size ≤ _; omega, by show x.fData.size ≤ _; omega⟩
def pths (ps : List ty.It) : List (List UInt8) := ps.map fun x => x.fPath.data.toList
theorem pths_len (ps : List ty.It) : (pths ps).length = ps.length := by simp [pths]
theorem pths_take {ps : List ty.It} {i : Nat} {x : ty.It} (h : ps[i]? = some x) : pths (ps.take (i + 1)) = pths (ps.take i) ++ [x.fPath.data.toList] := by
 unfold pths
 rw [List.take_add_one, h]
 simp
theorem ipaths_any (a : Option Addr) (cap : Nat) (ps : List ty.It) (w : World) (hb : ty.SrcIt none w a ps) (hn : ps.length ≤ 1000000) :
  Calls Tryz.prog 121 #[.slice a ps.length cap] w fun e w' => (∃ v, e = .returned v ∧ sr.OwnS w.heap.size w' v (pths ps)) ∧ Below w.heap.size w w' := by
 have HB : Hid (ty.SrcIt none w a ps) := hb
 obtain ⟨n, hnn⟩ : ∃ n, ps.length = n := ⟨_, rfl⟩
 have HN : Hid (ps.length = n) := hnn
 rw [hnn] at hn ⊢
 clear hb hnn
 go_enter Tryz.func121, Tryz.ntmps121
 go_wp2
 go_loopw [3, 9] (fun v y wr => ∃ i : Nat, i ≤ n ∧ y = .int .i64 (i : Int) ∧ sr.OwnS w.heap.size wr v (pths (ps.take i)) ∧ Below w.heap.size w wr) (fun _ y _ => n - (intOf y).toNat)
 case atStart => exact ⟨0, Nat.zero_le _, rfl, by rw [List.take_zero]; exact rf.nil_row w, (Below.refl _ _).alloc (Nat.le_refl _) _⟩
 case round =>
  obtain ⟨i, hi, rfl, hrow, hbel⟩ := hrel
  have HBE : Hid (Below w.heap.size w wr) := hbel
  by_cases hil : i < n
  ·have hil' : (i : Int) < (n : Int) := by omega
   have hi0 : (0 : Int) ≤ (i : Int) := by omega
   obtain ⟨x, hx⟩ : ∃ x, ps[i]? = some x := ⟨_, List.getElem?_eq_getElem (by rw [HN.out]; exact hil)⟩
   rcases HB.out with ⟨_, h⟩ | ⟨b, o, rfl, _, hc⟩
   ·rw [h] at hx; simp at hx
   obtain ⟨a2, c2, a4, c4, g0, g1, g2, g3, g4, s2, s4⟩ := (hc i x hx).below hbel
   have HNX := Lib.hid (pths_take hx)
   have hfl : (pths (ps.take i)).length + 1 ≤ 1000000 := by rw [pths_len, List.length_take]; omega
   obtain ⟨zs, hzs⟩ : ∃ zs, pths (ps.take i) = zs := ⟨_, rfl⟩
   rw [hzs] at hrow HNX hfl
   have HOK : Hid (u3 ≠ .slice none 0 0) := hrow.2
   generalize x.fRefs.length = m2 at *
   generalize x.fTree.length = m4 at *
   obtain ⟨P, hP⟩ : ∃ P, x.fPath = P := ⟨_, rfl⟩
   generalize x.fSum = q1 at *
   generalize x.fFrom = q3 at *
   rw [hP] at g0 HNX
   have HO3 : Hid (∀ ob ob', ((wr.alloc ob).alloc ob').ownsRow w.heap.size 9 1 u3 zs.length (zs.map sr.strL)) := fun ob ob' => (hrow.1.alloc _).alloc _
   have HNE : Hid (∀ ob, ∀ j u, ([P.data.toList].map sr.strL)[j]? = some u → ((wr.alloc ob).alloc (.cells #[.string P] 9)).cell? ((⟨wr.heap.size + 1, 0, none⟩ : Addr).add j) = some u) := fun ob => by
    have := sr.one_at (wr.alloc ob) P.data.toList
    rw [sr.strL_of, World.size_alloc] at this
    exact this
   have HS3 : Hid (∀ ob ob', w.heap.size ≤ ((wr.alloc ob).alloc ob').heap.size) := fun ob ob' => by rw [World.size_alloc, World.size_alloc]; exact Nat.le_trans HBE.out.size (by omega)
   clear hc hx s2 s4 hzs hrow hbel hP
   go_wp2_with (first
    | (at_builtin; refine sr.app_str _ rfl _ _ rfl w.heap.size u3 zs rfl (HO3.out _ _) HOK.out ⟨wr.heap.size + 1, 0, none⟩ 1 1 [P.data.toList] rfl rfl (HNE.out _) (by omega) (HS3.out _ _) ?_; intro v4 w4 hown4 hv4 hg4; refine Hid.out ?_)
    | go_in)
   refine Lib.hid ?_
   have HB4 : Hid (Below w.heap.size w w4) := ((HBE.out.alloc HBE.out.size _).alloc (by rw [World.size_alloc]; have := HBE.out.size; omega) _).grown hg4 (HS3.out _ _) (fun k hk => ((HO3.out (.map #[] 0) (.map #[] 0)).lt k hk).1)
   have HO4 : Hid (sr.OwnS w.heap.size w4 v4 (pths (ps.take (i + 1)))) := by
    show sr.OwnS _ _ _ _
    rw [HNX.out]
    exact ⟨hown4, hv4⟩
   clear hown4 hv4 hg4
   go_wp2
   go_roundw
   case rel => exact ⟨i + 1, by omega, by go_num, HO4.out, HB4.out⟩
   case measure => simp [intOf]; omega
  ·have hil' : ¬ (i : Int) < (n : Int) := by omega
   obtain rfl : i = n := by omega
   have HE : Hid (sr.OwnS w.heap.size wr u3 (pths ps)) := by
    have := hrow
    rwa [List.take_of_length_le (by rw [HN.out]; exact Nat.le_refl _)] at this
   clear hrow hbel
   go_wp2
   go_ret
   exact ⟨⟨_, rfl, HE.out⟩, HBE.out⟩
end Go.Proofs.YthbgpfjbfkiljaaGreatDoor.so

set_option linter.unusedVariables false
set_option linter.unusedSimpArgs false
set_option maxRecDepth 100000
set_option maxHeartbeats 16000000
namespace Go.Proofs.YthbgpfjbfkiljaaGreatDoor.se
open Go.ChangeShapes Go.WideShapes Go.ChangeAt Go.RowKit Go.Deep Go.Maps
def enV (x : ty.Et) : List Value := [.string x.fPath, .int .i64 x.fKind, .string x.fData, .bool x.fExec]
def enA (x : ty.Et) : Value := .agg #[.string x.fPath, .int .i64 x.fKind, .string x.fData, .bool x.fExec]
def enL : List ty.Et → List Value
 | [] => []
 | x :: l => enV x ++ enL l
theorem enL_app (l m : List ty.Et) : enL (l ++ m) = enL l ++ enL m := by
 induction l with
 | nil => rfl
 | cons x l ih => rw [List.cons_append, enL, enL, ih, List.append_assoc]
theorem enV_len (x : ty.Et) : (enV x).length = 4 := rfl
theorem enL_len (l : List ty.Et) : (enL l).length = l.length * 4 := by
 induction l with
 | nil => rfl
 | cons x l ih => rw [enL, List.length_append, ih, enV_len, List.length_cons]; omega
theorem enL_at : ∀ {l : List ty.Et} {i : Nat} {x : ty.Et}, l[i]? = some x → ∀ r, r < 4 → (enL l)[i * 4 + r]? = (enV x)[r]?
 | [], i, x, h, r, hr => by simp at h
 | y :: l, 0, x, h, r, hr => by
  have e : y = x := by simpa using h
  rw [enL, e, show 0 * 4 + r = r by omega, List.getElem?_append_left (by rw [enV_len]; exact hr)]
 | y :: l, i + 1, x, h, r, hr => by
  have hl : (enV y).length = 4 := rfl
  rw [enL, List.getElem?_append_right (by omega), show (i + 1) * 4 + r - (enV y).length = i * 4 + r by omega]
  exact enL_at (by simpa using h) r hr
theorem enV_one (x : ty.Et) : ∀ u ∈ enV x, u.oneCell' = true := by
 intro u hu
 simp only [enV, List.mem_cons, List.not_mem_nil, or_false] at hu
 rcases hu with rfl | rfl | rfl | rfl <;> rfl
theorem enL_one (l : List ty.Et) : ∀ u ∈ enL l, u.oneCell' = true := by
 induction l with
 | nil => intro u hu; cases hu
 | cons x l ih =>
  intro u hu
  rw [enL, List.mem_append] at hu
  rcases hu with h | h
  ·exact enV_one x u h
  ·exact ih u h
def At (w : World) (b o : Nat) (x : ty.Et) : Prop := w.cell? ⟨b, o, none⟩ = some (.string x.fPath) ∧ w.cell? ⟨b, o + 1, none⟩ = some (.int .i64 x.fKind) ∧ w.cell? ⟨b, o + 2, none⟩ = some (.string x.fData) ∧ w.cell? ⟨b, o + 3, none⟩ = some (.bool x.fExec)
theorem At.below {w w' : World} {b o : Nat} {x : ty.Et} (h : At w b o x) (hb : Below w.heap.size w w') : At w' b o x := by
 have hlt : b < w.heap.size := World.block_lt_of_cell? _ _ h.1
 exact ⟨(hb.cell (p := ⟨b, _, none⟩) hlt).trans h.1, (hb.cell (p := ⟨b, _, none⟩) hlt).trans h.2.1, (hb.cell (p := ⟨b, _, none⟩) hlt).trans h.2.2.1, (hb.cell (p := ⟨b, _, none⟩) hlt).trans h.2.2.2⟩
theorem At.kept {w w' : World} {b o : Nat} {x : ty.Et} {row : Option Nat} (h : At w b o x) (hg : w.grownBy w' row) (hne : some b ≠ row) : At w' b o x :=
 ⟨hg.cell h.1 hne, hg.cell h.2.1 hne, hg.cell h.2.2.1 hne, hg.cell h.2.2.2 hne⟩
theorem At.lt {w : World} {b o : Nat} {x : ty.Et} (h : At w b o x) : b < w.heap.size := World.block_lt_of_cell? _ _ h.1
theorem at_new (w : World) (T : Nat) (x : ty.Et) : At (w.alloc (.cells #[.string x.fPath, .int .i64 x.fKind, .string x.fData, .bool x.fExec] T)) w.heap.size 0 x := by
 have h : ∀ j, (w.alloc (.cells #[.string x.fPath, .int .i64 x.fKind, .string x.fData, .bool x.fExec] T)).cell? ⟨w.heap.size, j, none⟩ = (#[Value.string x.fPath, .int .i64 x.fKind, .string x.fData, .bool x.fExec] : Array Value)[j]? := fun j => World.cell?_alloc_new w _ _ j
 refine ⟨?_, ?_, ?_, ?_⟩ <;> rw [h] <;> rfl
theorem at_news {w : World} {b o : Nat} {x : ty.Et} (h : At w b o x) : ∀ j u, (enV x)[j]? = some u → w.cell? ((⟨b, o, none⟩ : Addr).add j) = some u := by
 intro j u hj
 obtain ⟨a0, a1, a2, a3⟩ := h
 rw [addr_add]
 match j, hj with
 | 0, hj => simp [enV] at hj; rw [← hj]; exact a0
 | 1, hj => simp [enV] at hj; rw [← hj]; exact a1
 | 2, hj => simp [enV] at hj; rw [← hj]; exact a2
 | 3, hj => simp [enV] at hj; rw [← hj]; exact a3
 | j + 4, hj => simp [enV] at hj
def EnW (w : World) (bb off : Nat) (xs : List ty.Et) : Prop := ∀ i x, xs[i]? = some x → At w bb (off + i * 4) x
theorem EnW.below {w w' : World} {bb off : Nat} {xs : List ty.Et} (h : EnW w bb off xs) (hb : Below w.heap.size w w') : EnW w' bb off xs := fun i x hx => (h i x hx).below hb
theorem EnW.news {w : World} {bb off : Nat} {xs : List ty.Et} (h : EnW w bb off xs) : ∀ j u, (enL xs)[j]? = some u → w.cell? ((⟨bb, off, none⟩ : Addr).add j) = some u := by
 intro j u hj
 have hlt : j < xs.length * 4 := by have := (List.getElem?_eq_some_iff.1 hj).1; rwa [enL_len] at this
 obtain ⟨x, hx⟩ : ∃ x, xs[j / 4]? = some x := ⟨_, List.getElem?_eq_getElem (by omega)⟩
 have hm : j % 4 < 4 := Nat.mod_lt _ (by omega)
 have e := enL_at hx (j % 4) hm
 rw [show j / 4 * 4 + j % 4 = j by omega, hj] at e
 have := at_news (h _ x hx) (j % 4) u e.symm
 rw [addr_add] at this ⊢
 rwa [show off + j / 4 * 4 + j % 4 = off + j by omega] at this
theorem EnW.enr {w : World} {bb off : Nat} {xs : List ty.Et} (h : EnW w bb off xs) : tt.EnR w bb off xs.length (so.enT xs) := fun i hi => by
 obtain ⟨x, hx⟩ : ∃ x, xs[i]? = some x := ⟨_, List.getElem?_eq_getElem hi⟩
 rw [so.enT_some hx]
 exact h i x hx
def StrR (w : World) (v : Value) (xs : List ty.Et) : Prop := ∃ bb off cap, v = .slice (some ⟨bb, off, none⟩) xs.length cap ∧ xs.length ≤ cap ∧ cap ≤ maxLen ∧ EnW w bb off xs
theorem StrR.below {w w' : World} {v : Value} {xs : List ty.Et} (h : StrR w v xs) (hb : Below w.heap.size w w') : StrR w' v xs := by
 obtain ⟨bb, off, cap, e, h1, h2, hc⟩ := h
 exact ⟨bb, off, cap, e, h1, h2, hc.below hb⟩
def OwnS (base : Nat) (w : World) (v : Value) (xs : List ty.Et) : Prop := w.ownsRow base 62 4 v xs.length (enL xs) ∧ v ≠ .slice none 0 0
theorem OwnS.row {base : Nat} {w : World} {v : Value} {xs : List ty.Et} (h : OwnS base w v xs) : StrR w v xs := by
 obtain ⟨h, hv⟩ := h
 have h0 := h
 obtain ⟨hl, h⟩ := h
 rcases h with ⟨e, _⟩ | ⟨g, cap, cur, rfl, hb, hg, hcs⟩
 ·exact absurd e hv
 ·have hk := World.ownsRow.cells (w := w) (base := base) (e := 62) (size := 4) (v := .slice (some ⟨g, 0, none⟩) xs.length cap) (n := xs.length) (xs := enL xs) h0 (g := g) rfl
  obtain ⟨k1, k2, _⟩ := hcs
  refine ⟨g, 0, cap, rfl, k1, k2, fun i x hx => ?_⟩
  have c : ∀ r, r < 4 → ∀ u, (enV x)[r]? = some u → w.cell? ⟨g, 0 + i * 4 + r, none⟩ = some u := fun r hr u hu => by
   have := hk (i * 4 + r) u ((enL_at hx r hr).trans hu)
   rw [addr_add] at this
   rwa [Nat.add_assoc]
  exact ⟨c 0 (by omega) _ rfl, c 1 (by omega) _ rfl, c 2 (by omega) _ rfl, c 3 (by omega) _ rfl⟩
theorem OwnS.mono {base base' : Nat} {w : World} {v : Value} {xs : List ty.Et} (h : OwnS base w v xs) (hb : base' ≤ base) : OwnS base' w v xs := by
 refine ⟨⟨h.1.1, ?_⟩, h.2⟩
 rcases h.1.2 with ⟨e, _⟩ | ⟨g, cap, cur, e, hg, r⟩
 ·exact absurd e h.2
 ·exact .inr ⟨g, cap, cur, e, Nat.le_trans hb hg, r⟩
theorem OwnS.blk {base : Nat} {w : World} {v : Value} {xs : List ty.Et} (h : OwnS base w v xs) : ∃ g, v.ownBlock = some g ∧ base ≤ g ∧ g < w.heap.size := by
 rcases h.1.2 with ⟨e, _⟩ | ⟨g, cap, cur, rfl, hb, hg, _⟩
 ·exact absurd e h.2
 ·exact ⟨g, rfl, hb, (Array.getElem?_eq_some_iff.1 hg).1⟩
theorem app_en (w : World) {ops : Array Oper} {rest : List Oper} {o : Oper} {a : Act} {Q : Exit → Act → World → Prop} (hgd : o.guard = none) (s x : Operand)
  (ho : o.op = .call { callee := .builtin .append, args := #[s, x], argTypes := #[31, 31] })
  (base : Nat) (v : Value) (xs : List ty.Et) (hs : a.eval s = v) (hown : OwnS base w v xs)
  (ad : Addr) (m c : Nat) (ys : List ty.Et) (hx : a.eval x = .slice (some ad) m c) (hm : ys.length = m) (hnews : ∀ j u, (enL ys)[j]? = some u → w.cell? (ad.add j) = some u) (hlen : xs.length + m ≤ 1000000) (hbase : base ≤ w.heap.size)
  (h : ∀ v' w', OwnS base w' v' (xs ++ ys) → w.grownBy w' v.ownBlock → (v'.ownBlock = v.ownBlock ∨ v'.ownBlock = some w.heap.size) → wpList Tryz.prog ops Q rest (a.put o.dst v') w') : wpList Tryz.prog ops Q (o :: rest) a w := by
 obtain ⟨i, hi, hzz⟩ := Option.map_eq_some_iff.1 tt.infoE
 simp only [Prod.mk.injEq] at hzz
 obtain ⟨hz, hsi, hb⟩ := hzz
 refine wpList_append_own_at w hgd s x 31 ho base 62 i _ 4 48 Tryz.underlying31 hi hz hsi hb rfl (by decide) v xs.length (enL xs) hs hown.1 ad m c (enL ys) hx (by rw [enL_len, hm]) hnews (enL_one ys) (by unfold maxLen; omega) (by omega) hbase (fun v' w' p q r r2 => h v' w' ⟨?_, fun e => hown.2 (r.1 e).1⟩ q r2)
 rw [enL_app, List.length_append, hm]
 exact p
theorem enL_single (x : ty.Et) : enL [x] = enV x := by rw [enL, enL, List.append_nil]
theorem one_en (w : World) (x : ty.Et) : ∀ j u, (enL [x])[j]? = some u → (w.alloc (.cells #[.string x.fPath, .int .i64 x.fKind, .string x.fData, .bool x.fExec] 62)).cell? ((⟨w.heap.size, 0, none⟩ : Addr).add j) = some u := by
 rw [enL_single]
 exact at_news (at_new w _ x)
theorem own_zero (w : World) : OwnS w.heap.size (w.alloc (.cells #[] 62)) (.slice (some ⟨w.heap.size, 0, none⟩) 0 0) [] :=
 ⟨World.ownsRow_made w #[] 0 (Nat.le_refl _) (by decide) rfl, by intro e; cases e⟩
theorem own_made (w : World) (n : Nat) (hn : n ≤ 1048576) (M : Array Value) (hM : M.size = n * 4) : OwnS w.heap.size (w.alloc (.cells M 62)) (.slice (some ⟨w.heap.size, 0, none⟩) 0 n) [] :=
 ⟨World.ownsRow_made w M n (Nat.le_refl _) (by unfold maxLen; omega) hM, by intro e; cases e⟩
def lt (a b : ty.Et) : Bool := Op.bytesLess a.fPath.toList b.fPath.toList
def mrg : Nat → List ty.Et → List ty.Et → List ty.Et
 | 0, l, r => l ++ r
 | _ + 1, l, [] => l
 | f + 1, [], x :: r => x :: mrg f [] r
 | f + 1, y :: l, x :: r => if lt x y = true then x :: mrg f (y :: l) r else y :: mrg f l (x :: r)
def srt : Nat → List ty.Et → List ty.Et
 | 0, l => l
 | f + 1, l => if l.length < 2 then l else mrg l.length (srt f (l.take (l.length / 2))) (srt f (l.drop (l.length / 2)))
theorem mrg_len : ∀ (f : Nat) (l r : List ty.Et), (mrg f l r).length = l.length + r.length
 | 0, l, r => by simp [mrg]
 | f + 1, l, [] => by cases l <;> simp [mrg]
 | f + 1, [], x :: r => by simp [mrg, mrg_len f [] r]
 | f + 1, y :: l, x :: r => by
  unfold mrg
  split
  ·have := mrg_len f (y :: l) r; simp at this ⊢; omega
  ·have := mrg_len f l (x :: r); simp at this ⊢; omega
theorem srt_len : ∀ (f : Nat) (l : List ty.Et), (srt f l).length = l.length
 | 0, l => rfl
 | f + 1, l => by
  unfold srt
  split
  ·rfl
  ·rw [mrg_len, srt_len f, srt_len f, List.length_take, List.length_drop]; omega
theorem mrg_end (f : Nat) (l : List ty.Et) : mrg f l [] = l := by cases f <;> cases l <;> simp [mrg]
theorem drop_at {R : List ty.Et} {i : Nat} {x : ty.Et} (h : R[i]? = some x) : R.drop i = x :: R.drop (i + 1) := by
 obtain ⟨hlt, rfl⟩ := List.getElem?_eq_some_iff.1 h
 exact List.drop_eq_getElem_cons hlt
theorem mrg_zero {R : List ty.Et} {i : Nat} {x : ty.Et} (h : R[i]? = some x) : mrg (([] : List ty.Et).length + (R.length - i)) [] (R.drop i) = x :: mrg (([] : List ty.Et).length + (R.length - (i + 1))) [] (R.drop (i + 1)) := by
 have hlt := (List.getElem?_eq_some_iff.1 h).1
 rw [drop_at h, show ([] : List ty.Et).length + (R.length - i) = (([] : List ty.Et).length + (R.length - (i + 1))) + 1 by simp; omega, mrg]
theorem mrg_less {R l : List ty.Et} {y x : ty.Et} {i : Nat} (h : R[i]? = some x) (hb : lt x y = true) : mrg ((y :: l).length + (R.length - i)) (y :: l) (R.drop i) = x :: mrg ((y :: l).length + (R.length - (i + 1))) (y :: l) (R.drop (i + 1)) := by
 have hlt := (List.getElem?_eq_some_iff.1 h).1
 rw [drop_at h, show (y :: l).length + (R.length - i) = ((y :: l).length + (R.length - (i + 1))) + 1 by simp; omega, mrg, if_pos hb]
theorem mrg_not {R l : List ty.Et} {y x : ty.Et} {i : Nat} (h : R[i]? = some x) (hb : lt x y = false) : mrg ((y :: l).length + (R.length - i)) (y :: l) (R.drop i) = y :: mrg (l.length + (R.length - i)) l (R.drop i) := by
 have hlt := (List.getElem?_eq_some_iff.1 h).1
 rw [drop_at h, show (y :: l).length + (R.length - i) = (l.length + (R.length - i)) + 1 by simp; omega, mrg, if_neg (by simp [hb])]
theorem mrg_perm : ∀ (f : Nat) (l r : List ty.Et), l.length + r.length ≤ f → (mrg f l r).Perm (l ++ r)
 | 0, l, r, _ => List.Perm.refl _
 | f + 1, l, [], _ => by cases l <;> simp [mrg]
 | f + 1, [], x :: r, h => by rw [mrg]; exact (mrg_perm f [] r (by simp at h ⊢; omega)).cons x
 | f + 1, y :: l, x :: r, h => by
  rw [mrg]
  split
  ·exact ((mrg_perm f (y :: l) r (by simp at h ⊢; omega)).cons x).trans (List.perm_middle.symm)
  ·exact (mrg_perm f l (x :: r) (by simp at h ⊢; omega)).cons y
def le (a b : ty.Et) : Prop := ¬ b.fPath.data.toList < a.fPath.data.toList
theorem lt_iff {a b : ty.Et} : lt a b = true ↔ a.fPath.data.toList < b.fPath.data.toList := by
 unfold lt
 constructor
 ·intro h
  apply Decidable.byContradiction
  intro hn
  rw [tt.bl_no hn] at h
  cases h
 ·exact tt.bl_yes
theorem le_trans {a b c : ty.Et} (h : le a b) (h2 : le b c) : le a c := fun h3 => by
 unfold le at h h2
 rcases tt.lt_tri b.fPath.data.toList a.fPath.data.toList with k | k | k
 ·exact h k
 ·rw [← k] at h3; exact h2 h3
 ·exact h2 (List.lt_trans h3 k)
theorem mrg_asc : ∀ (f : Nat) (l r : List ty.Et), l.length + r.length ≤ f → l.Pairwise le → r.Pairwise le → (mrg f l r).Pairwise le
 | 0, l, r, h, hl, hr => by
  have h1 : l = [] := List.length_eq_zero_iff.1 (by omega)
  have h2 : r = [] := List.length_eq_zero_iff.1 (by omega)
  subst h1 h2
  simp [mrg]
 | f + 1, l, [], h, hl, hr => by rw [mrg_end]; exact hl
 | f + 1, [], x :: r, h, hl, hr => by
  rw [mrg, List.pairwise_cons]
  rw [List.pairwise_cons] at hr
  refine ⟨fun y hy => ?_, mrg_asc f [] r (by simp at h ⊢; omega) List.Pairwise.nil hr.2⟩
  have := (mrg_perm f [] r (by simp at h ⊢; omega)).mem_iff.1 hy
  exact hr.1 y (by simpa using this)
 | f + 1, y :: l, x :: r, h, hl, hr => by
  rw [mrg]
  rw [List.pairwise_cons] at hl hr
  split
  ·next hb =>
   have hlt := lt_iff.1 hb
   have hxy : le x y := fun k => List.lt_irrefl _ (List.lt_trans k hlt)
   rw [List.pairwise_cons]
   refine ⟨fun z hz => ?_, mrg_asc f (y :: l) r (by simp at h ⊢; omega) (List.pairwise_cons.2 hl) hr.2⟩
   have := (mrg_perm f (y :: l) r (by simp at h ⊢; omega)).mem_iff.1 hz
   rcases List.mem_append.1 this with k | k
   ·rcases List.mem_cons.1 k with rfl | k
    ·exact hxy
    ·exact le_trans hxy (hl.1 z k)
   ·exact hr.1 z k
  ·next hb =>
   have hyx : le y x := fun k => hb (lt_iff.2 k)
   rw [List.pairwise_cons]
   refine ⟨fun z hz => ?_, mrg_asc f l (x :: r) (by simp at h ⊢; omega) hl.2 (List.pairwise_cons.2 hr)⟩
   have := (mrg_perm f l (x :: r) (by simp at h ⊢; omega)).mem_iff.1 hz
   rcases List.mem_append.1 this with k | k
   ·exact hl.1 z k
   ·rcases List.mem_cons.1 k with rfl | k
    ·exact hyx
    ·exact le_trans hyx (hr.1 z k)
theorem srt_perm : ∀ (f : Nat) (l : List ty.Et), (srt f l).Perm l
 | 0, l => List.Perm.refl _
 | f + 1, l => by
  rw [srt]
  split
  ·exact List.Perm.refl _
  ·refine (mrg_perm _ _ _ (by rw [srt_len, srt_len, List.length_take, List.length_drop]; omega)).trans (((srt_perm f _).append (srt_perm f _)).trans ?_)
   rw [List.take_append_drop]
theorem srt_asc : ∀ (f : Nat) (l : List ty.Et), l.length ≤ 2 ^ f → (srt f l).Pairwise le
 | 0, l, h => by
  match l, h with
  | [], _ => exact List.Pairwise.nil
  | [x], _ => exact List.pairwise_singleton _ _
 | f + 1, l, h => by
  rw [srt]
  split
  ·next h2 =>
   match l, h2 with
   | [], _ => exact List.Pairwise.nil
   | [x], _ => exact List.pairwise_singleton _ _
  ·have hpw : 2 ^ (f + 1) = 2 ^ f + 2 ^ f := by rw [Nat.pow_succ]; omega
   refine mrg_asc _ _ _ ?_ (srt_asc f _ (by rw [List.length_take]; omega)) (srt_asc f _ (by rw [List.length_drop]; omega))
   rw [srt_len, srt_len, List.length_take, List.length_drop]
   omega
end Go.Proofs.YthbgpfjbfkiljaaGreatDoor.se

set_option linter.unusedVariables false
set_option linter.unusedSimpArgs false
set_option maxRecDepth 100000
set_option maxHeartbeats 16000000
namespace Go.Proofs.YthbgpfjbfkiljaaGreatDoor.se
open Go.ChangeShapes Go.WideShapes Go.ChangeAt Go.RowKit Go.Deep Go.Maps
theorem OwnS.below {base : Nat} {w w' : World} {v : Value} {xs : List ty.Et} (h : OwnS base w v xs) (hb : Below w.heap.size w w') : OwnS base w' v xs := ⟨own_below h.1 hb, h.2⟩
theorem bel_app {base : Nat} {w W W' : World} {v : Value} {xs : List ty.Et} (hb : Below base w W) (h : OwnS base W v xs) (hg : W.grownBy W' v.ownBlock) (hB : base ≤ W.heap.size) : Below base w W' :=
 hb.grown hg hB (fun k hk => (h.1.lt k hk).1)
abbrev FV : Value := .func (.func 65) #[] #[]
theorem less_any (x y : ty.Et) (w : World) : Calls Tryz.prog 65 #[enA x, enA y] w fun e w' => e = .returned (.bool (lt x y)) ∧ Below w.heap.size w w' := by
 obtain ⟨r, hr⟩ : ∃ r, lt x y = r := ⟨_, rfl⟩
 have hr' : Op.bytesLess x.fPath.toList y.fPath.toList = r := hr
 rw [hr]
 obtain ⟨p, k, d, b⟩ := x
 obtain ⟨p', k', d', b'⟩ := y
 unfold enA
 clear hr
 go_enter Tryz.func65, Tryz.ntmps65
 go_wp2
 go_ret
 exact ⟨by first | rfl | simp [hr'] | (rw [← hr']; rfl), ((Below.refl _ _).alloc (Nat.le_refl _) _).alloc (by simp) _⟩
theorem clone_any (xs : List ty.Et) (v : Value) (w : World) (hR : StrR w v xs) (hn : xs.length ≤ 262144) :
  Calls Tryz.prog 105 #[v] w fun e w' => ∃ v', e = .returned v' ∧ OwnS w.heap.size w' v' xs ∧ Below w.heap.size w w' := by
 obtain ⟨bb, off, cap, rfl, h1, h2, hc⟩ := hR
 have B0 : Below w.heap.size w (w.alloc (.cells #[] 62)) := (Below.refl _ _).alloc (Nat.le_refl _) _
 have HC : Hid (∀ j u, (enL xs)[j]? = some u → (w.alloc (.cells #[] 62)).cell? ((⟨bb, off, none⟩ : Addr).add j) = some u) := (hc.below B0).news
 have HO : Hid (OwnS w.heap.size (w.alloc (.cells #[] 62)) (.slice (some ⟨w.heap.size, 0, none⟩) 0 0) []) := own_zero w
 clear hc
 have he : ∀ w : World, (binOp .eql 31 (.slice (some ⟨bb, off, none⟩) xs.length cap) (.slice none 0 0)).run Tryz.prog w = .ok (.bool false) w := fun _ => rfl
 go_enter Tryz.func105, Tryz.ntmps105
 go_wp2_with (first
  | (at_builtin; refine app_en _ rfl _ _ rfl w.heap.size (.slice (some ⟨w.heap.size, 0, none⟩) 0 0) [] rfl HO.out ⟨bb, off, none⟩ xs.length cap xs rfl rfl HC.out (by simp; omega) (by simp) ?_)
  | go_in)
 intro v1 w1 hown1 hg1 _
 have B1 := bel_app B0 HO.out hg1 (by simp)
 clear hg1
 go_wp2
 go_ret
 exact ⟨_, rfl, hown1, B1⟩
def slLen : Value → Nat | .slice _ n _ => n | _ => 0
theorem merged_any (L R : List ty.Et) (vl vr : Value) (w : World) (hL : StrR w vl L) (hR : StrR w vr R) (hn : L.length + R.length ≤ 262144) :
  Calls Tryz.prog 106 #[vl, vr, FV] w fun e w' => ∃ v', e = .returned v' ∧ OwnS w.heap.size w' v' (mrg (L.length + R.length) L R) ∧ Below w.heap.size w w' := by
 obtain ⟨bl, ol0, cl0, rfl, l1, l2, hlc⟩ := hL
 obtain ⟨br, orr, cr, rfl, r1, r2, hrc⟩ := hR
 unfold maxLen at l2 r2
 obtain ⟨i0, hi0, hzz⟩ := Option.map_eq_some_iff.1 tt.infoE
 simp only [Prod.mk.injEq] at hzz
 obtain ⟨hz0, hs0, hb0⟩ := hzz
 obtain ⟨M, hM⟩ : ∃ M, M = madeCells (Value.agg #[.string ⟨#[]⟩, .int .i64 0, .string ⟨#[]⟩, .bool false]).cells ((((L.length + R.length : Nat)) : Int).toNat * i0.size) := ⟨_, rfl⟩
 have hMs : M.size = (L.length + R.length) * 4 := by rw [hM, size_madeCells, hs0, Int.toNat_natCast]; first | done | rfl | simp
 have hmk : ∀ W : World, (Instr.makeSlice 31 (.int .i64 0) (.int .i64 ((L.length : Int) + (R.length : Int)))).run Tryz.prog W = .ok (.slice (some ⟨W.heap.size, 0, none⟩) 0 (L.length + R.length)) (W.alloc (.cells M 62)) := fun W => by
  have h := run_make (P := Tryz.prog) W 31 62 i0 (.agg #[.string ⟨#[]⟩, .int .i64 0, .string ⟨#[]⟩, .bool false]) Tryz.underlying31 hi0 hz0 .i64 .i64 0 ((L.length + R.length : Nat) : Int) (by omega) (by omega) (by rw [hb0]; omega) (by omega)
  rw [← hM] at h
  simp only [Int.toNat_natCast, Int.toNat_zero] at h
  rw [← Int.natCast_add]
  exact h
 have HRC : Hid (EnW w br orr R) := hrc
 have HLC : Hid (EnW w bl ol0 L) := hlc
 have HMR : Hid (OwnS w.heap.size (w.alloc (.cells M 62)) (.slice (some ⟨w.heap.size, 0, none⟩) 0 (L.length + R.length)) []) := own_made w _ (by omega) M hMs
 obtain ⟨T, hT⟩ : ∃ T, mrg (L.length + R.length) L R = T := ⟨_, rfl⟩
 rw [hT]
 have HT : Hid (mrg (L.length + R.length) L R = T) := hT
 have hTl : T.length = L.length + R.length := by rw [← hT, mrg_len]
 clear hlc hrc hT hM hMs hz0 hs0 hb0
 go_enter Tryz.func106, Tryz.ntmps106
 go_wp2
 clear hmk
 go_loopw [0, 7, 18] (fun l a x wr => ∃ (i : Nat) (Lr acc : List ty.Et) (ol cl : Nat), i ≤ R.length ∧ x = .int .i64 (i : Int) ∧ l = .slice (some ⟨bl, ol, none⟩) Lr.length cl ∧ Lr.length ≤ cl ∧ cl ≤ 9223372036854775807 ∧ EnW w bl ol Lr ∧ OwnS w.heap.size wr a acc ∧ T = acc ++ mrg (Lr.length + (R.length - i)) Lr (R.drop i) ∧ Below w.heap.size w wr) (fun _ _ x _ => R.length - (intOf x).toNat)
 case atStart => exact ⟨0, L, [], ol0, cl0, Nat.zero_le _, rfl, rfl, l1, by omega, HLC.out, HMR.out, by rw [← HT.out]; rfl, (Below.refl _ _).alloc (Nat.le_refl _) _⟩
 case round =>
  obtain ⟨i, Lr, acc, ol, cl, hi, rfl, rfl, hl1, hl2, hcel, hown, hTT, hbel⟩ := hrel
  have HOWN0 : Hid (OwnS w.heap.size wr u7 acc) := hown
  have HTT0 : Hid (T = acc ++ mrg (Lr.length + (R.length - i)) Lr (R.drop i)) := hTT
  have HCEL0 : Hid (EnW w bl ol Lr) := hcel
  have HBQ0 : Hid (Below w.heap.size w wr) := hbel
  clear hown hTT hcel
  by_cases h : i < R.length
  ·have h' : (i : Int) < (R.length : Int) := by omega
   have hi0' : (0 : Int) ≤ (i : Int) := by omega
   obtain ⟨x, hx⟩ : ∃ x, R[i]? = some x := ⟨_, List.getElem?_eq_getElem h⟩
   have HX : Hid (R[i]? = some x) := hx
   obtain ⟨c0, c1, c2, c3⟩ := (HRC.out i x hx).below hbel
   obtain ⟨eb, heb⟩ : ∃ eb, wr.heap.size = eb := ⟨_, rfl⟩
   obtain ⟨w1, hw1⟩ : ∃ W, wr.alloc (.cells #[.string x.fPath, .int .i64 x.fKind, .string x.fData, .bool x.fExec] 62) = W := ⟨_, rfl⟩
   have HAT : Hid (At w1 eb 0 x) := by rw [← hw1, ← heb]; exact at_new _ _ _
   have HB1 : Hid (Below w.heap.size w w1) := by rw [← hw1]; exact hbel.alloc hbel.size _
   have HO1 : Hid (OwnS w.heap.size w1 u7 acc) := by rw [← hw1]; exact HOWN0.out.below ((Below.refl _ _).alloc (Nat.le_refl _) _)
   have HNE : Hid (u7.ownBlock ≠ some eb) := fun e => by
    obtain ⟨g, hg, _, h3⟩ := HOWN0.out.blk
    rw [hg] at e
    cases e
    omega
   clear hx hbel
   go_wp2_with fail
   try rw [heb]
   try rw [hw1]
   clear heb hw1 c0 c1 c2 c3
   go_loopw [0, 7] (fun l a wq => ∃ (Lr acc : List ty.Et) (ol cl : Nat), l = .slice (some ⟨bl, ol, none⟩) Lr.length cl ∧ Lr.length ≤ cl ∧ cl ≤ 9223372036854775807 ∧ EnW w bl ol Lr ∧ OwnS w.heap.size wq a acc ∧ T = acc ++ mrg (Lr.length + (R.length - i)) Lr (R.drop i) ∧ Below w.heap.size w wq ∧ At wq eb 0 x ∧ a.ownBlock ≠ some eb) (fun l _ _ => slLen l)
   case atStart => exact ⟨Lr, acc, ol, cl, rfl, hl1, hl2, HCEL0.out, HO1.out, HTT0.out, HB1.out, HAT.out, HNE.out⟩
   case round =>
    clear HOWN0 HTT0 HCEL0 HBQ0 hl1 hl2 HAT HB1 HO1 HNE
    obtain ⟨Lr, acc, ol, cl, rfl, hl1, hl2, hcel, hown, hTT, hbel, hat, hne⟩ := hrel
    have HOWN : Hid (OwnS w.heap.size wr u7 acc) := hown
    have HBQ : Hid (Below w.heap.size w wr) := hbel
    have HAT : Hid (At wr eb 0 x) := hat
    have HNE : Hid (u7.ownBlock ≠ some eb) := hne
    have hacc : acc.length ≤ 262144 := by
     have := congrArg List.length hTT
     rw [List.length_append, mrg_len] at this
     omega
    have HLEN : Hid (Lr.length ≤ cl ∧ cl ≤ 9223372036854775807) := ⟨hl1, hl2⟩
    have HCEL : Hid (EnW w bl ol Lr) := hcel
    clear hown hne
    cases Lr with
    | nil =>
     have HTT : Hid (T = acc ++ [x] ++ mrg (([] : List ty.Et).length + (R.length - (i + 1))) [] (R.drop (i + 1))) := by show _ = _; rw [hTT, mrg_zero HX.out]; simp
     obtain ⟨a0, a1, a2, a3⟩ := hat
     have hzz : decide ((0 : Int) < (([] : List ty.Et).length : Int)) = false := rfl
     clear hTT hcel
     try go_wp2_with fail
     go_quiet (fail)
     go_wp2_with (first
      | (at_builtin; refine app_en _ rfl _ _ rfl w.heap.size _ acc rfl ((HOWN.out.below (Go.below_drewN (Below.refl _ _) _)).below ((Below.refl _ _).alloc (Nat.le_refl _) _)) ⟨_, 0, none⟩ 1 1 [x] rfl rfl (one_en _ x) (by omega) (by have := HBQ.out.size; simp; omega) ?_; intro v' w' hown' hg' _; have hb' := bel_app ((Go.below_drewN HBQ.out _).alloc (by have := HBQ.out.size; simp; omega) _) ((HOWN.out.below (Go.below_drewN (Below.refl _ _) _)).below ((Below.refl _ _).alloc (Nat.le_refl _) _)) hg' (by have := HBQ.out.size; simp; omega); clear hg')
      | go_in)
     go_roundw
     case rel => exact ⟨i + 1, [], acc ++ [x], ol, cl, by omega, by go_num, rfl, HLEN.out.1, HLEN.out.2, HCEL.out, hown', HTT.out, hb'⟩
     case measure => simp [intOf]; omega
    | cons y l =>
     obtain ⟨b0, b1, b2, b3⟩ := (hcel 0 y rfl).below hbel
     obtain ⟨a0, a1, a2, a3⟩ := hat
     have hpos : (0 : Int) < ((y :: l).length : Int) := by rw [List.length_cons]; omega
     have HLS : Hid (∀ W, Calls Tryz.prog 65 #[.agg #[.string x.fPath, .int .i64 x.fKind, .string x.fData, .bool x.fExec], .agg #[.string y.fPath, .int .i64 y.fKind, .string y.fData, .bool y.fExec]] W fun e w' => e = .returned (.bool (lt x y)) ∧ Below W.heap.size W w') := fun W => less_any x y W
     simp only [Nat.zero_mul, Nat.add_zero] at b0 b1 b2 b3
     have HK : Hid (∀ W, Below wr.heap.size wr W → W.cell? ⟨eb, 0, none⟩ = some (.string x.fPath) ∧ W.cell? ⟨eb, 1, none⟩ = some (.int .i64 x.fKind) ∧ W.cell? ⟨eb, 2, none⟩ = some (.string x.fData) ∧ W.cell? ⟨eb, 3, none⟩ = some (.bool x.fExec) ∧ W.cell? ⟨bl, ol, none⟩ = some (.string y.fPath) ∧ W.cell? ⟨bl, ol + 1, none⟩ = some (.int .i64 y.fKind) ∧ W.cell? ⟨bl, ol + 2, none⟩ = some (.string y.fData) ∧ W.cell? ⟨bl, ol + 3, none⟩ = some (.bool y.fExec)) := fun W hW => by
      obtain ⟨d0, d1, d2, d3⟩ := HAT.out.below hW
      have h2 : At wr bl ol y := ⟨b0, b1, b2, b3⟩
      obtain ⟨e0, e1, e2, e3⟩ := h2.below hW
      exact ⟨d0, d1, d2, d3, e0, e1, e2, e3⟩
     have hpos1 : 0 < (y :: l).length := by rw [List.length_cons]; omega
     cases hb : lt x y with
     | true =>
      rw [hb] at HLS
      have HTT : Hid (T = acc ++ [x] ++ mrg ((y :: l).length + (R.length - (i + 1))) (y :: l) (R.drop (i + 1))) := by show _ = _; rw [hTT, mrg_less HX.out hb]; simp
      obtain ⟨LL, hLL⟩ : ∃ LL, y :: l = LL := ⟨_, rfl⟩
      rw [hLL] at HTT HLEN HCEL hpos hpos1 ⊢
      clear hTT hcel hb hLL
      try go_wp2_with fail
      go_region_held3 (fun W => W.cell? ⟨eb, 0, none⟩ = some (.string x.fPath) ∧ W.cell? ⟨eb, 1, none⟩ = some (.int .i64 x.fKind) ∧ W.cell? ⟨eb, 2, none⟩ = some (.string x.fData) ∧ W.cell? ⟨eb, 3, none⟩ = some (.bool x.fExec) ∧ W.cell? ⟨bl, ol, none⟩ = some (.string y.fPath) ∧ W.cell? ⟨bl, ol + 1, none⟩ = some (.int .i64 y.fKind) ∧ W.cell? ⟨bl, ol + 2, none⟩ = some (.string y.fData) ∧ W.cell? ⟨bl, ol + 3, none⟩ = some (.bool y.fExec))
       (first | exact HK.out _ (Below.refl _ _).drew | exact HK.out _ hb5 | exact HK.out _ (Below.refl _ _) | go_keep)
       (first | (go_at_call 65; refine (HLS.out _).mono ?_; rintro e w5 ⟨rfl, hl5⟩; have hb5 : Below wr.heap.size wr w5 := (Below.refl wr.heap.size wr).drew.trans hl5))
      have HB5 := Lib.hid hb5
      obtain ⟨d0, d1, d2, d3, e0, e1, e2, e3⟩ := HK.out _ hb5
      clear a0 a1 a2 a3 b0 b1 b2 b3 hl5 hb5
      go_wp2_with (first
       | (at_builtin; refine app_en _ rfl _ _ rfl w.heap.size _ acc rfl ((HOWN.out.below HB5.out).below ((Below.refl _ _).alloc (Nat.le_refl _) _)) ⟨_, 0, none⟩ 1 1 [x] rfl rfl (one_en _ x) (by omega) (by have := HBQ.out.size; have := HB5.out.size; simp; omega) ?_; intro v' w' hown' hg' _; have hb' := bel_app ((HBQ.out.trans (HB5.out.mono HBQ.out.size)).alloc (by have := HBQ.out.size; have := HB5.out.size; omega) _) ((HOWN.out.below HB5.out).below ((Below.refl _ _).alloc (Nat.le_refl _) _)) hg' (by have := HBQ.out.size; have := HB5.out.size; simp; omega); clear hg')
       | go_in)
      go_roundw
      case rel => exact ⟨i + 1, LL, acc ++ [x], ol, cl, by omega, by go_num, rfl, HLEN.out.1, HLEN.out.2, HCEL.out, hown', HTT.out, hb'⟩
      case measure => simp [intOf]; omega
     | false =>
      rw [hb] at HLS
      have HTT : Hid (T = acc ++ [y] ++ mrg (l.length + (R.length - i)) l (R.drop i)) := by show _ = _; rw [hTT, mrg_not HX.out hb]; simp
      obtain ⟨o1, ho1⟩ : ∃ o1, (if cl = 1 then some (⟨bl, ol, none⟩ : Addr) else some ⟨bl, ol + 4, none⟩) = some ⟨bl, o1, none⟩ := by split <;> exact ⟨_, rfl⟩
      have HC1 : Hid (EnW w bl o1 l) := fun j z hz => by
       have hlt := (List.getElem?_eq_some_iff.1 hz).1
       have hne : ¬ cl = 1 := by simp at hl1; omega
       rw [if_neg hne] at ho1
       have e : ol + 4 = o1 := by simpa using ho1
       have := hcel (j + 1) z (by simpa using hz)
       rwa [show ol + (j + 1) * 4 = o1 + j * 4 by omega] at this
      have hl1' : l.length + 1 ≤ cl := by simpa using hl1
      have hone : (1 : Int) ≤ (l.length : Int) + 1 := by omega
      have hlen1 : (y :: l).length = l.length + 1 := rfl
      rw [hlen1] at hpos hpos1 ⊢
      clear hTT hcel hb HCEL HLEN
      try go_wp2_with fail
      go_region_held3 (fun W => W.cell? ⟨eb, 0, none⟩ = some (.string x.fPath) ∧ W.cell? ⟨eb, 1, none⟩ = some (.int .i64 x.fKind) ∧ W.cell? ⟨eb, 2, none⟩ = some (.string x.fData) ∧ W.cell? ⟨eb, 3, none⟩ = some (.bool x.fExec) ∧ W.cell? ⟨bl, ol, none⟩ = some (.string y.fPath) ∧ W.cell? ⟨bl, ol + 1, none⟩ = some (.int .i64 y.fKind) ∧ W.cell? ⟨bl, ol + 2, none⟩ = some (.string y.fData) ∧ W.cell? ⟨bl, ol + 3, none⟩ = some (.bool y.fExec))
       (first | exact HK.out _ (Below.refl _ _).drew | exact HK.out _ hb5 | exact HK.out _ (Below.refl _ _) | go_keep)
       (first | (go_at_call 65; refine (HLS.out _).mono ?_; rintro e w5 ⟨rfl, hl5⟩; have hb5 : Below wr.heap.size wr w5 := (Below.refl wr.heap.size wr).drew.trans hl5))
      have HB5 := Lib.hid hb5
      obtain ⟨d0, d1, d2, d3, e0, e1, e2, e3⟩ := HK.out _ hb5
      clear a0 a1 a2 a3 b0 b1 b2 b3 hl5 hb5
      go_wp2_with (first
       | (at_builtin; refine app_en _ rfl _ _ rfl w.heap.size _ acc rfl ((HOWN.out.below HB5.out).below ((Below.refl _ _).alloc (Nat.le_refl _) _)) ⟨_, 0, none⟩ 1 1 [y] rfl rfl (one_en _ y) (by omega) (by have := HBQ.out.size; have := HB5.out.size; simp; omega) ?_; intro v' w' hown' hg' hat'; refine Hid.out ?_)
       | go_in)
      refine Lib.hid ?_
      have hb' := bel_app ((HBQ.out.trans (HB5.out.mono HBQ.out.size)).alloc (by have := HBQ.out.size; have := HB5.out.size; omega) _) ((HOWN.out.below HB5.out).below ((Below.refl _ _).alloc (Nat.le_refl _) _)) hg' (by have := HBQ.out.size; have := HB5.out.size; simp; omega)
      have HA' : Hid (At w' eb 0 x) := ((HAT.out.below HB5.out).below ((Below.refl _ _).alloc (Nat.le_refl _) _)).kept hg' (fun e => HNE.out e.symm)
      have HN' : Hid (v'.ownBlock ≠ some eb) := fun e => by
       have hlt := (HAT.out.below HB5.out).lt
       rcases hat' with h1 | h1
       ·exact HNE.out (h1.symm.trans e)
       ·rw [h1] at e
        have := Option.some.inj e
        simp at this
        omega
      clear hg' hat'
      go_wp2
      go_roundw
      case rel => exact ⟨l, acc ++ [y], o1, cl - 1, by rfl, by omega, by omega, HC1.out, hown', HTT.out, hb', HA'.out, HN'.out⟩
      case measure => simp [slLen]
  ·have h' : ¬ (i : Int) < (R.length : Int) := by omega
   obtain rfl : i = R.length := by omega
   have HTT : Hid (T = acc ++ Lr) := by show _ = _; rw [HTT0.out, List.drop_length, mrg_end]
   have HCR : Hid (∀ j u, (enL Lr)[j]? = some u → wr.cell? ((⟨bl, ol, none⟩ : Addr).add j) = some u) := (HCEL0.out.below hbel).news
   have hsum : acc.length + Lr.length ≤ 262144 := by
    have := congrArg List.length HTT.out
    rw [List.length_append] at this
    omega
   go_wp2_with (first
    | (at_builtin; refine app_en _ rfl _ _ rfl w.heap.size _ acc rfl HOWN0.out ⟨bl, ol, none⟩ Lr.length cl Lr rfl rfl HCR.out (by omega) HBQ0.out.size ?_; intro v' w' hown' hg' _; have hb' := bel_app HBQ0.out HOWN0.out hg' HBQ0.out.size; clear hg')
    | go_in)
   go_ret
   exact ⟨_, rfl, by rw [HTT.out]; exact hown', hb'⟩
end Go.Proofs.YthbgpfjbfkiljaaGreatDoor.se

set_option linter.unusedVariables false
set_option linter.unusedSimpArgs false
set_option maxRecDepth 100000
set_option maxHeartbeats 16000000
namespace Go.Proofs.YthbgpfjbfkiljaaGreatDoor.se
open Go.ChangeShapes Go.WideShapes Go.ChangeAt Go.RowKit Go.Deep
def SoC (f : Nat) : Prop := ∀ (xs : List ty.Et) (v : Value) (w : World), StrR w v xs → xs.length ≤ 2 ^ f → xs.length ≤ 262144 →
 Calls Tryz.prog 64 #[v, FV] w fun e w' => ∃ v', e = .returned v' ∧ OwnS w.heap.size w' v' (srt f xs) ∧ Below w.heap.size w w'
theorem srt_small {f : Nat} {xs : List ty.Et} (h : xs.length < 2) : srt f xs = xs := by
 cases f with
 | zero => rfl
 | succ f => rw [srt, if_pos h]
theorem StrR.take {w : World} {bb off cap k : Nat} {xs : List ty.Et} (h1 : xs.length ≤ cap) (h2 : cap ≤ maxLen) (hc : EnW w bb off xs) (hk : k ≤ xs.length) : StrR w (.slice (some ⟨bb, off, none⟩) k cap) (xs.take k) := by
 refine ⟨bb, off, cap, by rw [List.length_take, Nat.min_eq_left hk], by rw [List.length_take]; omega, h2, fun i x hx => ?_⟩
 rw [List.getElem?_take] at hx
 split at hx
 ·exact hc i x hx
 ·cases hx
theorem StrR.drop {w : World} {bb off o1 cap k : Nat} {xs : List ty.Et} (h1 : xs.length ≤ cap) (h2 : cap ≤ maxLen) (hc : EnW w bb off xs) (hk : k ≤ xs.length) (ho : (if cap = k then some (⟨bb, off, none⟩ : Addr) else some ⟨bb, off + k * 4, none⟩) = some ⟨bb, o1, none⟩) : StrR w (.slice (some ⟨bb, o1, none⟩) (xs.length - k) (cap - k)) (xs.drop k) := by
 refine ⟨bb, o1, cap - k, by rw [List.length_drop], by rw [List.length_drop]; omega, by omega, fun i x hx => ?_⟩
 rw [List.getElem?_drop] at hx
 have hlt := (List.getElem?_eq_some_iff.1 hx).1
 rw [if_neg (by omega)] at ho
 have e : off + k * 4 = o1 := by simpa using ho
 have := hc _ x hx
 rwa [show off + (k + i) * 4 = o1 + i * 4 by omega] at this
theorem sorted_small {f : Nat} (xs : List ty.Et) (v : Value) (w : World) (hR : StrR w v xs) (h : xs.length < 2) :
  Calls Tryz.prog 64 #[v, FV] w fun e w' => ∃ v', e = .returned v' ∧ OwnS w.heap.size w' v' (srt f xs) ∧ Below w.heap.size w w' := by
 rw [srt_small h]
 have HCL : Hid (Calls Tryz.prog 105 #[v] w fun e w' => ∃ v', e = .returned v' ∧ OwnS w.heap.size w' v' xs ∧ Below w.heap.size w w') := clone_any xs v w hR (by omega)
 obtain ⟨bb, off, cap, rfl, h1, h2, hc⟩ := hR
 have h' : (xs.length : Int) < 2 := by omega
 clear hc
 go_enter Tryz.func64, Tryz.ntmps64
 go_wp2_with (go_at_call 105; refine HCL.out.mono ?_; rintro e w1 ⟨v1, rfl, hs1, hb1⟩)
 go_ret
 exact ⟨_, rfl, hs1, hb1⟩
theorem sorted_all : ∀ f, SoC f := by
 intro f
 induction f with
 | zero => intro xs v w hR h _; exact sorted_small xs v w hR (by simp at h; omega)
 | succ f ih =>
  intro xs v w hR hp hn
  by_cases h : xs.length < 2
  ·exact sorted_small xs v w hR h
  have hsr : srt (f + 1) xs = mrg xs.length (srt f (xs.take (xs.length / 2))) (srt f (xs.drop (xs.length / 2))) := by rw [srt, if_neg h]
  obtain ⟨bb, off, cap, rfl, h1, h2, hc⟩ := hR
  obtain ⟨k, hk⟩ : ∃ k, xs.length / 2 = k := ⟨_, rfl⟩
  rw [hk] at hsr
  have hkl : k ≤ xs.length := by omega
  have hpw : 2 ^ (f + 1) = 2 ^ f + 2 ^ f := by rw [Nat.pow_succ]; omega
  obtain ⟨o1, ho1⟩ : ∃ o1, (if cap = k then some (⟨bb, off, none⟩ : Addr) else some ⟨bb, off + k * 4, none⟩) = some ⟨bb, o1, none⟩ := by split <;> exact ⟨_, rfl⟩
  have HA : Hid (StrR w.drew (.slice (some ⟨bb, off, none⟩) k cap) (xs.take k)) := StrR.take h1 h2 hc hkl
  have HB : Hid (StrR w.drew (.slice (some ⟨bb, o1, none⟩) (xs.length - k) (cap - k)) (xs.drop k)) := StrR.drop h1 h2 hc hkl ho1
  have HI1 : Hid (∀ w1 : World, StrR w1 (.slice (some ⟨bb, off, none⟩) k cap) (xs.take k) → Calls Tryz.prog 64 #[.slice (some ⟨bb, off, none⟩) k cap, FV] w1 fun e w' => ∃ v', e = .returned v' ∧ OwnS w1.heap.size w' v' (srt f (xs.take k)) ∧ Below w1.heap.size w1 w') := fun w1 hr => ih _ _ w1 hr (by rw [List.length_take]; omega) (by rw [List.length_take]; omega)
  have HI2 : Hid (∀ w1 : World, StrR w1 (.slice (some ⟨bb, o1, none⟩) (xs.length - k) (cap - k)) (xs.drop k) → Calls Tryz.prog 64 #[.slice (some ⟨bb, o1, none⟩) (xs.length - k) (cap - k), FV] w1 fun e w' => ∃ v', e = .returned v' ∧ OwnS w1.heap.size w' v' (srt f (xs.drop k)) ∧ Below w1.heap.size w1 w') := fun w1 hr => ih _ _ w1 hr (by rw [List.length_drop]; omega) (by rw [List.length_drop]; omega)
  have HMG : Hid (∀ (w1 : World) (v1 v2 : Value), StrR w1 v1 (srt f (xs.take k)) → StrR w1 v2 (srt f (xs.drop k)) → Calls Tryz.prog 106 #[v1, v2, FV] w1 fun e w' => ∃ v', e = .returned v' ∧ OwnS w1.heap.size w' v' (srt (f + 1) xs) ∧ Below w1.heap.size w1 w') := fun w1 v1 v2 s1 s2 => by
   have := merged_any _ _ v1 v2 w1 s1 s2 (by rw [srt_len, srt_len, List.length_take, List.length_drop]; omega)
   rw [srt_len, srt_len, List.length_take, List.length_drop, show min k xs.length + (xs.length - k) = xs.length by omega, ← hsr] at this
   exact this
  have h' : ¬ (xs.length : Int) < 2 := by omega
  have hdv : ((xs.length : Int) / 2) = (k : Int) := by omega
  have hdt : (Int.tdiv (xs.length : Int) 2) = (k : Int) := by rw [Int.tdiv_eq_ediv_of_nonneg (by omega)]; exact hdv
  have k1 : (k : Int) ≤ (cap : Int) := by omega
  have k2 : (k : Int) ≤ (xs.length : Int) := by omega
  have k0 : (0 : Int) ≤ (k : Int) := by omega
  have HF : Hid True := trivial
  clear ih hc hsr hp hpw hk
  go_enter Tryz.func64, Tryz.ntmps64
  go_wp2_with fail
  go_region_held3 (fun _ => True)
   (trivial)
   (first
    | ((go_at_call 64; have := HF.out; refine (HI1.out _ HA.out).mono ?_; rintro e w1 ⟨v1, rfl, hs1, hb1⟩; have HB1 := HB.out.below hb1; clear HF))
    | ((go_at_call 64; refine (HI2.out _ HB1).mono ?_; rintro e w2 ⟨v2, rfl, hs2, hb2⟩))
    | ((go_at_call 106; refine (HMG.out _ _ _ (hs1.row.below hb2) hs2.row).mono ?_; rintro e w3 ⟨v3, rfl, hs3, hb3⟩)))
  go_wp2_with fail
  go_ret
  have hb01 : Below w.heap.size w w1 := (show Below w.heap.size w w.drew from (Below.refl _ _).drew).trans hb1
  have hb02 := hb01.trans (hb2.mono hb01.size)
  exact ⟨_, rfl, hs3.mono hb02.size, hb02.trans (hb3.mono hb02.size)⟩
end Go.Proofs.YthbgpfjbfkiljaaGreatDoor.se
