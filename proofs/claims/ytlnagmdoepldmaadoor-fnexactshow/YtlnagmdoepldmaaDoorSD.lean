import Derived.Test.YtlnagmdoepldmaaDoorSC
namespace Go.Proofs.YtlnagmdoepldmaaDoor.ex
open Go.ChangeShapes Go.WideShapes Go.ChangeAt Go.RowKit Go.Deep
set_option linter.unusedVariables false
set_option linter.unusedSimpArgs false

theorem pieces {w : World} {O : Nat → Prop} {base r : Nat} {ps : List Value} {ad : List (List UInt8)} (h : ps.length = ad.length) (hp : ∀ (i : Nat) (h1 : i < ps.length) (h2 : i < ad.length), Piece w O base r ps[i] ad[i]) :
    ∀ (i : Nat) (x : Value) (a : List UInt8), ps[i]? = some x → ad[i]? = some a → Piece w O base r x a := by
  intro i x a hx ha
  obtain ⟨h1, rfl⟩ := List.getElem?_eq_some_iff.1 hx
  obtain ⟨h2, rfl⟩ := List.getElem?_eq_some_iff.1 ha
  exact hp i h1 h2

theorem pS {w : World} {O : Nat → Prop} {base r : Nat} (s : ByteArray) : Piece w O base r (.iface 9 (.string s)) s.data.toList := .inl ⟨s, rfl, rfl⟩

/-- A mix that lies in a block just laid. -/
theorem mix_new {O : Nat → Prop} {base r : Nat} (hO : ∀ bb, O bb → bb < base) (ps : List Value) (ad : List (List UInt8)) (w : World) (v : Value) (l : List UInt8) (hown : w.ownsRow base 5 1 v l.length (byteCells l)) (hb : Rd base w) (hl : ad.length = ps.length)
    (hp : ∀ (i : Nat) (x : Value) (a : List UInt8), ps[i]? = some x → ad[i]? = some a → Piece w O base r x a) (hsz : l.length + ad.flatten.length ≤ 70368744177664) (hm : ps.length ≤ 1000) :
    Calls Tryd.prog 33 #[v, .slice (some ⟨w.heap.size, 0, none⟩) ps.length ps.length] (w.alloc (.cells ps.toArray 20)) fun e w' => ∃ v', e = .returned v' ∧ App base w w' v' (l ++ ad.flatten) := by
  have ha : App base (w.alloc (.cells ps.toArray 20)) (w.alloc (.cells ps.toArray 20)) v l := App.refl (hown.alloc _)
  have ha0 : App base w (w.alloc (.cells ps.toArray 20)) v l := App.alloc hb.le ha
  refine (mix_any hO ps ad (w.alloc (.cells ps.toArray 20)) v l w.heap.size (0, 0) (heap_alloc_new w _) (hown.alloc _) (hb.app ha0) hl (fun i x a hx hy => (hp i x a hx hy).app hO hb.le ha0) hsz hm).mono ?_
  rintro e w' ⟨v', rfl, h⟩
  exact ⟨v', rfl, h.alloc hb.le⟩

/-- A piece that is a node. -/
theorem pN {w : World} {O : Nat → Prop} {base r : Nat} {x : Value} {t : Tr} (hO : ∀ bb, O bb → bb < base) (hk : exprK t.kind = true) (hnd : Nd w O r x t) (H : Sh O base r x t) : Piece w O base r x (brak t.kind (txt r t)) := by
  have hnd0 := hnd
  cases r with
  | zero => exact hnd.elim
  | succ r =>
    obtain ⟨k, tt, n, ps⟩ := t
    obtain ⟨_, vs, _, _, hnv⟩ := hnd
    obtain ⟨T, p, rfl, hT⟩ := kindT hnv hk
    exact .inr ⟨T, p, _, rfl, hT, hnd0, pt_of hO hk H, rfl⟩

end Go.Proofs.YtlnagmdoepldmaaDoor.ex
