import Derived.Test.YtlnagmdoepldmaaDoorSJ
namespace Go.Proofs.YtlnagmdoepldmaaDoor.ex
open Go.ChangeShapes Go.WideShapes Go.ChangeAt Go.RowKit Go.Deep
set_option linter.unusedVariables false
set_option linter.unusedSimpArgs false

theorem at_last (us : List Tr) (t : Tr) : Tr.at (us ++ [t]) us.length = t := by simp [Tr.at]

theorem sh8 {O : Nat → Prop} {base r : Nat} (hO : ∀ bb, O bb → bb < base) {t : ByteArray} {n : Int} (vs : List Value) (us : List Tr) (t0 : Tr) (hl : vs.length = us.length) (hm : vs.length ≤ 3000) (a : Option Addr) (cap : Nat) (T : TypeId) (p : Value) (w : World) (hP : PsO w O a vs) (hH : Binds w O base vs fun i => txt r (Tr.at (us ++ [t0]) i)) (hpc : Piece w O base r (.iface T p) (brak t0.kind (txt r t0)))
    (v : Value) (l : List UInt8) (hown : w.ownsRow base 5 1 v l.length (byteCells l)) (hb : Rd base w) (hlen : l.length + (txt (r + 1) (.mk 8 t n (us ++ [t0]))).length ≤ 70368744177664) :
    Calls Tryd.prog 14 #[v, .iface 65 (.agg #[.slice a vs.length cap, .iface T p])] w fun e w' => ∃ v', e = .returned v' ∧ App base w w' v' (l ++ txt (r + 1) (.mk 8 t n (us ++ [t0]))) := by
  have htx : txt (r + 1) (.mk 8 t n (us ++ [t0])) = [108, 101, 116, 32] ++ seqTo (fun i => txt r (Tr.at (us ++ [t0]) i)) vs.length ++ [105, 110, 32] ++ brak t0.kind (txt r t0) := by
    simp [txt, hl, at_last]
  rw [htx] at hlen ⊢
  simp only [List.length_append, List.length_cons, List.length_nil] at hlen
  refine (let_any hO vs _ hm a cap T p _ w hP hH hpc v l hown hb (by omega)).mono ?_
  rintro e w' ⟨v', rfl, h'⟩
  exact ⟨v', rfl, by simpa using h'⟩

theorem sh16_1 {O : Nat → Prop} {base r : Nat} (hO : ∀ bb, O bb → bb < base) {t : ByteArray} {n : Int} {T : TypeId} {p : Value} {t0 : Tr} (k0 : exprK t0.kind = true) (H0 : Sh O base r (.iface T p) t0) (w : World) (v : Value) (l : List UInt8) (hown : w.ownsRow base 5 1 v l.length (byteCells l)) (hb : Rd base w) (n0 : Nd w O r (.iface T p) t0) (hlen : l.length + (txt (r + 1) (.mk 16 t n [t0])).length ≤ 70368744177664) :
    Calls Tryd.prog 14 #[v, .iface 82 (.agg #[.iface T p, .string t, .nilIface])] w fun e w' => ∃ v', e = .returned v' ∧ App base w w' v' (l ++ txt (r + 1) (.mk 16 t n [t0])) := by
  have htx : txt (r + 1) (.mk 16 t n [t0]) = brak t0.kind (txt r t0) ++ [46] ++ t.data.toList := by simp [txt, Tr.at]
  rw [htx] at hlen ⊢
  simp only [List.length_append, List.length_cons, List.length_nil] at hlen
  refine (get_1 hO t T p _ w (pN hO k0 n0 H0) v l hown hb (by omega)).mono ?_
  rintro e w' ⟨v', rfl, h'⟩
  exact ⟨v', rfl, by simpa using h'⟩

theorem sh16_2 {O : Nat → Prop} {base r : Nat} (hO : ∀ bb, O bb → bb < base) {t : ByteArray} {n : Int} {T T2 : TypeId} {p p2 : Value} {t0 t1 : Tr} (k0 : exprK t0.kind = true) (H0 : Sh O base r (.iface T p) t0) (k1 : exprK t1.kind = true) (H1 : Sh O base r (.iface T2 p2) t1) (w : World) (v : Value) (l : List UInt8) (hown : w.ownsRow base 5 1 v l.length (byteCells l)) (hb : Rd base w) (n0 : Nd w O r (.iface T p) t0) (n1 : Nd w O r (.iface T2 p2) t1) (hlen : l.length + (txt (r + 1) (.mk 16 t n [t0, t1])).length ≤ 70368744177664) :
    Calls Tryd.prog 14 #[v, .iface 82 (.agg #[.iface T p, .string t, .iface T2 p2])] w fun e w' => ∃ v', e = .returned v' ∧ App base w w' v' (l ++ txt (r + 1) (.mk 16 t n [t0, t1])) := by
  have htx : txt (r + 1) (.mk 16 t n [t0, t1]) = brak t0.kind (txt r t0) ++ [46] ++ t.data.toList ++ [32, 111, 114, 32] ++ brak t1.kind (txt r t1) := by simp [txt, Tr.at]
  rw [htx] at hlen ⊢
  simp only [List.length_append, List.length_cons, List.length_nil] at hlen
  refine (get_2 hO t T p _ T2 p2 _ w (pN hO k0 n0 H0) (pN hO k1 n1 H1) v l hown hb (by omega)).mono ?_
  rintro e w' ⟨v', rfl, h'⟩
  exact ⟨v', rfl, by simpa using h'⟩

set_option maxRecDepth 100000 in
set_option maxHeartbeats 1000000 in
theorem sh14 {O : Nat → Prop} {base r : Nat} (hO : ∀ bb, O bb → bb < base) {t : ByteArray} {n : Int} (vs : List Value) (us : List Tr) (t0 : Tr) (hl : vs.length = us.length) (hm : vs.length ≤ 3000) (a : Option Addr) (cap : Nat) (T : TypeId) (p : Value) (w : World) (hP : PsO w O a vs) (hH : ∀ w' v' l', App base w w' v' l' → Params w' base vs fun i => txt r (Tr.at (us ++ [t0]) i)) (hpc : Piece w O base r (.iface T p) (brak t0.kind (txt r t0)))
    (v : Value) (l : List UInt8) (hown : w.ownsRow base 5 1 v l.length (byteCells l)) (hb : Rd base w) (hlen : l.length + (txt (r + 1) (.mk 14 t n (us ++ [t0]))).length ≤ 70368744177664) :
    Calls Tryd.prog 14 #[v, .iface 79 (.agg #[.slice a vs.length cap, .bool (n == 1), .iface T p])] w fun e w' => ∃ v', e = .returned v' ∧ App base w w' v' (l ++ txt (r + 1) (.mk 14 t n (us ++ [t0]))) := by
  have htx : txt (r + 1) (.mk 14 t n (us ++ [t0])) = [123] ++ seqTo (sepT fun i => txt r (Tr.at (us ++ [t0]) i)) vs.length ++ (if (n == 1) = true then (btw vs.length).data.toList ++ [46, 46, 46] else []) ++ [125, 58, 32] ++ brak t0.kind (txt r t0) := by
    have e1 : (us ++ [t0]).length - 1 = us.length := by simp
    have e2 : (1 < (us ++ [t0]).length) = (0 < us.length) := by simp
    simp only [txt, e1, e2, hl, at_last, btw_list, beq_iff_eq]
    rfl
  rw [htx] at hlen ⊢
  clear htx
  obtain ⟨B, hB⟩ : ∃ B, (n == 1) = B := ⟨_, rfl⟩
  rw [hB] at hlen ⊢
  clear hB
  have ha0 : App base w (w.alloc (.cells #[.slice a vs.length cap, .bool B, .iface T p] 79)) v l := App.alloc hb.le (App.refl (hown.alloc _))
  have hb0 := hb.app ha0
  simp only [List.length_append, List.length_cons, List.length_nil] at hlen
  have HC := take_any hO vs (fun i => txt r (Tr.at (us ++ [t0]) i)) hm a cap B T p _ _ (hP.kept fun bb hbb => ha0.kept bb (by have := hO bb hbb; have := hb.le; omega) (.inl (hO bb hbb))) (hH _ _ _ ha0) (hpc.app hO hb.le ha0) v l ha0.own hb0 (by omega)
  obtain ⟨F, hF⟩ : ∃ F, [123] ++ seqTo (sepT fun i => txt r (Tr.at (us ++ [t0]) i)) vs.length ++ (if B = true then (btw vs.length).data.toList ++ [46, 46, 46] else []) ++ [125, 58, 32] ++ brak t0.kind (txt r t0) = F := ⟨_, rfl⟩
  have e3 : l ++ [123] ++ seqTo (sepT fun i => txt r (Tr.at (us ++ [t0]) i)) vs.length ++ (if B = true then (btw vs.length).data.toList ++ [46, 46, 46] else []) ++ [125, 58, 32] ++ brak t0.kind (txt r t0) = l ++ F := by rw [← hF]; simp only [List.append_assoc]
  rw [e3] at HC
  rw [hF]
  clear hF e3 hlen hH hP hpc
  obtain ⟨G, hG⟩ : ∃ G, l ++ F = G := ⟨_, rfl⟩
  rw [hG] at HC ⊢
  clear hG
  have HC' : Hid (Calls Tryd.prog 34 #[v, .agg #[.slice a vs.length cap, .bool B, .iface T p]] (w.alloc (.cells #[.slice a vs.length cap, .bool B, .iface T p] 79)) fun e w' => ∃ v', e = .returned v' ∧ App base (w.alloc (.cells #[.slice a vs.length cap, .bool B, .iface T p] 79)) w' v' G) := HC
  clear HC hl
  have a1 := as14_1 (.agg #[.slice a vs.length cap, .bool B, .iface T p])
  have a2 := as14_2 (.agg #[.slice a vs.length cap, .bool B, .iface T p])
  have a3 := as14_3 (.agg #[.slice a vs.length cap, .bool B, .iface T p])
  have a4 := as14_4 (.agg #[.slice a vs.length cap, .bool B, .iface T p])
  have a5 := as14_5 (.agg #[.slice a vs.length cap, .bool B, .iface T p])
  have a8 := as14_8 (.agg #[.slice a vs.length cap, .bool B, .iface T p])
  have a9 := as14_9 (.agg #[.slice a vs.length cap, .bool B, .iface T p])
  have a10 := as14_10 (.agg #[.slice a vs.length cap, .bool B, .iface T p])
  have a11 := as14_11 (.agg #[.slice a vs.length cap, .bool B, .iface T p])
  have a12 := as14_12 (.agg #[.slice a vs.length cap, .bool B, .iface T p])
  have a13 := as14_13 (.agg #[.slice a vs.length cap, .bool B, .iface T p])
  have a14 := as14_14 (.agg #[.slice a vs.length cap, .bool B, .iface T p])
  go_enter Tryd.func14, Tryd.ntmps14
  go_wp2_with (go_at_call 34; refine HC'.out.mono ?_; rintro e w1 ⟨v1, rfl, ha1⟩)
  go_ret
  exact ⟨_, rfl, ha0.trans ha1⟩

end Go.Proofs.YtlnagmdoepldmaaDoor.ex