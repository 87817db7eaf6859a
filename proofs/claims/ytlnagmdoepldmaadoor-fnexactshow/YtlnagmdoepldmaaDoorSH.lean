import Derived.Test.YtlnagmdoepldmaaDoorSG
import Derived.Deep.RegionHeld3
import Derived.Deep.AppendLies
namespace Go.Proofs.YtlnagmdoepldmaaDoor.ex
open Go.ChangeShapes Go.WideShapes Go.ChangeAt Go.RowKit Go.Deep
set_option linter.unusedVariables false
set_option linter.unusedSimpArgs false

theorem App.drew {base : Nat} {w w' : World} {v : Value} {l : List UInt8} (h : App base w w' v l) : App base w w'.drew v l := ⟨h.own.drew, h.below.drew, h.kept⟩
theorem App.made {base : Nat} {w w' : World} {v : Value} {l : List UInt8} (hb : base ≤ w.heap.size) (h : App base w w' v l) (o : Obj) : App base w (w'.alloc o) v l :=
  h.trans (App.alloc (Nat.le_trans hb h.below.size) (App.refl (h.own.alloc _)))

/-- Appends at a step of a region that draws its order. -/
theorem step_b {base : Nat} {W : World} {ops : Array Oper} {o : Oper} {a : Act} {K : Act → World → Prop} {Q : Exit → Act → World → Prop} {E : Prop} (hgd : o.guard = none) (s x : Operand)
    (ho : o.op = .call { callee := .builtin .append, args := #[s, x], argTypes := #[35, 35] }) (v : Value) (l : List UInt8) (hs : a.eval s = v) (hown : W.ownsRow base 5 1 v l.length (byteCells l)) (hb : base ≤ W.heap.size) (b : UInt8) (B : Nat)
    (hx : a.eval x = .slice (some ⟨B, 0, none⟩) 1 1) (hB : W.heap[B]? = some (.cells #[.int .u8 (b.toNat : Int)] 5 (0, 0))) (hlen : l.length + 1 ≤ 140737488355328) (h : ∀ v' w', App base W w' v' (l ++ [b]) → K (a.put o.dst v') w') :
    if Region.wanted o (yielded ops a.tmps) = true then Oper.wp Tryd.prog o a W K Q else E := by
  obtain ⟨i0, hi, hz0, hz1, hz2⟩ := info_parts es.info5
  refine step_append_lies W hgd s x 35 ho base 5 i0 _ 1 1 Tryd.underlying35 hi hz0 hz1 hz2 rfl (by omega) v l.length (byteCells l) hs hown ⟨B, 0, none⟩ 1 1 (byteCells [b]) hx rfl (World.news_of_block hB) (byteCells_oneCell _) (by omega) (by unfold maxLen; omega) (by omega) hb _ rfl ?_
  intro g cap w' h1 h2 _ _
  rw [← byteCells_append] at h1
  exact h _ _ (App.one (l' := l ++ [b]) hown hb h2 (by rw [List.length_append]; exact h1))

theorem step_s {base : Nat} {W : World} {ops : Array Oper} {o : Oper} {a : Act} {K : Act → World → Prop} {Q : Exit → Act → World → Prop} {E : Prop} (hgd : o.guard = none) (sl x : Operand)
    (ho : o.op = .call { callee := .builtin .append, args := #[sl, x], argTypes := #[35, 9] }) (v : Value) (l : List UInt8) (hs : a.eval sl = v) (hown : W.ownsRow base 5 1 v l.length (byteCells l)) (hb : base ≤ W.heap.size) (s : ByteArray)
    (hx : a.eval x = .string s) (hlen : l.length + s.data.toList.length ≤ 140737488355328) (h : ∀ v' w', App base W w' v' (l ++ s.data.toList) → K (a.put o.dst v') w') :
    if Region.wanted o (yielded ops a.tmps) = true then Oper.wp Tryd.prog o a W K Q else E := by
  have hw : Region.wanted o (yielded ops a.tmps) = true := by simp [Region.wanted, hgd]
  rw [if_pos hw]
  obtain ⟨i0, hi, hz0, hz1, hz2⟩ := info_parts es.info5
  have hsz : s.data.toList.length = s.size := by simp
  obtain ⟨v', w', hr, h1, h2, _⟩ := Lib.run_append_own_string (P := Tryd.prog) W base 35 9 o.type 5 i0 Tryd.underlying35 Tryd.underlying9 hi hz0 hz1 hz2 v l.length (byteCells l) hown s (by unfold maxLen; omega) (by omega) hb
  unfold Oper.wp execOp
  simp only [ho, resolve, invoke, builtin, Sem.run_bind, Sem.run_pure, Result.andThen_ok, List.map_toArray, List.map_cons, List.map_nil, hs, hx, hr]
  have e : byteCells l ++ Lib.strCells s = byteCells (l ++ s.data.toList) := by rw [byteCells_append]; rfl
  rw [e] at h1
  exact h _ _ (App.one (l' := l ++ s.data.toList) hown hb h2 (by rw [List.length_append, hsz]; exact h1))

set_option maxRecDepth 100000 in
set_option maxHeartbeats 2000000 in
theorem set_plain {O : Nat → Prop} {base : Nat} (hO : ∀ bb, O bb → bb < base) (vs : List Value) (X : Nat → List UInt8) (hm : vs.length ≤ 3000) (a : Option Addr) (cap : Nat) (w : World) (hP : PsO w O a vs) (hH : Binds w O base vs X)
    (v : Value) (l : List UInt8) (hown : w.ownsRow base 5 1 v l.length (byteCells l)) (hb : Rd base w) (hlen : l.length + (seqTo X vs.length).length + 2 ≤ 70368744177664) :
    Calls Tryd.prog 31 #[v, .agg #[.bool false, .slice a vs.length cap]] w fun e w' => ∃ v', e = .returned v' ∧ App base w w' v' (l ++ [123] ++ seqTo X vs.length ++ [125]) := by
  have ha0 : App base w (w.alloc (.cells #[.bool false, .slice a vs.length cap] 62)) v l := App.alloc hb.le (App.refl (hown.alloc _))
  have hc0 : (w.alloc (.cells #[.bool false, .slice a vs.length cap] 62)).heap[w.heap.size]? = some (.cells #[.bool false, .slice a vs.length cap] 62 (0, 0)) := heap_alloc_new w _
  have HB : Hid (∀ w1 v1, App base w w1 v1 (l ++ [123]) → Calls Tryd.prog 32 #[v1, .slice a vs.length cap] w1 fun e w' => ∃ v', e = .returned v' ∧ App base w1 w' v' (l ++ [123] ++ seqTo X vs.length)) := fun w1 v1 h => binds_any hO vs X hm a cap w1 (hP.kept fun bb hbb => h.kept bb (by have := hO bb hbb; have := hb.le; omega) (.inl (hO bb hbb))) (fun i x hx => (hH i x hx).app hO hb.le h) v1 _ h.own (hb.app h) (by simp only [List.length_append, List.length_cons, List.length_nil]; omega)
  clear hP hH
  obtain ⟨len, hle⟩ : ∃ n, vs.length = n := ⟨_, rfl⟩
  rw [hle] at hlen hm ha0 hc0 HB ⊢
  clear hle
  obtain ⟨G, hG⟩ : ∃ G, l ++ [123] ++ seqTo X len ++ [125] = G := ⟨_, rfl⟩
  rw [hG]
  have HG : Hid (l ++ [123] ++ seqTo X len ++ [125] = G) := hG
  clear hG
  have hnew : Hid (∀ (o o' : Obj), ((w.alloc o).alloc o').drew.heap[w.heap.size + 1]? = some o') := fun o o' => by
    have := heap_alloc_new (w.alloc o) o'
    have e : (w.alloc o).heap.size = w.heap.size + 1 := by simp
    rw [e] at this
    exact this
  have hk1 : Hid (∀ (o : Obj) w1 v1 l1, App base ((w.alloc (.cells #[.bool false, .slice a len cap] 62)).alloc o).drew w1 v1 l1 → w1.heap[w.heap.size]? = some (.cells #[.bool false, .slice a len cap] 62 (0, 0))) := fun o w1 v1 l1 h => h.cells (by
    have := Below.heap_alloc (w.alloc (.cells #[.bool false, .slice a len cap] 62)) o w.heap.size (by simp)
    exact this.trans hc0) (by decide)
  go_enter Tryd.func31, Tryd.ntmps31
  go_wp2_with fail
  go_region_held3 (fun w' => w'.cell? ⟨w.heap.size, 1, none⟩ = some (.slice a len cap))
    (first
      | go_keep
      | (simp [World.cell?, ha2.cells (hk1.out _ _ _ _ ha1) (by decide)])
      | (simp [World.cell?, hk1.out _ _ _ _ ha1]))
    (first
      | ((refine step_b (by rfl) _ _ (by rfl) v l (by rfl) (ha0.made hb.le _).drew.own (Nat.le_trans hb.le (ha0.made hb.le _).drew.below.size) 123 (w.heap.size + 1) (by rfl) (hnew.out _ _) (by omega) ?_; intro v1 w1 ha1))
      | ((go_at_call 32; refine (HB.out _ _ ((ha0.made hb.le _).drew.trans ha1)).mono ?_; rintro e w2 ⟨v2, rfl, ha2⟩)))
  have hb2 := (((ha0.made hb.le _).drew.trans ha1).trans ha2)
  have hb2' := hb.app hb2
  go_wp2_with (first
    | (at_builtin; refine app_m w2 rfl rfl _ _ rfl _ _ rfl ha2.own hb2'.le 125 rfl (by simp only [List.length_append, List.length_cons, List.length_nil]; omega) ?_; intro v3 w3 ha3)
    | go_in)
  go_ret
  exact ⟨_, rfl, by rw [← HG.out]; exact hb2.trans ha3⟩

set_option maxRecDepth 100000 in
set_option maxHeartbeats 2000000 in
theorem set_rec {O : Nat → Prop} {base : Nat} (hO : ∀ bb, O bb → bb < base) (vs : List Value) (X : Nat → List UInt8) (hm : vs.length ≤ 3000) (a : Option Addr) (cap : Nat) (w : World) (hP : PsO w O a vs) (hH : Binds w O base vs X)
    (v : Value) (l0 : List UInt8) (hown : w.ownsRow base 5 1 v l0.length (byteCells l0)) (hb : Rd base w) (hlen : l0.length + (seqTo X vs.length).length + 6 ≤ 70368744177664) :
    Calls Tryd.prog 31 #[v, .agg #[.bool true, .slice a vs.length cap]] w fun e w' => ∃ v', e = .returned v' ∧ App base w w' v' (l0 ++ [114, 101, 99, 32] ++ [123] ++ seqTo X vs.length ++ [125]) := by
  have ha0 : App base w (w.alloc (.cells #[.bool true, .slice a vs.length cap] 62)) v l0 := App.alloc hb.le (App.refl (hown.alloc _))
  have hc0 : (w.alloc (.cells #[.bool true, .slice a vs.length cap] 62)).heap[w.heap.size]? = some (.cells #[.bool true, .slice a vs.length cap] 62 (0, 0)) := heap_alloc_new w _
  obtain ⟨l, hl⟩ : ∃ l, l0 ++ [114, 101, 99, 32] = l := ⟨_, rfl⟩
  have HL : Hid (l0 ++ [114, 101, 99, 32] = l) := hl
  have hll : l.length = l0.length + 4 := by rw [← hl]; simp
  have HB : Hid (∀ w1 v1, App base w w1 v1 (l ++ [123]) → Calls Tryd.prog 32 #[v1, .slice a vs.length cap] w1 fun e w' => ∃ v', e = .returned v' ∧ App base w1 w' v' (l ++ [123] ++ seqTo X vs.length)) := fun w1 v1 h => binds_any hO vs X hm a cap w1 (hP.kept fun bb hbb => h.kept bb (by have := hO bb hbb; have := hb.le; omega) (.inl (hO bb hbb))) (fun i x hx => (hH i x hx).app hO hb.le h) v1 _ h.own (hb.app h) (by simp only [List.length_append, List.length_cons, List.length_nil]; omega)
  clear hP hH
  rw [hl]
  clear hl
  obtain ⟨len, hle⟩ : ∃ n, vs.length = n := ⟨_, rfl⟩
  rw [hle] at hlen hm ha0 hc0 HB ⊢
  clear hle
  obtain ⟨G, hG⟩ : ∃ G, l ++ [123] ++ seqTo X len ++ [125] = G := ⟨_, rfl⟩
  rw [hG]
  have HG : Hid (l ++ [123] ++ seqTo X len ++ [125] = G) := hG
  clear hG
  have hb0 := hb.app ha0
  have hnew : Hid (∀ (w1 : World) (o : Obj), (w1.alloc o).drew.heap[w1.heap.size]? = some o) := fun w1 o => heap_alloc_new w1 o
  have hk0 : Hid (∀ w1 v1 l1, App base (w.alloc (.cells #[.bool true, .slice a len cap] 62)) w1 v1 l1 → w1.heap[w.heap.size]? = some (.cells #[.bool true, .slice a len cap] 62 (0, 0))) := fun w1 v1 l1 h => h.cells hc0 (by decide)
  go_enter Tryd.func31, Tryd.ntmps31
  go_wp2_with (first
    | (at_builtin; refine app_s _ rfl _ _ rfl _ l0 rfl ha0.own hb0.le ⟨#[114, 101, 99, 32]⟩ rfl (by simp; omega) ?_; intro v0 w0 ha0'; have hax : App base w w0 v0 l := (by rw [← HL.out]; exact ha0.trans ha0'); have hc1 := hk0.out _ _ _ ha0'; have hc2 : w0.cell? ⟨w.heap.size, 1, none⟩ = some (.slice a len cap) := (by simp [World.cell?, hc1]); have hbx := hb.app hax; have hk1 : Hid (∀ (o : Obj) w1 v1 l1, App base (w0.alloc o).drew w1 v1 l1 → w1.heap[w.heap.size]? = some (.cells #[.bool true, .slice a len cap] 62 (0, 0))) := (fun o w1 v1 l1 h => h.cells ((Below.heap_alloc w0 o w.heap.size (Array.getElem?_eq_some_iff.1 hc1).1).trans hc1) (by decide)))
    | go_in)
  go_region_held3 (fun w' => w'.cell? ⟨w.heap.size, 1, none⟩ = some (.slice a len cap))
    (first
      | go_keep
      | (simp [World.cell?, ha2.cells (hk1.out _ _ _ _ ha1) (by decide)])
      | (simp [World.cell?, hk1.out _ _ _ _ ha1]))
    (first
      | ((refine step_b (by rfl) _ _ (by rfl) v0 l (by rfl) (hax.made hb.le _).drew.own (Nat.le_trans hb.le (hax.made hb.le _).drew.below.size) 123 w0.heap.size (by rfl) (hnew.out _ _) (by omega) ?_; intro v1 w1 ha1))
      | ((go_at_call 32; refine (HB.out _ _ ((hax.made hb.le _).drew.trans ha1)).mono ?_; rintro e w2 ⟨v2, rfl, ha2⟩)))
  have hb2 := (((hax.made hb.le _).drew.trans ha1).trans ha2)
  have hb2' := hb.app hb2
  go_wp2_with (first
    | (at_builtin; refine app_m w2 rfl rfl _ _ rfl _ _ rfl ha2.own hb2'.le 125 rfl (by simp only [List.length_append, List.length_cons, List.length_nil]; omega) ?_; intro v3 w3 ha3)
    | go_in)
  go_ret
  exact ⟨_, rfl, by rw [← HG.out]; exact hb2.trans ha3⟩

set_option maxRecDepth 100000 in
set_option maxHeartbeats 1000000 in
theorem sh5 {O : Nat → Prop} {base r : Nat} (hO : ∀ bb, O bb → bb < base) {t : ByteArray} {n : Int} (vs : List Value) (ps : List Tr) (hl : vs.length = ps.length) (hm : vs.length ≤ 3000) (a : Option Addr) (cap : Nat) (w : World) (hP : PsO w O a vs) (hH : Binds w O base vs fun i => txt r (Tr.at ps i)) (v : Value) (l : List UInt8) (hown : w.ownsRow base 5 1 v l.length (byteCells l)) (hb : Rd base w) (hlen : l.length + (txt (r + 1) (.mk 5 t n ps)).length ≤ 70368744177664) :
    Calls Tryd.prog 14 #[v, .iface 62 (.agg #[.bool (n == 1), .slice a vs.length cap])] w fun e w' => ∃ v', e = .returned v' ∧ App base w w' v' (l ++ txt (r + 1) (.mk 5 t n ps)) := by
  have htx : txt (r + 1) (.mk 5 t n ps) = (if n = 1 then [114, 101, 99, 32] else []) ++ [123] ++ seqTo (fun i => txt r (Tr.at ps i)) vs.length ++ [125] := by simp [txt, hl]
  rw [htx] at hlen ⊢
  clear htx
  have ha0 : App base w (w.alloc (.cells #[.bool (n == 1), .slice a vs.length cap] 62)) v l := App.alloc hb.le (App.refl (hown.alloc _))
  have hb0 := hb.app ha0
  simp only [List.length_append, List.length_cons, List.length_nil] at hlen
  have hP0 : PsO (w.alloc (.cells #[.bool (n == 1), .slice a vs.length cap] 62)) O a vs := hP.kept fun bb hbb => ha0.kept bb (by have := hO bb hbb; have := hb.le; omega) (.inl (hO bb hbb))
  have hH0 : Binds (w.alloc (.cells #[.bool (n == 1), .slice a vs.length cap] 62)) O base vs fun i => txt r (Tr.at ps i) := fun i x hx => (hH i x hx).app hO hb.le ha0
  have HC : Calls Tryd.prog 31 #[v, .agg #[.bool (n == 1), .slice a vs.length cap]] (w.alloc (.cells #[.bool (n == 1), .slice a vs.length cap] 62)) fun e w' => ∃ v', e = .returned v' ∧ App base (w.alloc (.cells #[.bool (n == 1), .slice a vs.length cap] 62)) w' v' (l ++ ((if n = 1 then [114, 101, 99, 32] else []) ++ [123] ++ seqTo (fun i => txt r (Tr.at ps i)) vs.length ++ [125])) := by
    by_cases hn : n = 1
    · have hnb : (n == 1) = true := by simp [hn]
      rw [hnb] at hP0 hH0 ha0 hb0 ⊢
      rw [if_pos hn] at hlen ⊢
      simp only [List.length_cons, List.length_nil] at hlen
      refine (set_rec hO vs _ hm a cap _ hP0 hH0 v l ha0.own hb0 (by omega)).mono ?_
      rintro e w' ⟨v', rfl, h⟩
      exact ⟨v', rfl, by simpa using h⟩
    · have hnb : (n == 1) = false := by simp [hn]
      rw [hnb] at hP0 hH0 ha0 hb0 ⊢
      rw [if_neg hn] at hlen ⊢
      simp only [List.length_cons, List.length_nil] at hlen
      refine (set_plain hO vs _ hm a cap _ hP0 hH0 v l ha0.own hb0 (by omega)).mono ?_
      rintro e w' ⟨v', rfl, h⟩
      exact ⟨v', rfl, by simpa using h⟩
  obtain ⟨G, hG⟩ : ∃ G, l ++ ((if n = 1 then [114, 101, 99, 32] else []) ++ [123] ++ seqTo (fun i => txt r (Tr.at ps i)) vs.length ++ [125]) = G := ⟨_, rfl⟩
  rw [hG] at HC ⊢
  clear hP0 hH0 hP hH hl hG hlen
  obtain ⟨B, hB⟩ : ∃ B, (n == 1) = B := ⟨_, rfl⟩
  rw [hB] at HC ha0 hb0 ⊢
  clear hB
  have HC' : Hid (Calls Tryd.prog 31 #[v, .agg #[.bool B, .slice a vs.length cap]] (w.alloc (.cells #[.bool B, .slice a vs.length cap] 62)) fun e w' => ∃ v', e = .returned v' ∧ App base (w.alloc (.cells #[.bool B, .slice a vs.length cap] 62)) w' v' G) := HC
  clear HC
  have a1 := as5_1 (.agg #[.bool B, .slice a vs.length cap])
  have a2 := as5_2 (.agg #[.bool B, .slice a vs.length cap])
  have a3 := as5_3 (.agg #[.bool B, .slice a vs.length cap])
  have a4 := as5_4 (.agg #[.bool B, .slice a vs.length cap])
  have a5 := as5_5 (.agg #[.bool B, .slice a vs.length cap])
  go_enter Tryd.func14, Tryd.ntmps14
  go_wp2_with (go_at_call 31; refine HC'.out.mono ?_; rintro e w1 ⟨v1, rfl, ha1⟩)
  go_ret
  exact ⟨_, rfl, ha0.trans ha1⟩

end Go.Proofs.YtlnagmdoepldmaaDoor.ex
