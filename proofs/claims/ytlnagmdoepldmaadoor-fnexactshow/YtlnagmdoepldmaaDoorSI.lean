import Derived.Test.YtlnagmdoepldmaaDoorSH
namespace Go.Proofs.YtlnagmdoepldmaaDoor.ex
open Go.ChangeShapes Go.WideShapes Go.ChangeAt Go.RowKit Go.Deep
set_option linter.unusedVariables false
set_option linter.unusedSimpArgs false

set_option maxRecDepth 100000 in
set_option maxHeartbeats 2000000 in
theorem let_any {O : Nat → Prop} {base r : Nat} (hO : ∀ bb, O bb → bb < base) (vs : List Value) (X : Nat → List UInt8) (hm : vs.length ≤ 3000) (a : Option Addr) (cap : Nat) (T : TypeId) (p : Value) (ad : List UInt8) (w : World) (hP : PsO w O a vs) (hH : Binds w O base vs X) (hpc : Piece w O base r (.iface T p) ad)
    (v : Value) (l : List UInt8) (hown : w.ownsRow base 5 1 v l.length (byteCells l)) (hb : Rd base w) (hlen : l.length + (seqTo X vs.length).length + ad.length + 7 ≤ 70368744177664) :
    Calls Tryd.prog 14 #[v, .iface 65 (.agg #[.slice a vs.length cap, .iface T p])] w fun e w' => ∃ v', e = .returned v' ∧ App base w w' v' (l ++ [108, 101, 116, 32] ++ seqTo X vs.length ++ [105, 110, 32] ++ ad) := by
  have ha0 : App base w (w.alloc (.cells #[.slice a vs.length cap, .iface T p] 65)) v l := App.alloc hb.le (App.refl (hown.alloc _))
  have hc0 : (w.alloc (.cells #[.slice a vs.length cap, .iface T p] 65)).heap[w.heap.size]? = some (.cells #[.slice a vs.length cap, .iface T p] 65 (0, 0)) := heap_alloc_new w _
  have HB : Hid (∀ w1 v1, App base w w1 v1 (l ++ [108, 101, 116, 32]) → Calls Tryd.prog 32 #[v1, .slice a vs.length cap] w1 fun e w' => ∃ v', e = .returned v' ∧ App base w1 w' v' (l ++ [108, 101, 116, 32] ++ seqTo X vs.length)) := fun w1 v1 h => binds_any hO vs X hm a cap w1 (hP.kept fun bb hbb => h.kept bb (by have := hO bb hbb; have := hb.le; omega) (.inl (hO bb hbb))) (fun i x hx => (hH i x hx).app hO hb.le h) v1 _ h.own (hb.app h) (by simp only [List.length_append, List.length_cons, List.length_nil]; omega)
  have HM : Hid (∀ w1 v1, App base w w1 v1 (l ++ [108, 101, 116, 32] ++ seqTo X vs.length) → Calls Tryd.prog 33 #[v1, .slice (some ⟨w1.heap.size, 0, none⟩) 2 2] (w1.alloc (.cells #[.iface 9 (.string ⟨#[105, 110, 32]⟩), .iface T p] 20)) fun e w' => ∃ v', e = .returned v' ∧ App base w1 w' v' (l ++ [108, 101, 116, 32] ++ seqTo X vs.length ++ [105, 110, 32] ++ ad)) := fun w1 v1 h => by
    have := mix_new (r := r) hO [.iface 9 (.string ⟨#[105, 110, 32]⟩), .iface T p] [(⟨#[105, 110, 32]⟩ : ByteArray).data.toList, ad] w1 v1 _ h.own (hb.app h) rfl (pieces rfl (fun i h1 h2 => by
      match i, h1 with
      | 0, _ => exact pS _
      | 1, _ => exact hpc.app hO hb.le h)) (by simp only [List.length_append, List.length_cons, List.length_nil, List.flatten_cons, List.flatten_nil]; simp; omega) (by simp)
    refine this.mono ?_
    rintro e w' ⟨v', rfl, h'⟩
    exact ⟨v', rfl, by simpa using h'⟩
  clear hP hH hpc
  obtain ⟨len, hle⟩ : ∃ n, vs.length = n := ⟨_, rfl⟩
  rw [hle] at hlen hm ha0 hc0 HB HM ⊢
  clear hle
  obtain ⟨G, hG⟩ : ∃ G, l ++ [108, 101, 116, 32] ++ seqTo X len ++ [105, 110, 32] ++ ad = G := ⟨_, rfl⟩
  rw [hG] at HM ⊢
  clear hG
  have hk1 : Hid (∀ w1 v1 l1, App base (w.alloc (.cells #[.slice a len cap, .iface T p] 65)).drew w1 v1 l1 → w1.heap[w.heap.size]? = some (.cells #[.slice a len cap, .iface T p] 65 (0, 0))) := fun w1 v1 l1 h => h.cells hc0 (by decide)
  have a1 := as8_1 (.agg #[.slice a len cap, .iface T p])
  have a2 := as8_2 (.agg #[.slice a len cap, .iface T p])
  have a3 := as8_3 (.agg #[.slice a len cap, .iface T p])
  have a4 := as8_4 (.agg #[.slice a len cap, .iface T p])
  have a5 := as8_5 (.agg #[.slice a len cap, .iface T p])
  have a8 := as8_8 (.agg #[.slice a len cap, .iface T p])
  go_enter Tryd.func14, Tryd.ntmps14
  go_wp2_with fail
  go_region_held3 (fun w' => w'.cell? ⟨w.heap.size, 0, none⟩ = some (.slice a len cap))
    (first
      | go_keep
      | (simp [World.cell?, ha2.cells (hk1.out _ _ _ ha1) (by decide)])
      | (simp [World.cell?, hk1.out _ _ _ ha1]))
    (first
      | ((refine step_s (by rfl) _ _ (by rfl) v l (by rfl) ha0.drew.own (Nat.le_trans hb.le ha0.drew.below.size) ⟨#[108, 101, 116, 32]⟩ (by rfl) (by simp; omega) ?_; intro v1 w1 ha1))
      | ((go_at_call 32; refine (HB.out _ _ (ha0.drew.trans ha1)).mono ?_; rintro e w2 ⟨v2, rfl, ha2⟩)))
  have hb2 := (ha0.drew.trans ha1).trans ha2
  have hc2 := ha2.cells (hk1.out _ _ _ ha1) (by decide)
  have hc3 : w2.cell? ⟨w.heap.size, 1, none⟩ = some (.iface T p) := by simp [World.cell?, hc2]
  clear hc2
  go_wp2_with (go_at_call 33; refine (HM.out _ _ hb2).mono ?_; rintro e w3 ⟨v3, rfl, ha3⟩)
  go_ret
  exact ⟨_, rfl, hb2.trans ha3⟩

set_option maxRecDepth 100000 in
set_option maxHeartbeats 2000000 in
theorem get_1 {O : Nat → Prop} {base r : Nat} (hO : ∀ bb, O bb → bb < base) (t : ByteArray) (T : TypeId) (p : Value) (ad : List UInt8) (w : World) (hpc : Piece w O base r (.iface T p) ad)
    (v : Value) (l : List UInt8) (hown : w.ownsRow base 5 1 v l.length (byteCells l)) (hb : Rd base w) (hlen : l.length + ad.length + t.data.toList.length + 1 ≤ 70368744177664) :
    Calls Tryd.prog 14 #[v, .iface 82 (.agg #[.iface T p, .string t, .nilIface])] w fun e w' => ∃ v', e = .returned v' ∧ App base w w' v' (l ++ ad ++ [46] ++ t.data.toList) := by
  have ha0 : App base w (w.alloc (.cells #[.iface T p, .string t, .nilIface] 82)) v l := App.alloc hb.le (App.refl (hown.alloc _))
  have hc0 : (w.alloc (.cells #[.iface T p, .string t, .nilIface] 82)).heap[w.heap.size]? = some (.cells #[.iface T p, .string t, .nilIface] 82 (0, 0)) := heap_alloc_new w _
  have ha0d : App base w (w.alloc (.cells #[.iface T p, .string t, .nilIface] 82)).drew v l := ha0.drew
  have HM : Hid (Calls Tryd.prog 33 #[v, .slice (some ⟨w.heap.size + 1, 0, none⟩) 3 3] ((w.alloc (.cells #[.iface T p, .string t, .nilIface] 82)).alloc (.cells #[.iface T p, .iface 9 (.string ⟨#[46]⟩), .iface 9 (.string t)] 20)).drew fun e w' => ∃ v', e = .returned v' ∧ App base (w.alloc (.cells #[.iface T p, .string t, .nilIface] 82)).drew w' v' (l ++ ad ++ [46] ++ t.data.toList)) := by
    have := mix_new (r := r) hO [.iface T p, .iface 9 (.string ⟨#[46]⟩), .iface 9 (.string t)] [ad, (⟨#[46]⟩ : ByteArray).data.toList, t.data.toList] (w.alloc (.cells #[.iface T p, .string t, .nilIface] 82)).drew v l ha0d.own (hb.app ha0d) rfl (pieces rfl (fun i h1 h2 => by
      match i, h1 with
      | 0, _ => exact hpc.app hO hb.le ha0d
      | 1, _ => exact pS _
      | 2, _ => exact pS _)) (by simp only [List.length_append, List.length_cons, List.length_nil, List.flatten_cons, List.flatten_nil]; simp at hlen ⊢; omega) (by simp)
    have e1 : (w.alloc (.cells #[.iface T p, .string t, .nilIface] 82)).drew.heap.size = w.heap.size + 1 := by
      have : (w.alloc (.cells #[.iface T p, .string t, .nilIface] 82)).heap.size = w.heap.size + 1 := by simp
      exact this
    rw [e1] at this
    refine Calls.mono this ?_
    rintro e w' ⟨v', rfl, h'⟩
    exact ⟨v', rfl, by simpa using h'⟩
  have HI : Hid (∀ w1 v1, App base w w1 v1 (l ++ ad ++ [46] ++ t.data.toList) → Calls Tryd.prog 35 #[v1, .string ⟨#[32, 111, 114, 32]⟩, .nilIface] w1 fun e w' => ∃ v', e = .returned v' ∧ App base w1 w' v' (l ++ ad ++ [46] ++ t.data.toList)) := fun w1 v1 h => instead_none _ w1 v1 _ h.own
  have hk1 : Hid (∀ w1 v1 l1, App base (w.alloc (.cells #[.iface T p, .string t, .nilIface] 82)).drew w1 v1 l1 → w1.heap[w.heap.size]? = some (.cells #[.iface T p, .string t, .nilIface] 82 (0, 0))) := fun w1 v1 l1 h => h.cells hc0 (by decide)
  clear hpc
  obtain ⟨F, hF⟩ : ∃ F, l ++ ad ++ [46] ++ t.data.toList = F := ⟨_, rfl⟩
  rw [hF] at HM HI ⊢
  clear hF
  have a1 := as16_1 (.agg #[.iface T p, .string t, .nilIface])
  have a2 := as16_2 (.agg #[.iface T p, .string t, .nilIface])
  have a3 := as16_3 (.agg #[.iface T p, .string t, .nilIface])
  have a4 := as16_4 (.agg #[.iface T p, .string t, .nilIface])
  have a5 := as16_5 (.agg #[.iface T p, .string t, .nilIface])
  have a8 := as16_8 (.agg #[.iface T p, .string t, .nilIface])
  have a9 := as16_9 (.agg #[.iface T p, .string t, .nilIface])
  have a10 := as16_10 (.agg #[.iface T p, .string t, .nilIface])
  have a11 := as16_11 (.agg #[.iface T p, .string t, .nilIface])
  have a12 := as16_12 (.agg #[.iface T p, .string t, .nilIface])
  have a13 := as16_13 (.agg #[.iface T p, .string t, .nilIface])
  have a14 := as16_14 (.agg #[.iface T p, .string t, .nilIface])
  have a16 := as16_16 (.agg #[.iface T p, .string t, .nilIface])
  go_enter Tryd.func14, Tryd.ntmps14
  go_wp2_with fail
  go_region_held3 (fun w' => w'.cell? ⟨w.heap.size, 0, none⟩ = some (.iface T p) ∧ w'.cell? ⟨w.heap.size, 1, none⟩ = some (.string t) ∧ w'.cell? ⟨w.heap.size, 2, none⟩ = some (.nilIface))
    (first
      | go_keep
      | (simp [World.cell?, ha2.cells (hk1.out _ _ _ ha1) (by decide)])
      | (simp [World.cell?, hk1.out _ _ _ ha1]))
    (first
      | ((go_at_call 33; refine HM.out.mono ?_; rintro e w1 ⟨v1, rfl, ha1⟩))
      | ((go_at_call 35; refine (HI.out _ _ (ha0d.trans ha1)).mono ?_; rintro e w2 ⟨v2, rfl, ha2⟩)))
  go_wp2_with fail
  go_ret
  exact ⟨_, rfl, (ha0d.trans ha1).trans ha2⟩

set_option maxRecDepth 100000 in
set_option maxHeartbeats 2000000 in
theorem get_2 {O : Nat → Prop} {base r : Nat} (hO : ∀ bb, O bb → bb < base) (t : ByteArray) (T : TypeId) (p : Value) (ad : List UInt8) (T2 : TypeId) (p2 : Value) (ad2 : List UInt8) (w : World) (hpc : Piece w O base r (.iface T p) ad) (hpc2 : Piece w O base r (.iface T2 p2) ad2)
    (v : Value) (l : List UInt8) (hown : w.ownsRow base 5 1 v l.length (byteCells l)) (hb : Rd base w) (hlen : l.length + ad.length + t.data.toList.length + ad2.length + 5 ≤ 70368744177664) :
    Calls Tryd.prog 14 #[v, .iface 82 (.agg #[.iface T p, .string t, .iface T2 p2])] w fun e w' => ∃ v', e = .returned v' ∧ App base w w' v' (l ++ ad ++ [46] ++ t.data.toList ++ [32, 111, 114, 32] ++ ad2) := by
  have ha0 : App base w (w.alloc (.cells #[.iface T p, .string t, .iface T2 p2] 82)) v l := App.alloc hb.le (App.refl (hown.alloc _))
  have hc0 : (w.alloc (.cells #[.iface T p, .string t, .iface T2 p2] 82)).heap[w.heap.size]? = some (.cells #[.iface T p, .string t, .iface T2 p2] 82 (0, 0)) := heap_alloc_new w _
  have ha0d : App base w (w.alloc (.cells #[.iface T p, .string t, .iface T2 p2] 82)).drew v l := ha0.drew
  have HM : Hid (Calls Tryd.prog 33 #[v, .slice (some ⟨w.heap.size + 1, 0, none⟩) 3 3] ((w.alloc (.cells #[.iface T p, .string t, .iface T2 p2] 82)).alloc (.cells #[.iface T p, .iface 9 (.string ⟨#[46]⟩), .iface 9 (.string t)] 20)).drew fun e w' => ∃ v', e = .returned v' ∧ App base (w.alloc (.cells #[.iface T p, .string t, .iface T2 p2] 82)).drew w' v' (l ++ ad ++ [46] ++ t.data.toList)) := by
    have := mix_new (r := r) hO [.iface T p, .iface 9 (.string ⟨#[46]⟩), .iface 9 (.string t)] [ad, (⟨#[46]⟩ : ByteArray).data.toList, t.data.toList] (w.alloc (.cells #[.iface T p, .string t, .iface T2 p2] 82)).drew v l ha0d.own (hb.app ha0d) rfl (pieces rfl (fun i h1 h2 => by
      match i, h1 with
      | 0, _ => exact hpc.app hO hb.le ha0d
      | 1, _ => exact pS _
      | 2, _ => exact pS _)) (by simp only [List.length_append, List.length_cons, List.length_nil, List.flatten_cons, List.flatten_nil]; simp at hlen ⊢; omega) (by simp)
    have e1 : (w.alloc (.cells #[.iface T p, .string t, .iface T2 p2] 82)).drew.heap.size = w.heap.size + 1 := by
      have : (w.alloc (.cells #[.iface T p, .string t, .iface T2 p2] 82)).heap.size = w.heap.size + 1 := by simp
      exact this
    rw [e1] at this
    refine Calls.mono this ?_
    rintro e w' ⟨v', rfl, h'⟩
    exact ⟨v', rfl, by simpa using h'⟩
  have HI : Hid (∀ w1 v1, App base w w1 v1 (l ++ ad ++ [46] ++ t.data.toList) → Calls Tryd.prog 35 #[v1, .string ⟨#[32, 111, 114, 32]⟩, .iface T2 p2] w1 fun e w' => ∃ v', e = .returned v' ∧ App base w1 w' v' (l ++ ad ++ [46] ++ t.data.toList ++ [32, 111, 114, 32] ++ ad2)) := fun w1 v1 h => by
    have := instead_some (r := r) hO ⟨#[32, 111, 114, 32]⟩ T2 p2 ad2 w1 v1 _ h.own (hb.app h) (hpc2.app hO hb.le h) (by simp only [List.length_append, List.length_cons, List.length_nil, List.flatten_cons, List.flatten_nil]; simp at hlen ⊢; omega)
    refine this.mono ?_
    rintro e w' ⟨v', rfl, h'⟩
    exact ⟨v', rfl, by simpa using h'⟩
  have hk1 : Hid (∀ w1 v1 l1, App base (w.alloc (.cells #[.iface T p, .string t, .iface T2 p2] 82)).drew w1 v1 l1 → w1.heap[w.heap.size]? = some (.cells #[.iface T p, .string t, .iface T2 p2] 82 (0, 0))) := fun w1 v1 l1 h => h.cells hc0 (by decide)
  clear hpc hpc2
  obtain ⟨F, hF⟩ : ∃ F, l ++ ad ++ [46] ++ t.data.toList = F := ⟨_, rfl⟩
  rw [hF] at HM HI ⊢
  clear hF
  obtain ⟨G, hG⟩ : ∃ G, F ++ [32, 111, 114, 32] ++ ad2 = G := ⟨_, rfl⟩
  rw [hG] at HI ⊢
  clear hG
  have a1 := as16_1 (.agg #[.iface T p, .string t, .iface T2 p2])
  have a2 := as16_2 (.agg #[.iface T p, .string t, .iface T2 p2])
  have a3 := as16_3 (.agg #[.iface T p, .string t, .iface T2 p2])
  have a4 := as16_4 (.agg #[.iface T p, .string t, .iface T2 p2])
  have a5 := as16_5 (.agg #[.iface T p, .string t, .iface T2 p2])
  have a8 := as16_8 (.agg #[.iface T p, .string t, .iface T2 p2])
  have a9 := as16_9 (.agg #[.iface T p, .string t, .iface T2 p2])
  have a10 := as16_10 (.agg #[.iface T p, .string t, .iface T2 p2])
  have a11 := as16_11 (.agg #[.iface T p, .string t, .iface T2 p2])
  have a12 := as16_12 (.agg #[.iface T p, .string t, .iface T2 p2])
  have a13 := as16_13 (.agg #[.iface T p, .string t, .iface T2 p2])
  have a14 := as16_14 (.agg #[.iface T p, .string t, .iface T2 p2])
  have a16 := as16_16 (.agg #[.iface T p, .string t, .iface T2 p2])
  go_enter Tryd.func14, Tryd.ntmps14
  go_wp2_with fail
  go_region_held3 (fun w' => w'.cell? ⟨w.heap.size, 0, none⟩ = some (.iface T p) ∧ w'.cell? ⟨w.heap.size, 1, none⟩ = some (.string t) ∧ w'.cell? ⟨w.heap.size, 2, none⟩ = some (.iface T2 p2))
    (first
      | go_keep
      | (simp [World.cell?, ha2.cells (hk1.out _ _ _ ha1) (by decide)])
      | (simp [World.cell?, hk1.out _ _ _ ha1]))
    (first
      | ((go_at_call 33; refine HM.out.mono ?_; rintro e w1 ⟨v1, rfl, ha1⟩))
      | ((go_at_call 35; refine (HI.out _ _ (ha0d.trans ha1)).mono ?_; rintro e w2 ⟨v2, rfl, ha2⟩)))
  go_wp2_with fail
  go_ret
  exact ⟨_, rfl, (ha0d.trans ha1).trans ha2⟩

end Go.Proofs.YtlnagmdoepldmaaDoor.ex