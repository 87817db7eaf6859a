import Derived.Test.YtlnagmdoepldmaaDoorSD
namespace Go.Proofs.YtlnagmdoepldmaaDoor.ex
open Go.ChangeShapes Go.WideShapes Go.ChangeAt Go.RowKit Go.Deep
set_option linter.unusedVariables false
set_option linter.unusedSimpArgs false

set_option maxRecDepth 100000 in
set_option maxHeartbeats 1000000 in
theorem sh9 {O : Nat → Prop} {base r : Nat} (hO : ∀ bb, O bb → bb < base) {t : ByteArray} {n : Int} {xt : TypeId} {xp : Value} {yt : TypeId} {yp : Value} {t0 t1 : Tr} (k0 : exprK t0.kind = true) (H0 : Sh O base r (.iface xt xp) t0) (k1 : exprK t1.kind = true) (H1 : Sh O base r (.iface yt yp) t1) (w : World) (v : Value) (l : List UInt8) (hown : w.ownsRow base 5 1 v l.length (byteCells l)) (hb : Rd base w) (n0 : Nd w O r (.iface xt xp) t0) (n1 : Nd w O r (.iface yt yp) t1) (hlen : l.length + (txt (r + 1) (.mk 9 t n [t0, t1])).length ≤ 70368744177664) :
    Calls Tryd.prog 14 #[v, .iface 69 (.agg #[.iface xt xp, .iface yt yp])] w fun e w' => ∃ v', e = .returned v' ∧ App base w w' v' (l ++ txt (r + 1) (.mk 9 t n [t0, t1])) := by
  have htx : txt (r + 1) (.mk 9 t n [t0, t1]) = ([(⟨#[119, 105, 116, 104, 32]⟩ : ByteArray).data.toList, brak t0.kind (txt r t0), (⟨#[59, 32]⟩ : ByteArray).data.toList, brak t1.kind (txt r t1)] : List (List UInt8)).flatten := by simp [txt, Tr.at]
  rw [htx] at hlen ⊢
  clear htx
  have ha0 : App base w (w.alloc (.cells #[.iface xt xp, .iface yt yp] 69)) v l := App.alloc hb.le (App.refl (hown.alloc _))
  have q0 := (pN hO k0 n0 H0).app hO hb.le ha0
  have q1 := (pN hO k1 n1 H1).app hO hb.le ha0
  have HC := mix_new (r := r) hO [.iface 9 (.string ⟨#[119, 105, 116, 104, 32]⟩), .iface xt xp, .iface 9 (.string ⟨#[59, 32]⟩), .iface yt yp] [(⟨#[119, 105, 116, 104, 32]⟩ : ByteArray).data.toList, brak t0.kind (txt r t0), (⟨#[59, 32]⟩ : ByteArray).data.toList, brak t1.kind (txt r t1)] (w.alloc (.cells #[.iface xt xp, .iface yt yp] 69)) v l (hown.alloc _) (hb.app ha0) rfl (pieces rfl (fun i h1 h2 => by
    match i, h1 with
    | 0, _ => exact pS _
    | 1, _ => exact q0
    | 2, _ => exact pS _
    | 3, _ => exact q1)) hlen (by simp)
  have e1 : (w.alloc (.cells #[.iface xt xp, .iface yt yp] 69)).heap.size = w.heap.size + 1 := by simp
  rw [e1] at HC
  obtain ⟨F, hF⟩ : ∃ F, ([(⟨#[119, 105, 116, 104, 32]⟩ : ByteArray).data.toList, brak t0.kind (txt r t0), (⟨#[59, 32]⟩ : ByteArray).data.toList, brak t1.kind (txt r t1)] : List (List UInt8)).flatten = F := ⟨_, rfl⟩
  rw [hF] at HC ⊢
  have HC' : Hid (Calls Tryd.prog 33 #[v, .slice (some ⟨w.heap.size + 1, 0, none⟩) 4 4] ((w.alloc (.cells #[.iface xt xp, .iface yt yp] 69)).alloc (.cells #[.iface 9 (.string ⟨#[119, 105, 116, 104, 32]⟩), .iface xt xp, .iface 9 (.string ⟨#[59, 32]⟩), .iface yt yp] 20)) fun e w' => ∃ v', e = .returned v' ∧ App base (w.alloc (.cells #[.iface xt xp, .iface yt yp] 69)) w' v' (l ++ F)) := HC
  clear HC e1 hF hlen q0 H0 n0 k0 q1 H1 n1 k1
  have a1 := as9_1 (.agg #[.iface xt xp, .iface yt yp])
  have a2 := as9_2 (.agg #[.iface xt xp, .iface yt yp])
  have a3 := as9_3 (.agg #[.iface xt xp, .iface yt yp])
  have a4 := as9_4 (.agg #[.iface xt xp, .iface yt yp])
  have a5 := as9_5 (.agg #[.iface xt xp, .iface yt yp])
  have a8 := as9_8 (.agg #[.iface xt xp, .iface yt yp])
  have a9 := as9_9 (.agg #[.iface xt xp, .iface yt yp])
  go_enter Tryd.func14, Tryd.ntmps14
  go_wp2_with (go_at_call 33; refine HC'.out.mono ?_; rintro e w1 ⟨v1, rfl, ha1⟩)
  go_ret
  exact ⟨_, rfl, ha0.trans ha1⟩

set_option maxRecDepth 100000 in
set_option maxHeartbeats 1000000 in
theorem sh10 {O : Nat → Prop} {base r : Nat} (hO : ∀ bb, O bb → bb < base) {t : ByteArray} {n : Int} {xt : TypeId} {xp : Value} {yt : TypeId} {yp : Value} {t0 t1 : Tr} (k0 : exprK t0.kind = true) (H0 : Sh O base r (.iface xt xp) t0) (k1 : exprK t1.kind = true) (H1 : Sh O base r (.iface yt yp) t1) (w : World) (v : Value) (l : List UInt8) (hown : w.ownsRow base 5 1 v l.length (byteCells l)) (hb : Rd base w) (n0 : Nd w O r (.iface xt xp) t0) (n1 : Nd w O r (.iface yt yp) t1) (hlen : l.length + (txt (r + 1) (.mk 10 t n [t0, t1])).length ≤ 70368744177664) :
    Calls Tryd.prog 14 #[v, .iface 71 (.agg #[.iface xt xp, .iface yt yp])] w fun e w' => ∃ v', e = .returned v' ∧ App base w w' v' (l ++ txt (r + 1) (.mk 10 t n [t0, t1])) := by
  have htx : txt (r + 1) (.mk 10 t n [t0, t1]) = ([(⟨#[97, 115, 115, 101, 114, 116, 32]⟩ : ByteArray).data.toList, brak t0.kind (txt r t0), (⟨#[59, 32]⟩ : ByteArray).data.toList, brak t1.kind (txt r t1)] : List (List UInt8)).flatten := by simp [txt, Tr.at]
  rw [htx] at hlen ⊢
  clear htx
  have ha0 : App base w (w.alloc (.cells #[.iface xt xp, .iface yt yp] 71)) v l := App.alloc hb.le (App.refl (hown.alloc _))
  have q0 := (pN hO k0 n0 H0).app hO hb.le ha0
  have q1 := (pN hO k1 n1 H1).app hO hb.le ha0
  have HC := mix_new (r := r) hO [.iface 9 (.string ⟨#[97, 115, 115, 101, 114, 116, 32]⟩), .iface xt xp, .iface 9 (.string ⟨#[59, 32]⟩), .iface yt yp] [(⟨#[97, 115, 115, 101, 114, 116, 32]⟩ : ByteArray).data.toList, brak t0.kind (txt r t0), (⟨#[59, 32]⟩ : ByteArray).data.toList, brak t1.kind (txt r t1)] (w.alloc (.cells #[.iface xt xp, .iface yt yp] 71)) v l (hown.alloc _) (hb.app ha0) rfl (pieces rfl (fun i h1 h2 => by
    match i, h1 with
    | 0, _ => exact pS _
    | 1, _ => exact q0
    | 2, _ => exact pS _
    | 3, _ => exact q1)) hlen (by simp)
  have e1 : (w.alloc (.cells #[.iface xt xp, .iface yt yp] 71)).heap.size = w.heap.size + 1 := by simp
  rw [e1] at HC
  obtain ⟨F, hF⟩ : ∃ F, ([(⟨#[97, 115, 115, 101, 114, 116, 32]⟩ : ByteArray).data.toList, brak t0.kind (txt r t0), (⟨#[59, 32]⟩ : ByteArray).data.toList, brak t1.kind (txt r t1)] : List (List UInt8)).flatten = F := ⟨_, rfl⟩
  rw [hF] at HC ⊢
  have HC' : Hid (Calls Tryd.prog 33 #[v, .slice (some ⟨w.heap.size + 1, 0, none⟩) 4 4] ((w.alloc (.cells #[.iface xt xp, .iface yt yp] 71)).alloc (.cells #[.iface 9 (.string ⟨#[97, 115, 115, 101, 114, 116, 32]⟩), .iface xt xp, .iface 9 (.string ⟨#[59, 32]⟩), .iface yt yp] 20)) fun e w' => ∃ v', e = .returned v' ∧ App base (w.alloc (.cells #[.iface xt xp, .iface yt yp] 71)) w' v' (l ++ F)) := HC
  clear HC e1 hF hlen q0 H0 n0 k0 q1 H1 n1 k1
  have a1 := as10_1 (.agg #[.iface xt xp, .iface yt yp])
  have a2 := as10_2 (.agg #[.iface xt xp, .iface yt yp])
  have a3 := as10_3 (.agg #[.iface xt xp, .iface yt yp])
  have a4 := as10_4 (.agg #[.iface xt xp, .iface yt yp])
  have a5 := as10_5 (.agg #[.iface xt xp, .iface yt yp])
  have a8 := as10_8 (.agg #[.iface xt xp, .iface yt yp])
  have a9 := as10_9 (.agg #[.iface xt xp, .iface yt yp])
  have a10 := as10_10 (.agg #[.iface xt xp, .iface yt yp])
  go_enter Tryd.func14, Tryd.ntmps14
  go_wp2_with (go_at_call 33; refine HC'.out.mono ?_; rintro e w1 ⟨v1, rfl, ha1⟩)
  go_ret
  exact ⟨_, rfl, ha0.trans ha1⟩

set_option maxRecDepth 100000 in
set_option maxHeartbeats 1000000 in
theorem sh11 {O : Nat → Prop} {base r : Nat} (hO : ∀ bb, O bb → bb < base) {t : ByteArray} {n : Int} {xt : TypeId} {xp : Value} {yt : TypeId} {yp : Value} {t0 t1 : Tr} (k0 : exprK t0.kind = true) (H0 : Sh O base r (.iface xt xp) t0) (k1 : exprK t1.kind = true) (H1 : Sh O base r (.iface yt yp) t1) (w : World) (v : Value) (l : List UInt8) (hown : w.ownsRow base 5 1 v l.length (byteCells l)) (hb : Rd base w) (n0 : Nd w O r (.iface xt xp) t0) (n1 : Nd w O r (.iface yt yp) t1) (hlen : l.length + (txt (r + 1) (.mk 11 t n [t0, t1])).length ≤ 70368744177664) :
    Calls Tryd.prog 14 #[v, .iface 73 (.agg #[.iface xt xp, .iface yt yp])] w fun e w' => ∃ v', e = .returned v' ∧ App base w w' v' (l ++ txt (r + 1) (.mk 11 t n [t0, t1])) := by
  have htx : txt (r + 1) (.mk 11 t n [t0, t1]) = ([brak t0.kind (txt r t0), (⟨#[32]⟩ : ByteArray).data.toList, brak t1.kind (txt r t1)] : List (List UInt8)).flatten := by simp [txt, Tr.at]
  rw [htx] at hlen ⊢
  clear htx
  have ha0 : App base w (w.alloc (.cells #[.iface xt xp, .iface yt yp] 73)) v l := App.alloc hb.le (App.refl (hown.alloc _))
  have q0 := (pN hO k0 n0 H0).app hO hb.le ha0
  have q1 := (pN hO k1 n1 H1).app hO hb.le ha0
  have HC := mix_new (r := r) hO [.iface xt xp, .iface 9 (.string ⟨#[32]⟩), .iface yt yp] [brak t0.kind (txt r t0), (⟨#[32]⟩ : ByteArray).data.toList, brak t1.kind (txt r t1)] (w.alloc (.cells #[.iface xt xp, .iface yt yp] 73)) v l (hown.alloc _) (hb.app ha0) rfl (pieces rfl (fun i h1 h2 => by
    match i, h1 with
    | 0, _ => exact q0
    | 1, _ => exact pS _
    | 2, _ => exact q1)) hlen (by simp)
  have e1 : (w.alloc (.cells #[.iface xt xp, .iface yt yp] 73)).heap.size = w.heap.size + 1 := by simp
  rw [e1] at HC
  obtain ⟨F, hF⟩ : ∃ F, ([brak t0.kind (txt r t0), (⟨#[32]⟩ : ByteArray).data.toList, brak t1.kind (txt r t1)] : List (List UInt8)).flatten = F := ⟨_, rfl⟩
  rw [hF] at HC ⊢
  have HC' : Hid (Calls Tryd.prog 33 #[v, .slice (some ⟨w.heap.size + 1, 0, none⟩) 3 3] ((w.alloc (.cells #[.iface xt xp, .iface yt yp] 73)).alloc (.cells #[.iface xt xp, .iface 9 (.string ⟨#[32]⟩), .iface yt yp] 20)) fun e w' => ∃ v', e = .returned v' ∧ App base (w.alloc (.cells #[.iface xt xp, .iface yt yp] 73)) w' v' (l ++ F)) := HC
  clear HC e1 hF hlen q0 H0 n0 k0 q1 H1 n1 k1
  have a1 := as11_1 (.agg #[.iface xt xp, .iface yt yp])
  have a2 := as11_2 (.agg #[.iface xt xp, .iface yt yp])
  have a3 := as11_3 (.agg #[.iface xt xp, .iface yt yp])
  have a4 := as11_4 (.agg #[.iface xt xp, .iface yt yp])
  have a5 := as11_5 (.agg #[.iface xt xp, .iface yt yp])
  have a8 := as11_8 (.agg #[.iface xt xp, .iface yt yp])
  have a9 := as11_9 (.agg #[.iface xt xp, .iface yt yp])
  have a10 := as11_10 (.agg #[.iface xt xp, .iface yt yp])
  have a11 := as11_11 (.agg #[.iface xt xp, .iface yt yp])
  go_enter Tryd.func14, Tryd.ntmps14
  go_wp2_with (go_at_call 33; refine HC'.out.mono ?_; rintro e w1 ⟨v1, rfl, ha1⟩)
  go_ret
  exact ⟨_, rfl, ha0.trans ha1⟩

set_option maxRecDepth 100000 in
set_option maxHeartbeats 1000000 in
theorem sh12 {O : Nat → Prop} {base r : Nat} (hO : ∀ bb, O bb → bb < base) {t : ByteArray} {n : Int} {xt : TypeId} {xp : Value} {yt : TypeId} {yp : Value} {zt : TypeId} {zp : Value} {t0 t1 t2 : Tr} (k0 : exprK t0.kind = true) (H0 : Sh O base r (.iface xt xp) t0) (k1 : exprK t1.kind = true) (H1 : Sh O base r (.iface yt yp) t1) (k2 : exprK t2.kind = true) (H2 : Sh O base r (.iface zt zp) t2) (w : World) (v : Value) (l : List UInt8) (hown : w.ownsRow base 5 1 v l.length (byteCells l)) (hb : Rd base w) (n0 : Nd w O r (.iface xt xp) t0) (n1 : Nd w O r (.iface yt yp) t1) (n2 : Nd w O r (.iface zt zp) t2) (hlen : l.length + (txt (r + 1) (.mk 12 t n [t0, t1, t2])).length ≤ 70368744177664) :
    Calls Tryd.prog 14 #[v, .iface 75 (.agg #[.iface xt xp, .iface yt yp, .iface zt zp])] w fun e w' => ∃ v', e = .returned v' ∧ App base w w' v' (l ++ txt (r + 1) (.mk 12 t n [t0, t1, t2])) := by
  have htx : txt (r + 1) (.mk 12 t n [t0, t1, t2]) = ([(⟨#[105, 102, 32]⟩ : ByteArray).data.toList, brak t0.kind (txt r t0), (⟨#[32, 116, 104, 101, 110, 32]⟩ : ByteArray).data.toList, brak t1.kind (txt r t1), (⟨#[32, 101, 108, 115, 101, 32]⟩ : ByteArray).data.toList, brak t2.kind (txt r t2)] : List (List UInt8)).flatten := by simp [txt, Tr.at]
  rw [htx] at hlen ⊢
  clear htx
  have ha0 : App base w (w.alloc (.cells #[.iface xt xp, .iface yt yp, .iface zt zp] 75)) v l := App.alloc hb.le (App.refl (hown.alloc _))
  have q0 := (pN hO k0 n0 H0).app hO hb.le ha0
  have q1 := (pN hO k1 n1 H1).app hO hb.le ha0
  have q2 := (pN hO k2 n2 H2).app hO hb.le ha0
  have HC := mix_new (r := r) hO [.iface 9 (.string ⟨#[105, 102, 32]⟩), .iface xt xp, .iface 9 (.string ⟨#[32, 116, 104, 101, 110, 32]⟩), .iface yt yp, .iface 9 (.string ⟨#[32, 101, 108, 115, 101, 32]⟩), .iface zt zp] [(⟨#[105, 102, 32]⟩ : ByteArray).data.toList, brak t0.kind (txt r t0), (⟨#[32, 116, 104, 101, 110, 32]⟩ : ByteArray).data.toList, brak t1.kind (txt r t1), (⟨#[32, 101, 108, 115, 101, 32]⟩ : ByteArray).data.toList, brak t2.kind (txt r t2)] (w.alloc (.cells #[.iface xt xp, .iface yt yp, .iface zt zp] 75)) v l (hown.alloc _) (hb.app ha0) rfl (pieces rfl (fun i h1 h2 => by
    match i, h1 with
    | 0, _ => exact pS _
    | 1, _ => exact q0
    | 2, _ => exact pS _
    | 3, _ => exact q1
    | 4, _ => exact pS _
    | 5, _ => exact q2)) hlen (by simp)
  have e1 : (w.alloc (.cells #[.iface xt xp, .iface yt yp, .iface zt zp] 75)).heap.size = w.heap.size + 1 := by simp
  rw [e1] at HC
  obtain ⟨F, hF⟩ : ∃ F, ([(⟨#[105, 102, 32]⟩ : ByteArray).data.toList, brak t0.kind (txt r t0), (⟨#[32, 116, 104, 101, 110, 32]⟩ : ByteArray).data.toList, brak t1.kind (txt r t1), (⟨#[32, 101, 108, 115, 101, 32]⟩ : ByteArray).data.toList, brak t2.kind (txt r t2)] : List (List UInt8)).flatten = F := ⟨_, rfl⟩
  rw [hF] at HC ⊢
  have HC' : Hid (Calls Tryd.prog 33 #[v, .slice (some ⟨w.heap.size + 1, 0, none⟩) 6 6] ((w.alloc (.cells #[.iface xt xp, .iface yt yp, .iface zt zp] 75)).alloc (.cells #[.iface 9 (.string ⟨#[105, 102, 32]⟩), .iface xt xp, .iface 9 (.string ⟨#[32, 116, 104, 101, 110, 32]⟩), .iface yt yp, .iface 9 (.string ⟨#[32, 101, 108, 115, 101, 32]⟩), .iface zt zp] 20)) fun e w' => ∃ v', e = .returned v' ∧ App base (w.alloc (.cells #[.iface xt xp, .iface yt yp, .iface zt zp] 75)) w' v' (l ++ F)) := HC
  clear HC e1 hF hlen q0 H0 n0 k0 q1 H1 n1 k1 q2 H2 n2 k2
  have a1 := as12_1 (.agg #[.iface xt xp, .iface yt yp, .iface zt zp])
  have a2 := as12_2 (.agg #[.iface xt xp, .iface yt yp, .iface zt zp])
  have a3 := as12_3 (.agg #[.iface xt xp, .iface yt yp, .iface zt zp])
  have a4 := as12_4 (.agg #[.iface xt xp, .iface yt yp, .iface zt zp])
  have a5 := as12_5 (.agg #[.iface xt xp, .iface yt yp, .iface zt zp])
  have a8 := as12_8 (.agg #[.iface xt xp, .iface yt yp, .iface zt zp])
  have a9 := as12_9 (.agg #[.iface xt xp, .iface yt yp, .iface zt zp])
  have a10 := as12_10 (.agg #[.iface xt xp, .iface yt yp, .iface zt zp])
  have a11 := as12_11 (.agg #[.iface xt xp, .iface yt yp, .iface zt zp])
  have a12 := as12_12 (.agg #[.iface xt xp, .iface yt yp, .iface zt zp])
  go_enter Tryd.func14, Tryd.ntmps14
  go_wp2_with (go_at_call 33; refine HC'.out.mono ?_; rintro e w1 ⟨v1, rfl, ha1⟩)
  go_ret
  exact ⟨_, rfl, ha0.trans ha1⟩

set_option maxRecDepth 100000 in
set_option maxHeartbeats 1000000 in
theorem sh13 {O : Nat → Prop} {base r : Nat} (hO : ∀ bb, O bb → bb < base) {t : ByteArray} {n : Int} {xt : TypeId} {xp : Value} {t0 : Tr} (k0 : exprK t0.kind = true) (H0 : Sh O base r (.iface xt xp) t0) (w : World) (v : Value) (l : List UInt8) (hown : w.ownsRow base 5 1 v l.length (byteCells l)) (hb : Rd base w) (n0 : Nd w O r (.iface xt xp) t0) (hlen : l.length + (txt (r + 1) (.mk 13 t n [t0])).length ≤ 70368744177664) :
    Calls Tryd.prog 14 #[v, .iface 77 (.agg #[.string t, .iface xt xp])] w fun e w' => ∃ v', e = .returned v' ∧ App base w w' v' (l ++ txt (r + 1) (.mk 13 t n [t0])) := by
  have htx : txt (r + 1) (.mk 13 t n [t0]) = ([t.data.toList, (⟨#[58, 32]⟩ : ByteArray).data.toList, brak t0.kind (txt r t0)] : List (List UInt8)).flatten := by simp [txt, Tr.at]
  rw [htx] at hlen ⊢
  clear htx
  have ha0 : App base w (w.alloc (.cells #[.string t, .iface xt xp] 77)) v l := App.alloc hb.le (App.refl (hown.alloc _))
  have q0 := (pN hO k0 n0 H0).app hO hb.le ha0
  have HC := mix_new (r := r) hO [.iface 9 (.string t), .iface 9 (.string ⟨#[58, 32]⟩), .iface xt xp] [t.data.toList, (⟨#[58, 32]⟩ : ByteArray).data.toList, brak t0.kind (txt r t0)] (w.alloc (.cells #[.string t, .iface xt xp] 77)) v l (hown.alloc _) (hb.app ha0) rfl (pieces rfl (fun i h1 h2 => by
    match i, h1 with
    | 0, _ => exact pS _
    | 1, _ => exact pS _
    | 2, _ => exact q0)) hlen (by simp)
  have e1 : (w.alloc (.cells #[.string t, .iface xt xp] 77)).heap.size = w.heap.size + 1 := by simp
  rw [e1] at HC
  obtain ⟨F, hF⟩ : ∃ F, ([t.data.toList, (⟨#[58, 32]⟩ : ByteArray).data.toList, brak t0.kind (txt r t0)] : List (List UInt8)).flatten = F := ⟨_, rfl⟩
  rw [hF] at HC ⊢
  have HC' : Hid (Calls Tryd.prog 33 #[v, .slice (some ⟨w.heap.size + 1, 0, none⟩) 3 3] ((w.alloc (.cells #[.string t, .iface xt xp] 77)).alloc (.cells #[.iface 9 (.string t), .iface 9 (.string ⟨#[58, 32]⟩), .iface xt xp] 20)) fun e w' => ∃ v', e = .returned v' ∧ App base (w.alloc (.cells #[.string t, .iface xt xp] 77)) w' v' (l ++ F)) := HC
  clear HC e1 hF hlen q0 H0 n0 k0
  have a1 := as13_1 (.agg #[.string t, .iface xt xp])
  have a2 := as13_2 (.agg #[.string t, .iface xt xp])
  have a3 := as13_3 (.agg #[.string t, .iface xt xp])
  have a4 := as13_4 (.agg #[.string t, .iface xt xp])
  have a5 := as13_5 (.agg #[.string t, .iface xt xp])
  have a8 := as13_8 (.agg #[.string t, .iface xt xp])
  have a9 := as13_9 (.agg #[.string t, .iface xt xp])
  have a10 := as13_10 (.agg #[.string t, .iface xt xp])
  have a11 := as13_11 (.agg #[.string t, .iface xt xp])
  have a12 := as13_12 (.agg #[.string t, .iface xt xp])
  have a13 := as13_13 (.agg #[.string t, .iface xt xp])
  go_enter Tryd.func14, Tryd.ntmps14
  go_wp2_with (go_at_call 33; refine HC'.out.mono ?_; rintro e w1 ⟨v1, rfl, ha1⟩)
  go_ret
  exact ⟨_, rfl, ha0.trans ha1⟩

set_option maxRecDepth 100000 in
set_option maxHeartbeats 1000000 in
theorem sh17 {O : Nat → Prop} {base r : Nat} (hO : ∀ bb, O bb → bb < base) {t : ByteArray} {n : Int} {xt : TypeId} {xp : Value} {t0 : Tr} (k0 : exprK t0.kind = true) (H0 : Sh O base r (.iface xt xp) t0) (w : World) (v : Value) (l : List UInt8) (hown : w.ownsRow base 5 1 v l.length (byteCells l)) (hb : Rd base w) (n0 : Nd w O r (.iface xt xp) t0) (hlen : l.length + (txt (r + 1) (.mk 17 t n [t0])).length ≤ 70368744177664) :
    Calls Tryd.prog 14 #[v, .iface 85 (.agg #[.iface xt xp, .string t])] w fun e w' => ∃ v', e = .returned v' ∧ App base w w' v' (l ++ txt (r + 1) (.mk 17 t n [t0])) := by
  have htx : txt (r + 1) (.mk 17 t n [t0]) = ([brak t0.kind (txt r t0), (⟨#[32, 63, 32]⟩ : ByteArray).data.toList, t.data.toList] : List (List UInt8)).flatten := by simp [txt, Tr.at]
  rw [htx] at hlen ⊢
  clear htx
  have ha0 : App base w (w.alloc (.cells #[.iface xt xp, .string t] 85)) v l := App.alloc hb.le (App.refl (hown.alloc _))
  have q0 := (pN hO k0 n0 H0).app hO hb.le ha0
  have HC := mix_new (r := r) hO [.iface xt xp, .iface 9 (.string ⟨#[32, 63, 32]⟩), .iface 9 (.string t)] [brak t0.kind (txt r t0), (⟨#[32, 63, 32]⟩ : ByteArray).data.toList, t.data.toList] (w.alloc (.cells #[.iface xt xp, .string t] 85)) v l (hown.alloc _) (hb.app ha0) rfl (pieces rfl (fun i h1 h2 => by
    match i, h1 with
    | 0, _ => exact q0
    | 1, _ => exact pS _
    | 2, _ => exact pS _)) hlen (by simp)
  have e1 : (w.alloc (.cells #[.iface xt xp, .string t] 85)).heap.size = w.heap.size + 1 := by simp
  rw [e1] at HC
  obtain ⟨F, hF⟩ : ∃ F, ([brak t0.kind (txt r t0), (⟨#[32, 63, 32]⟩ : ByteArray).data.toList, t.data.toList] : List (List UInt8)).flatten = F := ⟨_, rfl⟩
  rw [hF] at HC ⊢
  have HC' : Hid (Calls Tryd.prog 33 #[v, .slice (some ⟨w.heap.size + 1, 0, none⟩) 3 3] ((w.alloc (.cells #[.iface xt xp, .string t] 85)).alloc (.cells #[.iface xt xp, .iface 9 (.string ⟨#[32, 63, 32]⟩), .iface 9 (.string t)] 20)) fun e w' => ∃ v', e = .returned v' ∧ App base (w.alloc (.cells #[.iface xt xp, .string t] 85)) w' v' (l ++ F)) := HC
  clear HC e1 hF hlen q0 H0 n0 k0
  have a1 := as17_1 (.agg #[.iface xt xp, .string t])
  have a2 := as17_2 (.agg #[.iface xt xp, .string t])
  have a3 := as17_3 (.agg #[.iface xt xp, .string t])
  have a4 := as17_4 (.agg #[.iface xt xp, .string t])
  have a5 := as17_5 (.agg #[.iface xt xp, .string t])
  have a8 := as17_8 (.agg #[.iface xt xp, .string t])
  have a9 := as17_9 (.agg #[.iface xt xp, .string t])
  have a10 := as17_10 (.agg #[.iface xt xp, .string t])
  have a11 := as17_11 (.agg #[.iface xt xp, .string t])
  have a12 := as17_12 (.agg #[.iface xt xp, .string t])
  have a13 := as17_13 (.agg #[.iface xt xp, .string t])
  have a14 := as17_14 (.agg #[.iface xt xp, .string t])
  have a16 := as17_16 (.agg #[.iface xt xp, .string t])
  have a17 := as17_17 (.agg #[.iface xt xp, .string t])
  go_enter Tryd.func14, Tryd.ntmps14
  go_wp2_with (go_at_call 33; refine HC'.out.mono ?_; rintro e w1 ⟨v1, rfl, ha1⟩)
  go_ret
  exact ⟨_, rfl, ha0.trans ha1⟩

set_option maxRecDepth 100000 in
set_option maxHeartbeats 1000000 in
theorem sh18 {O : Nat → Prop} {base r : Nat} (hO : ∀ bb, O bb → bb < base) {t : ByteArray} {n : Int} {xt : TypeId} {xp : Value} {yt : TypeId} {yp : Value} {t0 t1 : Tr} (k0 : exprK t0.kind = true) (H0 : Sh O base r (.iface xt xp) t0) (k1 : exprK t1.kind = true) (H1 : Sh O base r (.iface yt yp) t1) (w : World) (v : Value) (l : List UInt8) (hown : w.ownsRow base 5 1 v l.length (byteCells l)) (hb : Rd base w) (n0 : Nd w O r (.iface xt xp) t0) (n1 : Nd w O r (.iface yt yp) t1) (hlen : l.length + (txt (r + 1) (.mk 18 t n [t0, t1])).length ≤ 70368744177664) :
    Calls Tryd.prog 14 #[v, .iface 87 (.agg #[.string t, .iface xt xp, .iface yt yp])] w fun e w' => ∃ v', e = .returned v' ∧ App base w w' v' (l ++ txt (r + 1) (.mk 18 t n [t0, t1])) := by
  have htx : txt (r + 1) (.mk 18 t n [t0, t1]) = ([brak t0.kind (txt r t0), (⟨#[32]⟩ : ByteArray).data.toList, t.data.toList, (⟨#[32]⟩ : ByteArray).data.toList, brak t1.kind (txt r t1)] : List (List UInt8)).flatten := by simp [txt, Tr.at]
  rw [htx] at hlen ⊢
  clear htx
  have ha0 : App base w (w.alloc (.cells #[.string t, .iface xt xp, .iface yt yp] 87)) v l := App.alloc hb.le (App.refl (hown.alloc _))
  have q0 := (pN hO k0 n0 H0).app hO hb.le ha0
  have q1 := (pN hO k1 n1 H1).app hO hb.le ha0
  have HC := mix_new (r := r) hO [.iface xt xp, .iface 9 (.string ⟨#[32]⟩), .iface 9 (.string t), .iface 9 (.string ⟨#[32]⟩), .iface yt yp] [brak t0.kind (txt r t0), (⟨#[32]⟩ : ByteArray).data.toList, t.data.toList, (⟨#[32]⟩ : ByteArray).data.toList, brak t1.kind (txt r t1)] (w.alloc (.cells #[.string t, .iface xt xp, .iface yt yp] 87)) v l (hown.alloc _) (hb.app ha0) rfl (pieces rfl (fun i h1 h2 => by
    match i, h1 with
    | 0, _ => exact q0
    | 1, _ => exact pS _
    | 2, _ => exact pS _
    | 3, _ => exact pS _
    | 4, _ => exact q1)) hlen (by simp)
  have e1 : (w.alloc (.cells #[.string t, .iface xt xp, .iface yt yp] 87)).heap.size = w.heap.size + 1 := by simp
  rw [e1] at HC
  obtain ⟨F, hF⟩ : ∃ F, ([brak t0.kind (txt r t0), (⟨#[32]⟩ : ByteArray).data.toList, t.data.toList, (⟨#[32]⟩ : ByteArray).data.toList, brak t1.kind (txt r t1)] : List (List UInt8)).flatten = F := ⟨_, rfl⟩
  rw [hF] at HC ⊢
  have HC' : Hid (Calls Tryd.prog 33 #[v, .slice (some ⟨w.heap.size + 1, 0, none⟩) 5 5] ((w.alloc (.cells #[.string t, .iface xt xp, .iface yt yp] 87)).alloc (.cells #[.iface xt xp, .iface 9 (.string ⟨#[32]⟩), .iface 9 (.string t), .iface 9 (.string ⟨#[32]⟩), .iface yt yp] 20)) fun e w' => ∃ v', e = .returned v' ∧ App base (w.alloc (.cells #[.string t, .iface xt xp, .iface yt yp] 87)) w' v' (l ++ F)) := HC
  clear HC e1 hF hlen q0 H0 n0 k0 q1 H1 n1 k1
  have a1 := as18_1 (.agg #[.string t, .iface xt xp, .iface yt yp])
  have a2 := as18_2 (.agg #[.string t, .iface xt xp, .iface yt yp])
  have a3 := as18_3 (.agg #[.string t, .iface xt xp, .iface yt yp])
  have a4 := as18_4 (.agg #[.string t, .iface xt xp, .iface yt yp])
  have a5 := as18_5 (.agg #[.string t, .iface xt xp, .iface yt yp])
  have a8 := as18_8 (.agg #[.string t, .iface xt xp, .iface yt yp])
  have a9 := as18_9 (.agg #[.string t, .iface xt xp, .iface yt yp])
  have a10 := as18_10 (.agg #[.string t, .iface xt xp, .iface yt yp])
  have a11 := as18_11 (.agg #[.string t, .iface xt xp, .iface yt yp])
  have a12 := as18_12 (.agg #[.string t, .iface xt xp, .iface yt yp])
  have a13 := as18_13 (.agg #[.string t, .iface xt xp, .iface yt yp])
  have a14 := as18_14 (.agg #[.string t, .iface xt xp, .iface yt yp])
  have a16 := as18_16 (.agg #[.string t, .iface xt xp, .iface yt yp])
  have a17 := as18_17 (.agg #[.string t, .iface xt xp, .iface yt yp])
  have a18 := as18_18 (.agg #[.string t, .iface xt xp, .iface yt yp])
  go_enter Tryd.func14, Tryd.ntmps14
  go_wp2_with (go_at_call 33; refine HC'.out.mono ?_; rintro e w1 ⟨v1, rfl, ha1⟩)
  go_ret
  exact ⟨_, rfl, ha0.trans ha1⟩

set_option maxRecDepth 100000 in
set_option maxHeartbeats 1000000 in
theorem sh19 {O : Nat → Prop} {base r : Nat} (hO : ∀ bb, O bb → bb < base) {t : ByteArray} {n : Int} {xt : TypeId} {xp : Value} {t0 : Tr} (k0 : exprK t0.kind = true) (H0 : Sh O base r (.iface xt xp) t0) (w : World) (v : Value) (l : List UInt8) (hown : w.ownsRow base 5 1 v l.length (byteCells l)) (hb : Rd base w) (n0 : Nd w O r (.iface xt xp) t0) (hlen : l.length + (txt (r + 1) (.mk 19 t n [t0])).length ≤ 70368744177664) :
    Calls Tryd.prog 14 #[v, .iface 89 (.agg #[.iface xt xp])] w fun e w' => ∃ v', e = .returned v' ∧ App base w w' v' (l ++ txt (r + 1) (.mk 19 t n [t0])) := by
  have htx : txt (r + 1) (.mk 19 t n [t0]) = ([(⟨#[45]⟩ : ByteArray).data.toList, brak t0.kind (txt r t0)] : List (List UInt8)).flatten := by simp [txt, Tr.at]
  rw [htx] at hlen ⊢
  clear htx
  have ha0 : App base w (w.alloc (.cells #[.iface xt xp] 89)) v l := App.alloc hb.le (App.refl (hown.alloc _))
  have q0 := (pN hO k0 n0 H0).app hO hb.le ha0
  have HC := mix_new (r := r) hO [.iface 9 (.string ⟨#[45]⟩), .iface xt xp] [(⟨#[45]⟩ : ByteArray).data.toList, brak t0.kind (txt r t0)] (w.alloc (.cells #[.iface xt xp] 89)) v l (hown.alloc _) (hb.app ha0) rfl (pieces rfl (fun i h1 h2 => by
    match i, h1 with
    | 0, _ => exact pS _
    | 1, _ => exact q0)) hlen (by simp)
  have e1 : (w.alloc (.cells #[.iface xt xp] 89)).heap.size = w.heap.size + 1 := by simp
  rw [e1] at HC
  obtain ⟨F, hF⟩ : ∃ F, ([(⟨#[45]⟩ : ByteArray).data.toList, brak t0.kind (txt r t0)] : List (List UInt8)).flatten = F := ⟨_, rfl⟩
  rw [hF] at HC ⊢
  have HC' : Hid (Calls Tryd.prog 33 #[v, .slice (some ⟨w.heap.size + 1, 0, none⟩) 2 2] ((w.alloc (.cells #[.iface xt xp] 89)).alloc (.cells #[.iface 9 (.string ⟨#[45]⟩), .iface xt xp] 20)) fun e w' => ∃ v', e = .returned v' ∧ App base (w.alloc (.cells #[.iface xt xp] 89)) w' v' (l ++ F)) := HC
  clear HC e1 hF hlen q0 H0 n0 k0
  have a1 := as19_1 (.agg #[.iface xt xp])
  have a2 := as19_2 (.agg #[.iface xt xp])
  have a3 := as19_3 (.agg #[.iface xt xp])
  have a4 := as19_4 (.agg #[.iface xt xp])
  have a5 := as19_5 (.agg #[.iface xt xp])
  have a8 := as19_8 (.agg #[.iface xt xp])
  have a9 := as19_9 (.agg #[.iface xt xp])
  have a10 := as19_10 (.agg #[.iface xt xp])
  have a11 := as19_11 (.agg #[.iface xt xp])
  have a12 := as19_12 (.agg #[.iface xt xp])
  have a13 := as19_13 (.agg #[.iface xt xp])
  have a14 := as19_14 (.agg #[.iface xt xp])
  have a16 := as19_16 (.agg #[.iface xt xp])
  have a17 := as19_17 (.agg #[.iface xt xp])
  have a18 := as19_18 (.agg #[.iface xt xp])
  have a19 := as19_19 (.agg #[.iface xt xp])
  go_enter Tryd.func14, Tryd.ntmps14
  go_wp2_with (go_at_call 33; refine HC'.out.mono ?_; rintro e w1 ⟨v1, rfl, ha1⟩)
  go_ret
  exact ⟨_, rfl, ha0.trans ha1⟩

set_option maxRecDepth 100000 in
set_option maxHeartbeats 1000000 in
theorem sh20 {O : Nat → Prop} {base r : Nat} (hO : ∀ bb, O bb → bb < base) {t : ByteArray} {n : Int} {xt : TypeId} {xp : Value} {t0 : Tr} (k0 : exprK t0.kind = true) (H0 : Sh O base r (.iface xt xp) t0) (w : World) (v : Value) (l : List UInt8) (hown : w.ownsRow base 5 1 v l.length (byteCells l)) (hb : Rd base w) (n0 : Nd w O r (.iface xt xp) t0) (hlen : l.length + (txt (r + 1) (.mk 20 t n [t0])).length ≤ 70368744177664) :
    Calls Tryd.prog 14 #[v, .iface 90 (.agg #[.iface xt xp])] w fun e w' => ∃ v', e = .returned v' ∧ App base w w' v' (l ++ txt (r + 1) (.mk 20 t n [t0])) := by
  have htx : txt (r + 1) (.mk 20 t n [t0]) = ([(⟨#[33]⟩ : ByteArray).data.toList, brak t0.kind (txt r t0)] : List (List UInt8)).flatten := by simp [txt, Tr.at]
  rw [htx] at hlen ⊢
  clear htx
  have ha0 : App base w (w.alloc (.cells #[.iface xt xp] 90)) v l := App.alloc hb.le (App.refl (hown.alloc _))
  have q0 := (pN hO k0 n0 H0).app hO hb.le ha0
  have HC := mix_new (r := r) hO [.iface 9 (.string ⟨#[33]⟩), .iface xt xp] [(⟨#[33]⟩ : ByteArray).data.toList, brak t0.kind (txt r t0)] (w.alloc (.cells #[.iface xt xp] 90)) v l (hown.alloc _) (hb.app ha0) rfl (pieces rfl (fun i h1 h2 => by
    match i, h1 with
    | 0, _ => exact pS _
    | 1, _ => exact q0)) hlen (by simp)
  have e1 : (w.alloc (.cells #[.iface xt xp] 90)).heap.size = w.heap.size + 1 := by simp
  rw [e1] at HC
  obtain ⟨F, hF⟩ : ∃ F, ([(⟨#[33]⟩ : ByteArray).data.toList, brak t0.kind (txt r t0)] : List (List UInt8)).flatten = F := ⟨_, rfl⟩
  rw [hF] at HC ⊢
  have HC' : Hid (Calls Tryd.prog 33 #[v, .slice (some ⟨w.heap.size + 1, 0, none⟩) 2 2] ((w.alloc (.cells #[.iface xt xp] 90)).alloc (.cells #[.iface 9 (.string ⟨#[33]⟩), .iface xt xp] 20)) fun e w' => ∃ v', e = .returned v' ∧ App base (w.alloc (.cells #[.iface xt xp] 90)) w' v' (l ++ F)) := HC
  clear HC e1 hF hlen q0 H0 n0 k0
  have a1 := as20_1 (.agg #[.iface xt xp])
  have a2 := as20_2 (.agg #[.iface xt xp])
  have a3 := as20_3 (.agg #[.iface xt xp])
  have a4 := as20_4 (.agg #[.iface xt xp])
  have a5 := as20_5 (.agg #[.iface xt xp])
  have a8 := as20_8 (.agg #[.iface xt xp])
  have a9 := as20_9 (.agg #[.iface xt xp])
  have a10 := as20_10 (.agg #[.iface xt xp])
  have a11 := as20_11 (.agg #[.iface xt xp])
  have a12 := as20_12 (.agg #[.iface xt xp])
  have a13 := as20_13 (.agg #[.iface xt xp])
  have a14 := as20_14 (.agg #[.iface xt xp])
  have a16 := as20_16 (.agg #[.iface xt xp])
  have a17 := as20_17 (.agg #[.iface xt xp])
  have a18 := as20_18 (.agg #[.iface xt xp])
  have a19 := as20_19 (.agg #[.iface xt xp])
  have a20 := as20_20 (.agg #[.iface xt xp])
  go_enter Tryd.func14, Tryd.ntmps14
  go_wp2_with (go_at_call 33; refine HC'.out.mono ?_; rintro e w1 ⟨v1, rfl, ha1⟩)
  go_ret
  exact ⟨_, rfl, ha0.trans ha1⟩

end Go.Proofs.YtlnagmdoepldmaaDoor.ex
