import Derived.Test.YtlnagmdoepldmaaDoorSF
namespace Go.Proofs.YtlnagmdoepldmaaDoor.ex
open Go.ChangeShapes Go.WideShapes Go.ChangeAt Go.RowKit Go.Deep
set_option linter.unusedVariables false
set_option linter.unusedSimpArgs false

/-- A bind or a name that is inherited, and what it becomes. -/
def BdV (w : World) (O : Nat → Prop) (base : Nat) (x : Value) (add : List UInt8) : Prop :=
  (∃ (t : ByteArray) (T : TypeId) (p : Value) (r : Nat) (ad : List UInt8), x = .iface 106 (.agg #[.string t, .iface T p]) ∧ Piece w O base r (.iface T p) ad ∧ add = [t.data.toList, (⟨#[32, 61, 32]⟩ : ByteArray).data.toList, ad, (⟨#[59, 32]⟩ : ByteArray).data.toList].flatten) ∨
  ∃ t : ByteArray, x = .iface 107 (.agg #[.string t]) ∧ add = [(⟨#[105, 110, 104, 101, 114, 105, 116, 32]⟩ : ByteArray).data.toList, t.data.toList, (⟨#[59, 32]⟩ : ByteArray).data.toList].flatten

theorem BdV.app {w w' : World} {O : Nat → Prop} {base : Nat} {x v' : Value} {add l' : List UInt8} (hO : ∀ bb, O bb → bb < base) (hb : base ≤ w.heap.size) (h : BdV w O base x add) (ha : App base w w' v' l') : BdV w' O base x add := by
  rcases h with ⟨t, T, p, r, ad, h1, h2, h3⟩ | h
  · exact .inl ⟨t, T, p, r, ad, h1, h2.app hO hb ha, h3⟩
  · exact .inr h

/-- A row of binds. -/
def Binds (w : World) (O : Nat → Prop) (base : Nat) (vs : List Value) (X : Nat → List UInt8) : Prop := ∀ (i : Nat) (x : Value), vs[i]? = some x → BdV w O base x (X i)

set_option maxRecDepth 100000 in
set_option maxHeartbeats 2000000 in
theorem binds_any {O : Nat → Prop} {base : Nat} (hO : ∀ bb, O bb → bb < base) (vs : List Value) (X : Nat → List UInt8) (hm : vs.length ≤ 3000) (a : Option Addr) (cap : Nat) (w : World) (hP : PsO w O a vs) (hH : Binds w O base vs X)
    (v : Value) (l : List UInt8) (hown : w.ownsRow base 5 1 v l.length (byteCells l)) (hb : Rd base w) (hlen : l.length + (seqTo X vs.length).length ≤ 70368744177664) :
    Calls Tryd.prog 32 #[v, .slice a vs.length cap] w fun e w' => ∃ v', e = .returned v' ∧ App base w w' v' (l ++ seqTo X vs.length) := by
  obtain ⟨bb, off, haa, hcell⟩ := hP
  have key : ∀ j, j < vs.length → ∀ w1 v1 l1, App base w w1 v1 l1 → ∃ x, w1.cell? ⟨bb, off + j, none⟩ = some x ∧ BdV w1 O base x (X j) := by
    intro j hj w1 v1 l1 ha
    have hbb : O bb := (haa.resolve_left (by omega)).2
    have hk : w1.heap[bb]? = w.heap[bb]? := ha.kept bb (by have := hO bb hbb; have := hb.le; omega) (.inl (hO bb hbb))
    refine ⟨vs[j], ?_, (hH j vs[j] (List.getElem?_eq_getElem hj)).app hO hb.le ha⟩
    rw [← hcell j vs[j] (List.getElem?_eq_getElem hj)]
    simp only [World.cell?, hk]
  have HSL : Hid (∀ j, j < vs.length → (seqTo X j).length + (X j).length ≤ (seqTo X vs.length).length) := fun j hj => seq_le X j _ hj
  clear hH hcell
  obtain ⟨len, hle⟩ : ∃ n, vs.length = n := ⟨_, rfl⟩
  rw [hle] at hlen hm haa key HSL ⊢
  clear hle
  have KEY : Hid (∀ j, j < len → ∀ w1 v1 l1, App base w w1 v1 l1 → ∃ x, w1.cell? ⟨bb, off + j, none⟩ = some x ∧ BdV w1 O base x (X j)) := key
  clear key
  go_enter Tryd.func32, Tryd.ntmps32
  go_wp2_with fail
  go_loopw [0, 6, 7, 8, 11] (fun tv _ _ _ i wr => ∃ j : Nat, j ≤ len ∧ i = .int .i64 (j : Int) ∧ App base w wr tv (l ++ seqTo X j)) (fun _ _ _ _ i _ => len - (intOf i).toNat)
  case atStart => exact ⟨0, Nat.zero_le _, rfl, by simpa [seqTo] using App.refl hown⟩
  case round =>
    obtain ⟨j, hj, rfl, happ⟩ := hrel
    have hbr := hb.app happ
    by_cases hjl : j < len
    · have hjl' : (j : Int) < (len : Int) := by omega
      have hle := HSL.out j hjl
      obtain ⟨x, hc, hbd⟩ := KEY.out j hjl _ _ _ happ
      have hapos := (haa.resolve_left (by omega)).1
      subst hapos
      rcases hbd with ⟨t, T, p, r, ad, rfl, hpc, hX⟩ | ⟨t, rfl, hX⟩
      · have ha0 : App base wr (wr.alloc (.cells #[.string t, .iface T p] 106)) _ (l ++ seqTo X j) := App.alloc hbr.le (App.refl (happ.own.alloc _))
        have q0 := hpc.app hO hbr.le ha0
        have HC := mix_new (r := r) hO [.iface 9 (.string t), .iface 9 (.string ⟨#[32, 61, 32]⟩), .iface T p, .iface 9 (.string ⟨#[59, 32]⟩)] [t.data.toList, (⟨#[32, 61, 32]⟩ : ByteArray).data.toList, ad, (⟨#[59, 32]⟩ : ByteArray).data.toList] _ _ _ ha0.own (hbr.app ha0) rfl (pieces rfl (fun i h1 h2 => by
          match i, h1 with
          | 0, _ => exact pS _
          | 1, _ => exact pS _
          | 2, _ => exact q0
          | 3, _ => exact pS _)) (by rw [← hX, List.length_append]; omega) (by simp)
        have e1 : (wr.alloc (.cells #[.string t, .iface T p] 106)).heap.size = wr.heap.size + 1 := by simp
        rw [e1, ← hX] at HC
        have HX : Hid (X j = _) := hX
        have HC' : Hid (Calls Tryd.prog 33 #[_, .slice (some ⟨wr.heap.size + 1, 0, none⟩) 4 4] ((wr.alloc (.cells #[.string t, .iface T p] 106)).alloc (.cells #[.iface 9 (.string t), .iface 9 (.string ⟨#[32, 61, 32]⟩), .iface T p, .iface 9 (.string ⟨#[59, 32]⟩)] 20)) fun e w' => ∃ v', e = .returned v' ∧ App base (wr.alloc (.cells #[.string t, .iface T p] 106)) w' v' (l ++ seqTo X j ++ X j)) := HC
        clear HC e1 hX q0 hpc
        have a6 := as6_6 (.agg #[.string t, .iface T p])
        go_wp2_with (go_at_call 33; refine HC'.out.mono ?_; rintro e w1 ⟨v1, rfl, ha1⟩)
        go_roundw
        case rel => exact ⟨j + 1, by omega, by go_num, by rw [seqTo, ← List.append_assoc]; exact (happ.trans ha0).trans ha1⟩
        case measure => simp [intOf]; omega
      · have ha0 : App base wr (wr.alloc (.cells #[.string t] 107)) _ (l ++ seqTo X j) := App.alloc hbr.le (App.refl (happ.own.alloc _))
        have HC := mix_new (r := 0) hO [.iface 9 (.string ⟨#[105, 110, 104, 101, 114, 105, 116, 32]⟩), .iface 9 (.string t), .iface 9 (.string ⟨#[59, 32]⟩)] [(⟨#[105, 110, 104, 101, 114, 105, 116, 32]⟩ : ByteArray).data.toList, t.data.toList, (⟨#[59, 32]⟩ : ByteArray).data.toList] _ _ _ ha0.own (hbr.app ha0) rfl (pieces rfl (fun i h1 h2 => by
          match i, h1 with
          | 0, _ => exact pS _
          | 1, _ => exact pS _
          | 2, _ => exact pS _)) (by rw [← hX, List.length_append]; omega) (by simp)
        have e1 : (wr.alloc (.cells #[.string t] 107)).heap.size = wr.heap.size + 1 := by simp
        rw [e1, ← hX] at HC
        have HX : Hid (X j = _) := hX
        have HC' : Hid (Calls Tryd.prog 33 #[_, .slice (some ⟨wr.heap.size + 1, 0, none⟩) 3 3] ((wr.alloc (.cells #[.string t] 107)).alloc (.cells #[.iface 9 (.string ⟨#[105, 110, 104, 101, 114, 105, 116, 32]⟩), .iface 9 (.string t), .iface 9 (.string ⟨#[59, 32]⟩)] 20)) fun e w' => ∃ v', e = .returned v' ∧ App base (wr.alloc (.cells #[.string t] 107)) w' v' (l ++ seqTo X j ++ X j)) := HC
        clear HC e1 hX
        have a6 := as7_6 (.agg #[.string t])
        have a7 := as7_7 (.agg #[.string t])
        go_wp2_with (go_at_call 33; refine HC'.out.mono ?_; rintro e w1 ⟨v1, rfl, ha1⟩)
        go_roundw
        case rel => exact ⟨j + 1, by omega, by go_num, by rw [seqTo, ← List.append_assoc]; exact (happ.trans ha0).trans ha1⟩
        case measure => simp [intOf]; omega
    · have hjl' : ¬ (j : Int) < (len : Int) := by omega
      obtain rfl : j = len := by omega
      go_wp2_with fail
      go_ret
      exact ⟨_, rfl, happ⟩

set_option maxRecDepth 100000 in
set_option maxHeartbeats 1000000 in
theorem instead_none {base : Nat} (s : ByteArray) (w : World) (v : Value) (l : List UInt8) (hown : w.ownsRow base 5 1 v l.length (byteCells l)) :
    Calls Tryd.prog 35 #[v, .string s, .nilIface] w fun e w' => ∃ v', e = .returned v' ∧ App base w w' v' l := by
  go_enter Tryd.func35, Tryd.ntmps35
  go_wp2_with fail
  go_ret
  exact ⟨_, rfl, App.refl hown⟩

set_option maxRecDepth 100000 in
set_option maxHeartbeats 1000000 in
theorem instead_some {O : Nat → Prop} {base r : Nat} (hO : ∀ bb, O bb → bb < base) (s : ByteArray) (T : TypeId) (p : Value) (ad : List UInt8) (w : World) (v : Value) (l : List UInt8) (hown : w.ownsRow base 5 1 v l.length (byteCells l)) (hb : Rd base w) (hpc : Piece w O base r (.iface T p) ad) (hlen : l.length + ([s.data.toList, ad].flatten).length ≤ 70368744177664) :
    Calls Tryd.prog 35 #[v, .string s, .iface T p] w fun e w' => ∃ v', e = .returned v' ∧ App base w w' v' (l ++ [s.data.toList, ad].flatten) := by
  have HC := mix_new (r := r) hO [.iface 9 (.string s), .iface T p] [s.data.toList, ad] w v l hown hb rfl (pieces rfl (fun i h1 h2 => by
          match i, h1 with
          | 0, _ => exact pS _
          | 1, _ => exact hpc)) hlen (by simp)
  obtain ⟨F, hF⟩ : ∃ F, l ++ [s.data.toList, ad].flatten = F := ⟨_, rfl⟩
  rw [hF] at HC ⊢
  have HC' : Hid (Calls Tryd.prog 33 #[v, .slice (some ⟨w.heap.size, 0, none⟩) 2 2] (w.alloc (.cells #[.iface 9 (.string s), .iface T p] 20)) fun e w' => ∃ v', e = .returned v' ∧ App base w w' v' F) := HC
  clear HC hF hlen hpc
  go_enter Tryd.func35, Tryd.ntmps35
  go_wp2_with (go_at_call 33; refine HC'.out.mono ?_; rintro e w1 ⟨v1, rfl, ha1⟩)
  go_ret
  exact ⟨_, rfl, ha1⟩

end Go.Proofs.YtlnagmdoepldmaaDoor.ex
