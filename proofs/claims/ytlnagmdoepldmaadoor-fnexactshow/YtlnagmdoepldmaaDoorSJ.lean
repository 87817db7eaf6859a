import Derived.Test.YtlnagmdoepldmaaDoorSI
namespace Go.Proofs.YtlnagmdoepldmaaDoor.ex
open Go.ChangeShapes Go.WideShapes Go.ChangeAt Go.RowKit Go.Deep
set_option linter.unusedVariables false
set_option linter.unusedSimpArgs false

/-- What appendInstead does with what may stand behind a param's name. -/
def InsC (w : World) (base : Nat) (ins : Value) (add : List UInt8) : Prop := ∀ (W : World) (v : Value) (l : List UInt8), App base w W v l → l.length + add.length ≤ 70368744177664 →
  Calls Tryd.prog 35 #[v, .string ⟨#[32, 63, 32]⟩, ins] W fun e w' => ∃ v', e = .returned v' ∧ App base W w' v' (l ++ add)
/-- A param, and what it becomes. -/
def PmV (w : World) (base : Nat) (x : Value) (add : List UInt8) : Prop := ∃ (t : ByteArray) (ins : Value) (ad : List UInt8), x = .iface 110 (.agg #[.string t, ins]) ∧ (ins = .nilIface ∨ ∃ (T : TypeId) (p : Value), ins = .iface T p) ∧ add = t.data.toList ++ ad ∧ InsC w base ins ad
def Params (w : World) (base : Nat) (vs : List Value) (X : Nat → List UInt8) : Prop := ∀ (i : Nat) (x : Value), vs[i]? = some x → PmV w base x (X i)

def sepT (X : Nat → List UInt8) (j : Nat) : List UInt8 := (if 0 < j then [44, 32] else []) ++ X j
def btw (j : Nat) : ByteArray := if 0 < j then ⟨#[44, 32]⟩ else ⟨#[]⟩
theorem btw_list (j : Nat) : (btw j).data.toList = if 0 < j then [44, 32] else [] := by
  unfold btw; split <;> rfl

theorem InsC.some {O : Nat → Prop} {base r : Nat} (hO : ∀ bb, O bb → bb < base) {w : World} (hb : Rd base w) {T : TypeId} {p : Value} {ad : List UInt8} (hpc : Piece w O base r (.iface T p) ad) : InsC w base (.iface T p) ([32, 63, 32] ++ ad) := by
  intro W v l h hl
  have := instead_some (r := r) hO ⟨#[32, 63, 32]⟩ T p ad W v _ h.own (hb.app h) (hpc.app hO hb.le h) (by simp at hl ⊢; omega)
  refine this.mono ?_
  rintro e w' ⟨v', rfl, h'⟩
  exact ⟨v', rfl, by simpa using h'⟩
theorem InsC.none {base : Nat} {w : World} : InsC w base .nilIface [] := by
  intro W v l h hl
  have := instead_none (base := base) ⟨#[32, 63, 32]⟩ W v _ h.own
  refine this.mono ?_
  rintro e w' ⟨v', rfl, h'⟩
  exact ⟨v', rfl, by simpa using h'⟩

theorem as15 (t : ByteArray) (ins : Value) (w : World) : (Instr.typeAssert (.iface 110 (.agg #[.string t, ins])) 38 110 true).run Tryd.prog w = .ok (.tuple #[.agg #[.string t, ins], .bool true]) w := as15_15 _ w

set_option maxRecDepth 100000 in
set_option maxHeartbeats 4000000 in
theorem take_any {O : Nat → Prop} {base r : Nat} (hO : ∀ bb, O bb → bb < base) (vs : List Value) (X : Nat → List UInt8) (hm : vs.length ≤ 3000) (a : Option Addr) (cap : Nat) (B : Bool) (T : TypeId) (p : Value) (ad : List UInt8) (w : World) (hP : PsO w O a vs) (hH : Params w base vs X) (hpc : Piece w O base r (.iface T p) ad)
    (v : Value) (l : List UInt8) (hown : w.ownsRow base 5 1 v l.length (byteCells l)) (hb : Rd base w) (hlen : l.length + 1 + (seqTo (sepT X) vs.length).length + (if B = true then (btw vs.length).data.toList ++ [46, 46, 46] else []).length + 3 + ad.length ≤ 70368744177664) :
    Calls Tryd.prog 34 #[v, .agg #[.slice a vs.length cap, .bool B, .iface T p]] w fun e w' => ∃ v', e = .returned v' ∧ App base w w' v' (l ++ [123] ++ seqTo (sepT X) vs.length ++ (if B = true then (btw vs.length).data.toList ++ [46, 46, 46] else []) ++ [125, 58, 32] ++ ad) := by
  obtain ⟨bb, off, haa, hcell⟩ := hP
  have key : ∀ j, j < vs.length → ∀ w1 v1 l1, App base w w1 v1 l1 → ∃ t ins ad2, w1.cell? ⟨bb, off + j, none⟩ = some (.iface 110 (.agg #[.string t, ins])) ∧ (ins = .nilIface ∨ ∃ (T : TypeId) (p : Value), ins = .iface T p) ∧ X j = t.data.toList ++ ad2 ∧ ∀ w2 v2 l2, App base w1 w2 v2 l2 → l2.length + ad2.length ≤ 70368744177664 → Calls Tryd.prog 35 #[v2, .string ⟨#[32, 63, 32]⟩, ins] w2 fun e w' => ∃ v', e = .returned v' ∧ App base w2 w' v' (l2 ++ ad2) := by
    intro j hj w1 v1 l1 ha
    have hbb : O bb := (haa.resolve_left (by omega)).2
    have hk : w1.heap[bb]? = w.heap[bb]? := ha.kept bb (by have := hO bb hbb; have := hb.le; omega) (.inl (hO bb hbb))
    obtain ⟨t, ins, ad2, hx, hins, hX, hI⟩ := hH j vs[j] (List.getElem?_eq_getElem hj)
    refine ⟨t, ins, ad2, ?_, hins, hX, fun w2 v2 l2 h hl => hI w2 v2 l2 (ha.trans h) hl⟩
    rw [← hx, ← hcell j vs[j] (List.getElem?_eq_getElem hj)]
    simp only [World.cell?, hk]
  have HSL : Hid (∀ j, j < vs.length → (seqTo (sepT X) j).length + (sepT X j).length ≤ (seqTo (sepT X) vs.length).length) := fun j hj => seq_le (sepT X) j _ hj
  clear hH hcell
  obtain ⟨len, hle⟩ : ∃ n, vs.length = n := ⟨_, rfl⟩
  rw [hle] at hlen hm haa key HSL ⊢
  clear hle
  have ha0 : App base w (w.alloc (.cells #[.slice a len cap, .bool B, .iface T p] 79)) v l := App.alloc hb.le (App.refl (hown.alloc _))
  have hb0 := hb.app ha0
  have hc0 : (w.alloc (.cells #[.slice a len cap, .bool B, .iface T p] 79)).heap[w.heap.size]? = some (.cells #[.slice a len cap, .bool B, .iface T p] 79 (0, 0)) := heap_alloc_new w _
  obtain ⟨W0, hW0⟩ : ∃ W0, w.alloc (.cells #[.slice a len cap, .bool B, .iface T p] 79) = W0 := ⟨_, rfl⟩
  have e1 : W0.heap.size = w.heap.size + 1 := by rw [← hW0]; simp
  have E1 : Hid (W0.heap.size = w.heap.size + 1) := e1
  have HW0 : Hid (w.alloc (.cells #[.slice a len cap, .bool B, .iface T p] 79) = W0) := hW0
  rw [hW0] at ha0 hb0 hc0
  have KEY : Hid (∀ j, j < len → ∀ w1 v1 l1, App base W0 w1 v1 l1 → ∃ t ins ad2, w1.cell? ⟨bb, off + j, none⟩ = some (.iface 110 (.agg #[.string t, ins])) ∧ (ins = .nilIface ∨ ∃ (T : TypeId) (p : Value), ins = .iface T p) ∧ X j = t.data.toList ++ ad2 ∧ ∀ w2 v2 l2, App base w1 w2 v2 l2 → l2.length + ad2.length ≤ 70368744177664 → Calls Tryd.prog 35 #[v2, .string ⟨#[32, 63, 32]⟩, ins] w2 fun e w' => ∃ v', e = .returned v' ∧ App base w2 w' v' (l2 ++ ad2)) := fun j hj w1 v1 l1 h => key j hj w1 v1 l1 (ha0.trans h)
  have HM1 : Hid (∀ w1 v1 l1, App base W0 w1 v1 l1 → l1.length + (btw len).data.toList.length + 3 ≤ 70368744177664 → Calls Tryd.prog 33 #[v1, .slice (some ⟨w1.heap.size, 0, none⟩) 2 2] (w1.alloc (.cells #[.iface 9 (.string (btw len)), .iface 9 (.string ⟨#[46, 46, 46]⟩)] 20)) fun e w' => ∃ v', e = .returned v' ∧ App base w1 w' v' (l1 ++ ((btw len).data.toList ++ [46, 46, 46]))) := fun w1 v1 l1 h hl => by
    have := mix_new (r := r) hO [.iface 9 (.string (btw len)), .iface 9 (.string ⟨#[46, 46, 46]⟩)] [(btw len).data.toList, (⟨#[46, 46, 46]⟩ : ByteArray).data.toList] w1 v1 _ h.own (hb0.app h) rfl (pieces rfl (fun i h1 h2 => by
      match i, h1 with
      | 0, _ => exact pS _
      | 1, _ => exact pS _)) (by simp only [List.length_append, List.length_cons, List.length_nil, List.flatten_cons, List.flatten_nil]; simp at hl ⊢; omega) (by simp)
    refine this.mono ?_
    rintro e w' ⟨v', rfl, h'⟩
    exact ⟨v', rfl, by simpa using h'⟩
  have HM2 : Hid (∀ w1 v1 l1, App base W0 w1 v1 l1 → l1.length + ad.length + 3 ≤ 70368744177664 → Calls Tryd.prog 33 #[v1, .slice (some ⟨w1.heap.size, 0, none⟩) 2 2] (w1.alloc (.cells #[.iface 9 (.string ⟨#[125, 58, 32]⟩), .iface T p] 20)) fun e w' => ∃ v', e = .returned v' ∧ App base w1 w' v' (l1 ++ [125, 58, 32] ++ ad)) := fun w1 v1 l1 h hl => by
    have := mix_new (r := r) hO [.iface 9 (.string ⟨#[125, 58, 32]⟩), .iface T p] [(⟨#[125, 58, 32]⟩ : ByteArray).data.toList, ad] w1 v1 _ h.own (hb0.app h) rfl (pieces rfl (fun i h1 h2 => by
      match i, h1 with
      | 0, _ => exact pS _
      | 1, _ => exact (hpc.app hO hb.le ha0).app hO hb0.le h)) (by simp only [List.length_append, List.length_cons, List.length_nil, List.flatten_cons, List.flatten_nil]; simp at hl ⊢; omega) (by simp)
    refine this.mono ?_
    rintro e w' ⟨v', rfl, h'⟩
    exact ⟨v', rfl, by simpa using h'⟩
  have HBX : Hid (∀ wr tv l', App base W0 wr tv l' → wr.cell? ⟨w.heap.size, 0, none⟩ = some (.slice a len cap) ∧ wr.cell? ⟨w.heap.size, 1, none⟩ = some (.bool B) ∧ wr.cell? ⟨w.heap.size, 2, none⟩ = some (.iface T p)) := fun wr tv l' h => by
    have := h.cells hc0 (by decide)
    simp [World.cell?, this]
  have HA0 : Hid (App base w W0 v l) := ha0
  have hbtw : (btw len).data.toList.length ≤ 2 := by rw [btw_list]; split <;> simp
  obtain ⟨G, hG⟩ : ∃ G, l ++ [123] ++ seqTo (sepT X) len ++ (if B = true then (btw len).data.toList ++ [46, 46, 46] else []) ++ [125, 58, 32] ++ ad = G := ⟨_, rfl⟩
  rw [hG]
  have HG : Hid (l ++ [123] ++ seqTo (sepT X) len ++ (if B = true then (btw len).data.toList ++ [46, 46, 46] else []) ++ [125, 58, 32] ++ ad = G) := hG
  have HLEN : Hid (l.length + 1 + (seqTo (sepT X) len).length + (if B = true then (btw len).data.toList ++ [46, 46, 46] else []).length + 3 + ad.length ≤ 70368744177664) := hlen
  have hlen1 : l.length + 1 + (seqTo (sepT X) len).length + 3 + ad.length ≤ 70368744177664 := by omega
  clear key hpc hW0 hc0 e1 hG hlen
  go_enter Tryd.func34, Tryd.ntmps34
  go_wp2_with (first
    | (at_builtin; rw [HW0.out]; refine app_m W0 E1.out rfl _ _ rfl _ l rfl HA0.out.own hb0.le 123 rfl (by omega) ?_; intro v1 w1 ha1; have c0 := (HBX.out _ _ _ ha1).1)
    | go_in)
  go_loopw [0, 5, 7, 8, 9, 16] (fun tv bt _ _ _ i wr => ∃ j : Nat, j ≤ len ∧ i = .int .i64 (j : Int) ∧ bt = .string (btw j) ∧ App base W0 wr tv (l ++ [123] ++ seqTo (sepT X) j)) (fun _ _ _ _ _ i _ => len - (intOf i).toNat)
  case atStart => exact ⟨0, Nat.zero_le _, rfl, rfl, by simpa [seqTo] using ha1⟩
  case round =>
    obtain ⟨j, hj, rfl, rfl, happ⟩ := hrel
    have hbr := hb0.app happ
    by_cases hjl : j < len
    · have hjl' : (j : Int) < (len : Int) := by omega
      have hle := HSL.out j hjl
      obtain ⟨t, ins, ad2, hc, hins, hX, hI⟩ := KEY.out j hjl _ _ _ happ
      have hapos := (haa.resolve_left (by omega)).1
      subst hapos
      have HX : Hid (sepT X j = (btw j).data.toList ++ t.data.toList ++ ad2) := by
        show _ = _
        rw [sepT, hX, btw_list, List.append_assoc]
      have hXl : (sepT X j).length = (btw j).data.toList.length + t.data.toList.length + ad2.length := by rw [HX.out]; simp only [List.length_append]
      clear hX
      have HI : Hid _ := hI
      clear hI
      obtain ⟨L0, hL0⟩ : ∃ L0, l ++ [123] ++ seqTo (sepT X) j = L0 := ⟨_, rfl⟩
      have HL0 : Hid (l ++ [123] ++ seqTo (sepT X) j = L0) := hL0
      have hll : L0.length = l.length + 1 + (seqTo (sepT X) j).length := by rw [← hL0]; simp only [List.length_append, List.length_cons, List.length_nil]
      rw [hL0] at happ
      clear hL0
      obtain ⟨bt, hbt⟩ : ∃ bt, btw j = bt := ⟨_, rfl⟩
      rw [hbt] at HX hXl ⊢
      clear hbt
      rcases hins with rfl | ⟨T2, p2, rfl⟩
      · have a15 := as15 t (.nilIface)
        have hnext : Hid (btw (j + 1) = ⟨#[44, 32]⟩) := rfl
        go_wp2_with (first
          | (at_builtin; refine app_s wr rfl _ _ rfl _ L0 rfl happ.own hbr.le bt rfl (by omega) ?_; intro v2 w2 ha2; have hb2 := hbr.app ha2)
          | go_in)
        have ha3 : App base wr (w2.alloc (.cells #[.string t, .nilIface] 110)).drew v2 (L0 ++ bt.data.toList) := (ha2.made hbr.le _).drew
        have hb3 := hbr.app ha3
        have hk1 : Hid (∀ w1 v1 l1, App base (w2.alloc (.cells #[.string t, .nilIface] 110)).drew w1 v1 l1 → w1.heap[w2.heap.size]? = some (.cells #[.string t, .nilIface] 110 (0, 0))) := fun w1 v1 l1 h => h.cells (heap_alloc_new w2 _) (by decide)
        go_region_held3 (fun w' => w'.cell? ⟨w2.heap.size, 0, none⟩ = some (.string t) ∧ w'.cell? ⟨w2.heap.size, 1, none⟩ = some (.nilIface))
          (first
            | go_keep
            | (simp [World.cell?, ha5.cells (hk1.out _ _ _ ha4) (by decide)])
            | (simp [World.cell?, hk1.out _ _ _ ha4]))
          (first
            | ((refine step_s (by rfl) _ _ (by rfl) v2 (L0 ++ bt.data.toList) (by rfl) ha3.own hb3.le t (by rfl) (by simp only [List.length_append]; omega) ?_; intro v4 w4 ha4))
            | ((go_at_call 35; refine (HI.out _ _ _ (ha3.trans ha4) (by simp only [List.length_append]; omega)).mono ?_; rintro e w5 ⟨v5, rfl, ha5⟩)))
        go_wp2_with fail
        go_roundw
        case rel => exact ⟨j + 1, by omega, by go_num, by rw [hnext.out], by
          have := ((happ.trans ha3).trans ha4).trans ha5
          rw [seqTo, HX.out, ← List.append_assoc, HL0.out]
          simpa only [List.append_assoc] using this⟩
        case measure => simp [intOf]; omega
      · have a15 := as15 t (.iface T2 p2)
        have hnext : Hid (btw (j + 1) = ⟨#[44, 32]⟩) := rfl
        go_wp2_with (first
          | (at_builtin; refine app_s wr rfl _ _ rfl _ L0 rfl happ.own hbr.le bt rfl (by omega) ?_; intro v2 w2 ha2; have hb2 := hbr.app ha2)
          | go_in)
        have ha3 : App base wr (w2.alloc (.cells #[.string t, .iface T2 p2] 110)).drew v2 (L0 ++ bt.data.toList) := (ha2.made hbr.le _).drew
        have hb3 := hbr.app ha3
        have hk1 : Hid (∀ w1 v1 l1, App base (w2.alloc (.cells #[.string t, .iface T2 p2] 110)).drew w1 v1 l1 → w1.heap[w2.heap.size]? = some (.cells #[.string t, .iface T2 p2] 110 (0, 0))) := fun w1 v1 l1 h => h.cells (heap_alloc_new w2 _) (by decide)
        go_region_held3 (fun w' => w'.cell? ⟨w2.heap.size, 0, none⟩ = some (.string t) ∧ w'.cell? ⟨w2.heap.size, 1, none⟩ = some (.iface T2 p2))
          (first
            | go_keep
            | (simp [World.cell?, ha5.cells (hk1.out _ _ _ ha4) (by decide)])
            | (simp [World.cell?, hk1.out _ _ _ ha4]))
          (first
            | ((refine step_s (by rfl) _ _ (by rfl) v2 (L0 ++ bt.data.toList) (by rfl) ha3.own hb3.le t (by rfl) (by simp only [List.length_append]; omega) ?_; intro v4 w4 ha4))
            | ((go_at_call 35; refine (HI.out _ _ _ (ha3.trans ha4) (by simp only [List.length_append]; omega)).mono ?_; rintro e w5 ⟨v5, rfl, ha5⟩)))
        go_wp2_with fail
        go_roundw
        case rel => exact ⟨j + 1, by omega, by go_num, by rw [hnext.out], by
          have := ((happ.trans ha3).trans ha4).trans ha5
          rw [seqTo, HX.out, ← List.append_assoc, HL0.out]
          simpa only [List.append_assoc] using this⟩
        case measure => simp [intOf]; omega
    · have hjl' : ¬ (j : Int) < (len : Int) := by omega
      obtain rfl : j = len := by omega
      obtain ⟨_, c1, c2⟩ := HBX.out _ _ _ happ
      obtain ⟨L0, hL0⟩ : ∃ L0, l ++ [123] ++ seqTo (sepT X) j = L0 := ⟨_, rfl⟩
      have hll : L0.length = l.length + 1 + (seqTo (sepT X) j).length := by rw [← hL0]; simp only [List.length_append, List.length_cons, List.length_nil]
      rw [hL0] at happ
      have HL0 : Hid (l ++ [123] ++ seqTo (sepT X) j = L0) := hL0
      clear hL0
      obtain ⟨bt, hbt⟩ : ∃ bt, btw j = bt := ⟨_, rfl⟩
      rw [hbt] at HM1 hbtw ⊢
      have HBT : Hid (btw j = bt) := hbt
      clear hbt
      have hll2 := HLEN.out
      rw [HBT.out] at hll2
      cases B
      · clear hll2
        go_wp2_with (go_at_call 33; refine (HM2.out _ _ _ happ (by omega)).mono ?_; rintro e w3 ⟨v3, rfl, ha3⟩)
        go_ret
        refine ⟨_, rfl, ?_⟩
        have := (HA0.out.trans happ).trans ha3
        have g := HG.out
        rw [HL0.out, if_neg (by decide), List.append_nil] at g
        rw [← g]
        exact this
      · simp only [if_true, List.length_append, List.length_cons, List.length_nil] at hll2
        go_wp2_with (go_at_call 33; refine (HM1.out _ _ _ happ (by omega)).mono ?_; rintro e w3 ⟨v3, rfl, ha3⟩; have c3 := (HBX.out _ _ _ (happ.trans ha3)).2.2; refine Hid.out ?_)
        refine Lib.hid ?_
        go_wp2_with (go_at_call 33; refine (HM2.out _ _ _ (happ.trans ha3) (by simp only [List.length_append, List.length_cons, List.length_nil]; omega)).mono ?_; rintro e w4 ⟨v4, rfl, ha4⟩)
        go_ret
        refine ⟨_, rfl, ?_⟩
        have := ((HA0.out.trans happ).trans ha3).trans ha4
        have g := HG.out
        simp only [if_true] at g
        rw [HL0.out, HBT.out] at g
        rw [← g]
        exact this

end Go.Proofs.YtlnagmdoepldmaaDoor.ex
