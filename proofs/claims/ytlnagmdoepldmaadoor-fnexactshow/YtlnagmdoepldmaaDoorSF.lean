import Derived.Test.YtlnagmdoepldmaaDoorSE
namespace Go.Proofs.YtlnagmdoepldmaaDoor.ex
open Go.ChangeShapes Go.WideShapes Go.ChangeAt Go.RowKit Go.Deep
set_option linter.unusedVariables false
set_option linter.unusedSimpArgs false

/-- What lays new blocks alone keeps the bytes. -/
theorem App.new {base : Nat} {w w' : World} {v : Value} {l : List UInt8} (hown : w.ownsRow base 5 1 v l.length (byteCells l)) (hb : base ≤ w.heap.size) (h : Below w.heap.size w w') : App base w w' v l :=
  ⟨own_below hown h, h.mono hb, fun k hk _ => h.block k hk⟩

theorem app_m {base m : Nat} (w0 : World) (hm : w0.heap.size = m) {ops : Array Oper} {rest : List Oper} {o : Oper} {a : Act} {Q : Exit → Act → World → Prop} (hgd : o.guard = none) (s x : Operand)
    (ho : o.op = .call { callee := .builtin .append, args := #[s, x], argTypes := #[35, 35] }) (v : Value) (l : List UInt8) (hs : a.eval s = v) (hown : w0.ownsRow base 5 1 v l.length (byteCells l)) (hb : base ≤ w0.heap.size) (b : UInt8)
    (hx : a.eval x = .slice (some ⟨m, 0, none⟩) 1 1) (hlen : l.length + 1 ≤ 140737488355328) (h : ∀ v' w', App base w0 w' v' (l ++ [b]) → wpList Tryd.prog ops Q rest (a.put o.dst v') w') : wpList Tryd.prog ops Q (o :: rest) a (w0.alloc (.cells #[.int .u8 (b.toNat : Int)] 5)) := by
  subst hm
  exact app_b w0 hgd s x ho v l hs hown hb b hx hlen h

set_option maxRecDepth 100000 in
set_option maxHeartbeats 1000000 in
theorem sh3 {base r : Nat} {t : ByteArray} {n : Int} (w : World) (v : Value) (l : List UInt8) (hown : w.ownsRow base 5 1 v l.length (byteCells l)) (hb : Rd base w) (hlen : l.length + (txt (r + 1) (.mk 3 t n [])).length ≤ 70368744177664) :
    Calls Tryd.prog 14 #[v, .iface 56 (.agg #[.string t])] w fun e w' => ∃ v', e = .returned v' ∧ App base w w' v' (l ++ txt (r + 1) (.mk 3 t n [])) := by
  have htx : txt (r + 1) (.mk 3 t n []) = t.data.toList := by simp [txt]
  rw [htx] at hlen ⊢
  clear htx
  have ha0 : App base w (w.alloc (.cells #[.string t] 56)) v l := App.alloc hb.le (App.refl (hown.alloc _))
  have hb0 := hb.app ha0
  have a1 := as3_1 (.agg #[.string t])
  have a2 := as3_2 (.agg #[.string t])
  have a3 := as3_3 (.agg #[.string t])
  go_enter Tryd.func14, Tryd.ntmps14
  go_wp2_with (first
    | (at_builtin; refine app_s _ rfl _ _ rfl _ l rfl ha0.own hb0.le t rfl (by omega) ?_; intro v1 w1 ha1)
    | go_in)
  go_ret
  exact ⟨_, rfl, ha0.trans ha1⟩

set_option maxRecDepth 100000 in
set_option maxHeartbeats 1000000 in
theorem sh2 {base r : Nat} {t : ByteArray} {n : Int} (ht : t.size ≤ 1048576) (w : World) (v : Value) (l : List UInt8) (hown : w.ownsRow base 5 1 v l.length (byteCells l)) (hb : Rd base w) (hlen : l.length + (txt (r + 1) (.mk 2 t n [])).length ≤ 70368744177664) :
    Calls Tryd.prog 14 #[v, .iface 54 (.agg #[.string t])] w fun e w' => ∃ v', e = .returned v' ∧ App base w w' v' (l ++ txt (r + 1) (.mk 2 t n [])) := by
  have htx : txt (r + 1) (.mk 2 t n []) = (es.showA t).data.toList := by simp [txt]
  rw [htx] at hlen ⊢
  clear htx
  have ha0 : App base w (w.alloc (.cells #[.string t] 54)) v l := App.alloc hb.le (App.refl (hown.alloc _))
  have hb0 := hb.app ha0
  have HC := es.impl_any t ht _ hb0.esc
  obtain ⟨S, hS⟩ : ∃ S, es.showA t = S := ⟨_, rfl⟩
  rw [hS] at HC hlen ⊢
  have HC' : Hid (Calls Tryd.prog 29 #[.string t] (w.alloc (.cells #[.string t] 54)) fun e w' => e = .returned (.string S) ∧ Below (w.alloc (.cells #[.string t] 54)).heap.size (w.alloc (.cells #[.string t] 54)) w') := HC
  clear HC hS
  have a1 := as2_1 (.agg #[.string t])
  have a2 := as2_2 (.agg #[.string t])
  go_enter Tryd.func14, Tryd.ntmps14
  go_wp2_with (first
    | (go_at_call 29; refine HC'.out.mono ?_; rintro e w1 ⟨rfl, hb1⟩; have ha1 := App.new ha0.own hb0.le hb1; have hb2 := hb0.app ha1)
    | (at_builtin; refine app_s _ rfl _ _ rfl _ l rfl ha1.own hb2.le S rfl (by omega) ?_; intro v2 w2 ha2)
    | go_in)
  go_ret
  exact ⟨_, rfl, (ha0.trans ha1).trans ha2⟩

def sepL (P : Nat → List UInt8) (j : Nat) : List UInt8 := (if 0 < j then [32] else []) ++ P j
theorem seq_le (f : Nat → List UInt8) (j : Nat) : ∀ m, j < m → (seqTo f j).length + (f j).length ≤ (seqTo f m).length
  | 0, h => absurd h (Nat.not_lt_zero _)
  | m + 1, h => by
    rw [seqTo, List.length_append]
    rcases Nat.lt_or_ge j m with h' | h'
    · have := seq_le f j m h'; omega
    · obtain rfl : j = m := by omega
      omega

/-- All parts of a row. -/
def Parts (w : World) (O : Nat → Prop) (base r : Nat) (vs : List Value) (ps : List Tr) : Prop := ∀ (i : Nat) (x : Value) (y : Tr), vs[i]? = some x → ps[i]? = some y → Nd w O r x y ∧ Pt O base r x y

theorem tr_at {ps : List Tr} {j : Nat} (h : j < ps.length) : ps[j]? = some (Tr.at ps j) := by simp [Tr.at, h]

set_option maxRecDepth 100000 in
set_option maxHeartbeats 2000000 in
theorem list_any {O : Nat → Prop} {base r : Nat} (hO : ∀ bb, O bb → bb < base) (vs : List Value) (ps : List Tr) (hl : vs.length = ps.length) (hm : vs.length ≤ 3000) (a : Option Addr) (cap : Nat) (w : World) (hP : PsO w O a vs) (hH : Parts w O base r vs ps)
    (v : Value) (l : List UInt8) (hown : w.ownsRow base 5 1 v l.length (byteCells l)) (hb : Rd base w) (hlen : l.length + (seqTo (sepL fun i => brak (Tr.at ps i).kind (txt r (Tr.at ps i))) ps.length).length + 2 ≤ 70368744177664) :
    Calls Tryd.prog 30 #[v, .agg #[.slice a vs.length cap]] w fun e w' => ∃ v', e = .returned v' ∧ App base w w' v' (l ++ [91] ++ seqTo (sepL fun i => brak (Tr.at ps i).kind (txt r (Tr.at ps i))) ps.length ++ [93]) := by
  obtain ⟨F, hF⟩ : ∃ F, (sepL fun i => brak (Tr.at ps i).kind (txt r (Tr.at ps i))) = F := ⟨_, rfl⟩
  rw [hF] at hlen ⊢
  have ha0 : App base w (w.alloc (.cells #[.slice a vs.length cap] 59)) v l := App.alloc hb.le (App.refl (hown.alloc _))
  have hb0 := hb.app ha0
  obtain ⟨bb, off, haa, hcell⟩ := hP
  have key : ∀ j, j < vs.length → ∀ w1 v1 l1, App base w w1 v1 l1 → l1.length + (F j).length ≤ 70368744177664 → ∃ T x, w1.cell? ⟨bb, off + j, none⟩ = some (.iface T x) ∧ (0 < j → ∀ w2 v2, App base w1 w2 v2 (l1 ++ [32]) → Calls Tryd.prog 46 #[v2, .iface T x] w2 fun e w' => ∃ v', e = .returned v' ∧ App base w2 w' v' (l1 ++ F j)) ∧ (j = 0 → Calls Tryd.prog 46 #[v1, .iface T x] w1 fun e w' => ∃ v', e = .returned v' ∧ App base w1 w' v' (l1 ++ F j)) := by
    intro j hj w1 v1 l1 ha hln
    obtain ⟨hn, hp⟩ := hH j vs[j] (Tr.at ps j) (List.getElem?_eq_getElem hj) (tr_at (by omega))
    obtain ⟨T, x, hx⟩ := hn.iface
    have hbb : O bb := (haa.resolve_left (by omega)).2
    have hk : w1.heap[bb]? = w.heap[bb]? := ha.kept bb (by have := hO bb hbb; have := hb.le; omega) (.inl (hO bb hbb))
    have hl3 : (F j).length = (if 0 < j then ([32] : List UInt8) else []).length + (brak (Tr.at ps j).kind (txt r (Tr.at ps j))).length := by rw [← hF, sepL, List.length_append]
    refine ⟨T, x, ?_, fun h0 w2 v2 h2 => ?_, fun h0 => ?_⟩
    · rw [← hx, ← hcell j vs[j] (List.getElem?_eq_getElem hj)]
      simp only [World.cell?, hk]
    · have e : l1 ++ F j = (l1 ++ [32]) ++ brak (Tr.at ps j).kind (txt r (Tr.at ps j)) := by rw [← hF, sepL, if_pos h0, List.append_assoc]
      rw [e]
      rw [← hx]
      refine hp w2 v2 _ h2.own ((hb.app ha).app h2) ((hn.app hO hb.le ha).app hO (hb.app ha).le h2) ?_
      rw [if_pos h0] at hl3
      simp only [List.length_append, List.length_cons, List.length_nil] at hl3 ⊢
      omega
    · have e : l1 ++ F j = l1 ++ brak (Tr.at ps j).kind (txt r (Tr.at ps j)) := by rw [← hF, sepL, if_neg (by omega), List.nil_append]
      rw [e]
      rw [← hx]
      refine hp w1 v1 _ ha.own (hb.app ha) (hn.app hO hb.le ha) ?_
      rw [if_neg (by omega)] at hl3
      simp only [List.length_append, List.length_cons, List.length_nil] at hl3 ⊢
      omega
  have KEY : Hid (∀ j, j < vs.length → ∀ w1 v1 l1, App base w w1 v1 l1 → l1.length + (F j).length ≤ 70368744177664 → ∃ T x, w1.cell? ⟨bb, off + j, none⟩ = some (.iface T x) ∧ (0 < j → ∀ w2 v2, App base w1 w2 v2 (l1 ++ [32]) → Calls Tryd.prog 46 #[v2, .iface T x] w2 fun e w' => ∃ v', e = .returned v' ∧ App base w2 w' v' (l1 ++ F j)) ∧ (j = 0 → Calls Tryd.prog 46 #[v1, .iface T x] w1 fun e w' => ∃ v', e = .returned v' ∧ App base w1 w' v' (l1 ++ F j))) := key
  have hsl : ∀ j, j < vs.length → (seqTo F j).length + (F j).length ≤ (seqTo F vs.length).length := fun j hj => seq_le F j _ hj
  rw [← hl] at hlen ⊢
  have HSL : Hid (∀ j, j < vs.length → (seqTo F j).length + (F j).length ≤ (seqTo F vs.length).length) := hsl
  clear key hH hF hsl hcell hl
  obtain ⟨len, hle⟩ : ∃ n, vs.length = n := ⟨_, rfl⟩
  rw [hle] at hlen hm haa KEY HSL ha0 hb0 ⊢
  clear hle
  have e1 : Hid ((w.alloc (.cells #[.slice a len cap] 59)).heap.size = w.heap.size + 1) := by show _ = _; simp
  have hslot : Hid (∀ wr tv l', App base (w.alloc (.cells #[.slice a len cap] 59)) wr tv l' → wr.cell? ⟨w.heap.size, 0, none⟩ = some (.slice a len cap)) := fun wr tv l' h => by
    have := h.cells (heap_alloc_new w _) (by decide)
    simp [World.cell?, this]
  obtain ⟨G, hG⟩ : ∃ G, l ++ [91] ++ seqTo F len ++ [93] = G := ⟨_, rfl⟩
  rw [hG]
  have HG : Hid (l ++ [91] ++ seqTo F len ++ [93] = G) := hG
  clear hG
  go_enter Tryd.func30, Tryd.ntmps30
  go_wp2_with (first
    | (at_builtin; refine app_m (w.alloc (.cells #[.slice a len cap] 59)) e1.out rfl _ _ rfl _ l rfl ha0.own hb0.le 91 rfl (by omega) ?_; intro v1 w1 ha1; have c0 := hslot.out _ _ _ ha1)
    | go_in)
  go_loopw [0, 5, 6, 13] (fun tv _ _ i wr => ∃ j : Nat, j ≤ len ∧ i = .int .i64 (j : Int) ∧ App base w wr tv (l ++ [91] ++ seqTo F j)) (fun _ _ _ i _ => len - (intOf i).toNat)
  case atStart => exact ⟨0, Nat.zero_le _, rfl, by simpa [seqTo] using ha0.trans ha1⟩
  case round =>
    obtain ⟨j, hj, rfl, happ⟩ := hrel
    have hbr := hb.app happ
    by_cases hjl : j < len
    · have hjl' : (j : Int) < (len : Int) := by omega
      have hle := HSL.out j hjl
      obtain ⟨T, x, hc, hpos, hzero⟩ := KEY.out j hjl _ _ _ happ (by simp only [List.length_append, List.length_cons, List.length_nil]; omega)
      have hapos := (haa.resolve_left (by omega)).1
      subst hapos
      have HP : Hid _ := hpos
      have HZ : Hid _ := hzero
      clear hpos hzero
      by_cases hj0 : 0 < j
      · have hj0' : (0 : Int) < (j : Int) := by omega
        go_wp2_with (first
          | (at_builtin; refine app_b _ rfl _ _ rfl _ _ rfl happ.own hbr.le 32 rfl (by simp only [List.length_append, List.length_cons, List.length_nil]; omega) ?_; intro v2 w2 ha2)
          | (go_at_call 46; refine (HP.out hj0 _ _ ha2).mono ?_; rintro e w3 ⟨v3, rfl, ha3⟩)
          | go_in)
        go_roundw
        case rel => exact ⟨j + 1, by omega, by go_num, by rw [seqTo, ← List.append_assoc]; exact (happ.trans ha2).trans ha3⟩
        case measure => simp [intOf]; omega
      · obtain rfl : j = 0 := by omega
        rw [Nat.add_zero] at hc
        go_wp2_with (first
          | (go_at_call 46; refine (HZ.out rfl).mono ?_; rintro e w3 ⟨v3, rfl, ha3⟩)
          | go_in)
        go_roundw
        case rel => exact ⟨1, by omega, by go_num, by rw [seqTo, ← List.append_assoc]; exact happ.trans ha3⟩
        case measure => simp [intOf]; omega
    · have hjl' : ¬ (j : Int) < (len : Int) := by omega
      obtain rfl : j = len := by omega
      go_wp2_with (first
        | (at_builtin; refine app_b _ rfl _ _ rfl _ _ rfl happ.own hbr.le 93 rfl (by simp only [List.length_append, List.length_cons, List.length_nil]; omega) ?_; intro v2 w2 ha2)
        | go_in)
      go_ret
      exact ⟨_, rfl, by rw [← HG.out]; exact happ.trans ha2⟩

set_option maxRecDepth 100000 in
set_option maxHeartbeats 1000000 in
theorem sh4 {O : Nat → Prop} {base r : Nat} (hO : ∀ bb, O bb → bb < base) {t : ByteArray} {n : Int} (vs : List Value) (ps : List Tr) (hl : vs.length = ps.length) (hm : vs.length ≤ 3000) (a : Option Addr) (cap : Nat) (w : World) (hP : PsO w O a vs) (hH : Parts w O base r vs ps) (v : Value) (l : List UInt8) (hown : w.ownsRow base 5 1 v l.length (byteCells l)) (hb : Rd base w) (hlen : l.length + (txt (r + 1) (.mk 4 t n ps)).length ≤ 70368744177664) :
    Calls Tryd.prog 14 #[v, .iface 59 (.agg #[.slice a vs.length cap])] w fun e w' => ∃ v', e = .returned v' ∧ App base w w' v' (l ++ txt (r + 1) (.mk 4 t n ps)) := by
  have htx : txt (r + 1) (.mk 4 t n ps) = [91] ++ seqTo (sepL fun i => brak (Tr.at ps i).kind (txt r (Tr.at ps i))) ps.length ++ [93] := by simp [txt]; rfl
  rw [htx] at hlen ⊢
  clear htx
  have ha0 : App base w (w.alloc (.cells #[.slice a vs.length cap] 59)) v l := App.alloc hb.le (App.refl (hown.alloc _))
  have hb0 := hb.app ha0
  simp only [List.length_append, List.length_cons, List.length_nil] at hlen
  have HC := list_any hO vs ps hl hm a cap _ (hP.kept fun bb hbb => ha0.kept bb (by have := hO bb hbb; have := hb.le; omega) (.inl (hO bb hbb))) (fun i x y hx hy => ⟨(hH i x y hx hy).1.app hO hb.le ha0, (hH i x y hx hy).2⟩) v l ha0.own hb0 (by omega)
  obtain ⟨G, hG⟩ : ∃ G, l ++ [91] ++ seqTo (sepL fun i => brak (Tr.at ps i).kind (txt r (Tr.at ps i))) ps.length ++ [93] = G := ⟨_, rfl⟩
  rw [hG] at HC
  have eG : l ++ ([91] ++ seqTo (sepL fun i => brak (Tr.at ps i).kind (txt r (Tr.at ps i))) ps.length ++ [93]) = G := by rw [← hG]; simp
  rw [eG]
  have HC' : Hid (Calls Tryd.prog 30 #[v, .agg #[.slice a vs.length cap]] (w.alloc (.cells #[.slice a vs.length cap] 59)) fun e w' => ∃ v', e = .returned v' ∧ App base (w.alloc (.cells #[.slice a vs.length cap] 59)) w' v' G) := HC
  clear HC eG hG hlen hH hl
  have a1 := as4_1 (.agg #[.slice a vs.length cap])
  have a2 := as4_2 (.agg #[.slice a vs.length cap])
  have a3 := as4_3 (.agg #[.slice a vs.length cap])
  have a4 := as4_4 (.agg #[.slice a vs.length cap])
  go_enter Tryd.func14, Tryd.ntmps14
  go_wp2_with (go_at_call 30; refine HC'.out.mono ?_; rintro e w1 ⟨v1, rfl, ha1⟩)
  go_ret
  exact ⟨_, rfl, ha0.trans ha1⟩

end Go.Proofs.YtlnagmdoepldmaaDoor.ex
