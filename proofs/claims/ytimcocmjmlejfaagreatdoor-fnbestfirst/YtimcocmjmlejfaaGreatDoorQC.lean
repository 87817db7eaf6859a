import Derived.Test.YtimcocmjmlejfaaGreatDoorQB
import Derived.Test.YtimcocmjmlejfaaGreatDoorV1
import Derived.Maps.AppendAt
namespace Go.Proofs.YtimcocmjmlejfaaGreatDoor.rc
open Go.ChangeShapes Go.WideShapes Go.ChangeAt Go.RowKit Go.Deep Go.Lib Go.Shelf Go.Proofs.YtimcocmjmlejfaaGreatDoor.vr
set_option linter.unusedVariables false
set_option linter.unusedSimpArgs false

theorem sv_info {e : TypeId} {z : Value} {size bytes : Nat} (hinfo : (Tryz.prog.info? e).map (fun i => (i.zero, i.size, i.bytes)) = some (some z, size, bytes)) : ∃ i, Tryz.prog.info? e = some i ∧ i.zero = some z ∧ i.size = size ∧ i.bytes = bytes := by
  obtain ⟨i, hi, hzz⟩ := Option.map_eq_some_iff.1 hinfo
  simp only [Prod.mk.injEq] at hzz
  exact ⟨i, hi, hzz.1, hzz.2.1, hzz.2.2⟩

/-! ### Rows of terms -/

abbrev Tm := List UInt8 × List UInt8
def tmC (x : Tm) : List Value := [.string ⟨x.1.toArray⟩, .string ⟨x.2.toArray⟩]

theorem infoT : (Tryz.prog.info? 60).map (fun i => (i.zero, i.size, i.bytes)) = some (some (.agg #[.string ⟨#[]⟩, .string ⟨#[]⟩]), 2, 32) := by kernel_rfl

def OwnT (B : Nat) (w : World) (v : Value) (l : List Tm) : Prop := w.ownsRow B 60 2 v l.length (l.flatMap tmC) ∧ v ≠ .slice none 0 0

theorem ownT_zero (w : World) : OwnT w.heap.size (w.alloc (.cells #[] 60)) (.slice (some ⟨w.heap.size, 0, none⟩) 0 0) [] := ⟨World.ownsRow_made w #[] 0 (Nat.le_refl _) (by decide) rfl, by intro e; cases e⟩

theorem OwnT.bel {B : Nat} {w w' : World} {v : Value} {l : List Tm} (h : OwnT B w v l) (hb : Below w.heap.size w w') : OwnT B w' v l := ⟨own_below h.1 hb, h.2⟩

/-- The cells of a row of terms. -/
def TmR (w : World) (v : Value) (l : List Tm) : Prop := ∃ g cap, v = .slice (some ⟨g, 0, none⟩) l.length cap ∧ l.length ≤ cap ∧ (∀ (i : Nat) (x : Tm), l[i]? = some x → w.cell? ⟨g, i * 2, none⟩ = some (.string ⟨x.1.toArray⟩) ∧ w.cell? ⟨g, i * 2 + 1, none⟩ = some (.string ⟨x.2.toArray⟩)) ∧ g < w.heap.size

theorem flatT_at : ∀ (l : List Tm) (k : Nat) (x : Tm) (j : Nat) (u : Value), l[k]? = some x → (tmC x)[j]? = some u → (l.flatMap tmC)[k * 2 + j]? = some u
  | [], k, x, j, u, h, _ => by simp at h
  | y :: l, 0, x, j, u, h, hu => by
    obtain rfl : y = x := by simpa using h
    have hj : j < (tmC y).length := (List.getElem?_eq_some_iff.1 hu).1
    rw [List.flatMap_cons, Nat.zero_mul, Nat.zero_add, List.getElem?_append_left hj]
    exact hu
  | y :: l, k + 1, x, j, u, h, hu => by
    have ih := flatT_at l k x j u (by simpa using h) hu
    rw [List.flatMap_cons, List.getElem?_append_right (by simp [tmC]; omega)]
    rw [show (k + 1) * 2 + j - (tmC y).length = k * 2 + j by simp [tmC]; omega]
    exact ih

theorem OwnT.row {B : Nat} {w : World} {v : Value} {l : List Tm} (h : OwnT B w v l) : TmR w v l := by
  obtain ⟨h0, hv⟩ := h
  have h0' := h0
  obtain ⟨hl, h⟩ := h0
  rcases h with ⟨e, _⟩ | ⟨g, cap, cur, rfl, hb, hg, hcs⟩
  · exact absurd e hv
  · refine ⟨g, cap, rfl, hcs.1, fun i x hx => ⟨?_, ?_⟩, (Array.getElem?_eq_some_iff.1 hg).1⟩
    · have := h0'.cells (g := g) rfl (i * 2 + 0) (.string ⟨x.1.toArray⟩) (flatT_at l i x 0 _ hx rfl)
      rwa [addr_add, Nat.zero_add] at this
    · have := h0'.cells (g := g) rfl (i * 2 + 1) (.string ⟨x.2.toArray⟩) (flatT_at l i x 1 _ hx rfl)
      rwa [addr_add, Nat.zero_add] at this

theorem TmR.below {w w' : World} {v : Value} {l : List Tm} (h : TmR w v l) (hb : Below w.heap.size w w') : TmR w' v l := by
  obtain ⟨g, cap, e, hc, h, hg⟩ := h
  exact ⟨g, cap, e, hc, fun i x hx => ⟨(hb.cell (p := ⟨g, _, none⟩) hg).trans (h i x hx).1, (hb.cell (p := ⟨g, _, none⟩) hg).trans (h i x hx).2⟩, Nat.lt_of_lt_of_le hg hb.size⟩

/-- An append of one term. -/
theorem app_term (w : World) {ops : Array Oper} {rest : List Oper} {o : Oper} {a : Act} {Q : Exit → Act → World → Prop} (hgd : o.guard = none) (s x : Operand)
    (ho : o.op = .call { callee := .builtin .append, args := #[s, x], argTypes := #[41, 41] })
    (base : Nat) (v : Value) (l : List Tm) (hs : a.eval s = v) (hown : OwnT base w v l)
    (ad : Addr) (t : Tm) (hx : a.eval x = .slice (some ad) 1 1) (hnews : ∀ j u, (tmC t)[j]? = some u → w.cell? (ad.add j) = some u) (hlen : l.length ≤ 1000000) (hbase : base ≤ w.heap.size)
    (h : ∀ v' w', OwnT base w' v' (l ++ [t]) → w.grownBy w' v.ownBlock → (v'.ownBlock = v.ownBlock ∨ v'.ownBlock = some w.heap.size) → wpList Tryz.prog ops Q rest (a.put o.dst v') w') : wpList Tryz.prog ops Q (o :: rest) a w := by
  obtain ⟨i0, hi, hz0, hz1, hz2⟩ := sv_info infoT
  refine wpList_append_own_at w hgd s x 41 ho base 60 i0 _ 2 32 Tryz.underlying41 hi hz0 hz1 hz2 rfl (by omega) v l.length (l.flatMap tmC) hs hown.1 ad 1 1 (tmC t) hx rfl hnews (by intro u hu; simp [tmC] at hu; rcases hu with rfl | rfl <;> rfl) (by unfold maxLen; omega) (by omega) hbase ?_
  intro v' w' h1 h2 h3 h4
  refine h _ _ ⟨?_, fun e => hown.2 (h3.1 e).1⟩ h2 h4
  rw [List.length_append, List.flatMap_append]
  simpa using h1

set_option maxHeartbeats 2000000 in
set_option maxRecDepth 100000 in
theorem termsOf_any (s : ByteArray) (hs : s.size ≤ 1048576) (hw : ∀ x ∈ wds [] s.data.toList, x.length ≤ 1048576) (hn : (wds [] s.data.toList).length ≤ 1000000) (w : World) :
    Calls Tryz.prog 19 #[.string s] w fun e w' => ∃ v, e = .returned v ∧ OwnT w.heap.size w' v ((wds [] s.data.toList).map trm) ∧ Below w.heap.size w w' := by
  obtain ⟨ws, hws⟩ : ∃ ws, wds [] s.data.toList = ws := ⟨_, rfl⟩
  have HF : Hid (∀ W, Calls Tryz.prog 41 #[.string s, .func (.func 42) #[] #[]] W fun e w' => ∃ A, e = .returned (.slice (some ⟨A, 0, none⟩) ws.length ws.length) ∧ W.heap.size ≤ A ∧ A < w'.heap.size ∧ (∀ (i : Nat) x, ws[i]? = some x → w'.cell? ⟨A, i, none⟩ = some (.string ⟨x.toArray⟩)) ∧ Below W.heap.size W w') := fun W => by
    have := fields_any s W hs
    rwa [hws] at this
  rw [hws] at hw hn ⊢
  have HWD : Hid (∀ x ∈ ws, x.length ≤ 1048576) := hw
  have B0 : Below w.heap.size w (w.alloc (.cells #[] 60)) := (Below.refl _ _).alloc (Nat.le_refl _) _
  clear hws hw
  go_enter Tryz.func19, Tryz.ntmps19
  go_wp2_with (go_at_call 41; refine (HF.out _).mono ?_; rintro e w1 ⟨A, rfl, hA1, hA2, hAc, hl1⟩)
  have HO1 : Hid (OwnT w.heap.size w1 (.slice (some ⟨w.heap.size, 0, none⟩) 0 0) []) := OwnT.bel (ownT_zero w) hl1
  have hA1' : w.heap.size + 1 ≤ A := by simpa using hA1
  have HB1 : Hid (Below w.heap.size w w1) := B0.trans (hl1.mono (by simp))
  have HAC : Hid (∀ (i : Nat) x, ws[i]? = some x → w1.cell? ⟨A, i, none⟩ = some (.string ⟨x.toArray⟩)) := hAc
  clear hAc hl1 hA1
  go_loopw [3, 5, 10] (fun r _ x wr => ∃ (j : Nat), j ≤ ws.length ∧ x = .int .i64 (j : Int) ∧ OwnT w.heap.size wr r ((ws.take j).map trm) ∧ (wr.heap[A]? = w1.heap[A]? ∧ A < wr.heap.size ∧ r.ownBlock ≠ some A) ∧ Below w.heap.size w wr) (fun _ _ x _ => ws.length - (intOf x).toNat)
  case atStart =>
    refine ⟨0, Nat.zero_le _, rfl, HO1.out, ⟨rfl, hA2, fun h => ?_⟩, HB1.out⟩
    have h2 : w.heap.size = A := by simpa [Value.ownBlock] using h
    omega
  case round =>
    obtain ⟨j, hj, rfl, hown, hpl, hbel⟩ := hrel
    have HOW : Hid (OwnT w.heap.size wr u3 ((ws.take j).map trm)) := hown
    have HBE : Hid (Below w.heap.size w wr) := hbel
    have HPL : Hid (wr.heap[A]? = w1.heap[A]? ∧ A < wr.heap.size ∧ u3.ownBlock ≠ some A) := hpl
    have hws := hbel.size
    by_cases hjl : j < ws.length
    · have hj' : (j : Int) < (ws.length : Int) := by omega
      obtain ⟨x, hx⟩ : ∃ x, ws[j]? = some x := ⟨_, List.getElem?_eq_getElem hjl⟩
      have cx : wr.cell? ⟨A, j, none⟩ = some (.string ⟨x.toArray⟩) := (World.cell?_of_block (a := ⟨A, j, none⟩) hpl.1).trans (HAC.out j x hx)
      have hxl := HWD.out x (List.mem_of_getElem? hx)
      have HTO : Hid (∀ W, Calls Tryz.prog 43 #[.string ⟨x.toArray⟩] W fun e w' => e = .returned (.agg #[.string ⟨(opL x).toArray⟩, .string ⟨(vL x).toArray⟩]) ∧ Below W.heap.size W w') := fun W => by
        have := termOf_any ⟨x.toArray⟩ (by show x.toArray.size ≤ _; simpa using hxl) W
        rwa [show (⟨x.toArray⟩ : ByteArray).data.toList = x from by simp] at this
      have HTK : Hid (((ws.take (j + 1)).map trm) = (ws.take j).map trm ++ [trm x]) := by show _ = _; rw [List.take_add_one, hx]; simp
      have hlen : ((ws.take j).map trm).length ≤ 1000000 := by simp; omega
      obtain ⟨S, hS⟩ : ∃ S : ByteArray, (⟨x.toArray⟩ : ByteArray) = S := ⟨_, rfl⟩
      obtain ⟨P, hP⟩ : ∃ P : ByteArray, (⟨(opL x).toArray⟩ : ByteArray) = P := ⟨_, rfl⟩
      obtain ⟨V, hV⟩ : ∃ V : ByteArray, (⟨(vL x).toArray⟩ : ByteArray) = V := ⟨_, rfl⟩
      have HTC : Hid (tmC (trm x) = [.string P, .string V]) := by show _ = _; unfold tmC trm; rw [← hP, ← hV]
      rw [hS, hP, hV] at HTO
      rw [hS] at cx
      clear hown hpl hbel hS hP hV hx hxl
      go_wp2_with (first
        | (go_at_call 43; refine (HTO.out _).mono ?_; rintro e w3 ⟨rfl, hl3⟩; have HO3 : Hid (OwnT w.heap.size w3 u3 ((ws.take j).map trm)) := OwnT.bel HOW.out hl3; have HB3 : Hid (Below w.heap.size w w3) := HBE.out.trans (hl3.mono HBE.out.size); have hs3 := hl3.size)
        | (at_builtin; refine app_term _ rfl _ _ rfl w.heap.size _ ((ws.take j).map trm) rfl ⟨HO3.out.1.alloc _, HO3.out.2⟩ ⟨_, 0, none⟩ (trm x) rfl (by rw [HTC.out]; exact two_new _ _ _ _) (by omega) (by have := HB3.out.size; simp; omega) ?_; intro v4 w4 hown4 hg4 hat4; have HB4 : Hid (Below w.heap.size w w4) := below_grownS (HB3.out.alloc HB3.out.size _) (HO3.out.1.alloc _) hg4 (by have := HB3.out.size; simp; omega))
        | go_in)
      go_roundw
      case rel =>
        refine ⟨j + 1, by omega, by go_num, by rw [HTK.out]; exact hown4, ?_, HB4.out⟩
        obtain ⟨p1, p2, p3⟩ := HPL.out
        have hg4s := hg4.size
        have hk : w4.heap[A]? = wr.heap[A]? := by
          rw [hg4.block A (by simp; omega) (fun e => p3 e.symm)]
          exact (((Below.refl w3.heap.size w3).alloc (Nat.le_refl _) _).block A (by omega)).trans (hl3.block A p2)
        refine ⟨hk.trans p1, by simp at hg4s; omega, fun e => ?_⟩
        rcases hat4 with h | h
        · exact p3 (h.symm.trans e)
        · rw [h] at e
          have := Option.some.inj e
          simp at this
          omega
      case measure => simp [intOf]; omega
    · have hj' : ¬ (j : Int) < (ws.length : Int) := by omega
      obtain rfl : j = ws.length := by omega
      clear hown hpl
      go_wp2
      go_ret
      exact ⟨_, rfl, by have := HOW.out; rwa [List.take_length] at this, HBE.out⟩

end Go.Proofs.YtimcocmjmlejfaaGreatDoor.rc
