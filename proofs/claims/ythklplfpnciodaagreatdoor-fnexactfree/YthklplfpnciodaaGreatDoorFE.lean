import Derived.Test.YthklplfpnciodaaGreatDoorFD
import Derived.Handy
namespace Go.Proofs.YthklplfpnciodaaGreatDoor.ex
open Go.ChangeShapes Go.WideShapes Go.ChangeAt Go.RowKit Go.Deep Go.Maps
set_option linter.unusedVariables false
set_option linter.unusedSimpArgs false

/-! ### The program's search: its two maps -/

/-- How many around bind a name. -/
def BM (w : World) (b N : Nat) (c : List UInt8 → Nat) : Prop := ∃ D : DataW Unit, w.ownsMap Tryz.prog 9 (plainElem Tryz.prog 3) b N D ∧ ∀ x, D.atKey (.string x) (.lit (.int .i64 0)) = .lit (.int .i64 (c x : Int))
/-- The names that were found. -/
def FM (w : World) (b N : Nat) (S : List UInt8 → Prop) : Prop := ∃ D : DataW Unit, w.ownsMap Tryz.prog 9 (plainElem Tryz.prog 3) b N D ∧ ∀ x, Maps.has D (.string x) = true ↔ S x

theorem map_kept {w w' : World} {b N : Nat} {D : DataW Unit} (h : w.ownsMap Tryz.prog 9 (plainElem Tryz.prog 3) b N D) (hb : w'.heap[b]? = w.heap[b]?) : w'.ownsMap Tryz.prog 9 (plainElem Tryz.prog 3) b N D := by
  obtain ⟨es, ck, h1, h2⟩ := h
  exact ⟨es, ck, by rw [hb]; exact h1, h2⟩

theorem BM.kept {w w' : World} {b N : Nat} {c : List UInt8 → Nat} (h : BM w b N c) (hb : w'.heap[b]? = w.heap[b]?) : BM w' b N c := by
  obtain ⟨D, h1, h2⟩ := h
  exact ⟨D, map_kept h1 hb, h2⟩
theorem FM.kept {w w' : World} {b N : Nat} {S : List UInt8 → Prop} (h : FM w b N S) (hb : w'.heap[b]? = w.heap[b]?) : FM w' b N S := by
  obtain ⟨D, h1, h2⟩ := h
  exact ⟨D, map_kept h1 hb, h2⟩
theorem BM.mono {w : World} {b N N' : Nat} {c : List UInt8 → Nat} (h : BM w b N c) (hN : N ≤ N') : BM w b N' c := by
  obtain ⟨D, h1, h2⟩ := h
  exact ⟨D, h1.mono hN, h2⟩
theorem FM.mono {w : World} {b N N' : Nat} {S : List UInt8 → Prop} (h : FM w b N S) (hN : N ≤ N') : FM w b N' S := by
  obtain ⟨D, h1, h2⟩ := h
  exact ⟨D, h1.mono hN, h2⟩
theorem FM.iff {w : World} {b N : Nat} {S S' : List UInt8 → Prop} (h : FM w b N S) (he : ∀ x, S x ↔ S' x) : FM w b N S' := by
  obtain ⟨D, h1, h2⟩ := h
  exact ⟨D, h1, fun x => (h2 x).trans (he x)⟩
theorem BM.congr {w : World} {b N : Nat} {c c' : List UInt8 → Nat} (h : BM w b N c) (he : ∀ x, c x = c' x) : BM w b N c' := by
  obtain ⟨D, h1, h2⟩ := h
  exact ⟨D, h1, fun x => by rw [h2 x, he x]⟩
theorem BM.lt {w : World} {b N : Nat} {c : List UInt8 → Nat} (h : BM w b N c) : b < w.heap.size := by
  obtain ⟨D, h1, _⟩ := h
  exact h1.lt
theorem FM.lt {w : World} {b N : Nat} {S : List UInt8 → Prop} (h : FM w b N S) : b < w.heap.size := by
  obtain ⟨D, h1, _⟩ := h
  exact h1.lt

theorem key9 (t : ByteArray) (ht : t.size ≤ 1048576) : keyOf Tryz.prog 9 (.string t) = some (.string t.data.toList) := WideMaps.keyOf_string_mk Tryz.underlying9 (by unfold maxLen; omega)

/-- What a search leaves as it was. -/
structure Lk (mb mf : Nat) (w w' : World) : Prop where
  os : w'.os = w.os
  tape : w'.tape = w.tape
  output : w'.output = w.output
  size : w.heap.size ≤ w'.heap.size
  block : ∀ j, j < w.heap.size → j ≠ mb → j ≠ mf → w'.heap[j]? = w.heap[j]?

theorem Lk.refl (mb mf : Nat) (w : World) : Lk mb mf w w := ⟨rfl, rfl, rfl, Nat.le_refl _, fun _ _ _ _ => rfl⟩
theorem Lk.trans {mb mf : Nat} {a b c : World} (h : Lk mb mf a b) (k : Lk mb mf b c) : Lk mb mf a c := ⟨k.os.trans h.os, k.tape.trans h.tape, k.output.trans h.output, Nat.le_trans h.size k.size, fun j hj h1 h2 => (k.block j (Nat.lt_of_lt_of_le hj h.size) h1 h2).trans (h.block j hj h1 h2)⟩
theorem Lk.of_below {mb mf : Nat} {a b : World} (h : Below a.heap.size a b) : Lk mb mf a b := ⟨h.os, h.tape, h.output, h.size, fun j hj _ _ => h.block j hj⟩
theorem Lk.alloc {mb mf : Nat} {a b : World} (h : Lk mb mf a b) (o : Obj) : Lk mb mf a (b.alloc o) := h.trans (.of_below ((Below.refl _ _).alloc (Nat.le_refl _) o))
theorem Lk.drew {mb mf : Nat} {a b : World} (h : Lk mb mf a b) : Lk mb mf a b.drew := ⟨h.os, h.tape, h.output, h.size, h.block⟩
theorem Lk.grownB {mb mf : Nat} {a b c : World} (h : Lk mb mf a b) (g : b.grownBy c (some mb)) : Lk mb mf a c := h.trans ⟨g.os, g.tape, g.output, g.size, fun j hj h1 _ => g.block j hj (fun e => h1 (Option.some.inj e))⟩
theorem Lk.grownF {mb mf : Nat} {a b c : World} (h : Lk mb mf a b) (g : b.grownBy c (some mf)) : Lk mb mf a c := h.trans ⟨g.os, g.tape, g.output, g.size, fun j hj _ h2 => g.block j hj (fun e => h2 (Option.some.inj e))⟩

theorem wf_wrap (z : Int) : (Lit.int .i64 (IntKind.i64.wrap z)).wf = true := by
  rw [IntKind.wrap_i64]
  simp [Lit.wf, IntKind.min, IntKind.max, IntKind.signed, IntKind.bits]
  omega

theorem wf_wrap64 (z : Int) : (Lit.int .i64 (RowKit.wrap64 z)).wf = true := RowKit.wrap64_wf z

theorem has_put {D : DataW Unit} {S : List UInt8 → Prop} (hm : IsMap D) (h : ∀ x, Maps.has D (.string x) = true ↔ S x) (t : List UInt8) (d : DataW Unit) : ∀ x, Maps.has (D.put (.string t) d) (.string x) = true ↔ (S x ∨ x = t) := by
  intro x
  by_cases e : x = t
  · subst e
    rw [has_put_same hm (show WideAt.IsKeyLit (.string x) from trivial)]
    simp
  · rw [has_put_other (by simpa using e), h x]
    simp [e]

theorem found_any (t : ByteArray) (ht : t.size ≤ 1048576) (mb mf N : Nat) (c : List UInt8 → Nat) (S : List UInt8 → Prop) (w : World) (hb : BM w mb N c) (hf : FM w mf N S) (hne : mb ≠ mf) (hN : N ≤ 1000000) (hc : ∀ x, c x ≤ 1000000) :
    Calls Tryz.prog 34 #[.agg #[.map (some mb), .map (some mf)], .string t] w fun e w' => (∃ v, e = .returned v) ∧ BM w' mb (N + 1) c ∧ FM w' mf (N + 1) (fun x => S x ∨ (x = t.data.toList ∧ c x = 0)) ∧ Lk mb mf w w' := by
  obtain ⟨D, h1, h2⟩ := hb
  obtain ⟨F, f1, f2⟩ := hf
  have hkey := key9 t ht
  have hat0 := h2 t.data.toList
  have HB : Hid (BM w mb N c) := ⟨D, h1, h2⟩
  have HF : Hid (∀ x, Maps.has F (.string x) = true ↔ S x) := f2
  have HFM : Hid (FM w mf N S) := ⟨F, f1, f2⟩
  clear h2 f2
  by_cases h0 : c t.data.toList = 0
  · rw [h0] at hat0
    have HAT : Hid (D.atKey (.string t.data.toList) (.lit (.int .i64 0)) = .lit (.int .i64 0)) := hat0
    clear hat0
    go_enter Tryz.func34, Tryz.ntmps34
    go_wp2_with (first
      | (at_lookup; refine wpList_lookup_own_int _ rfl _ _ 40 rfl 9 3 .i64 keyed9 Tryz.underlying40 Tryz.underlying3 (zero3 _) mb N D rfl (h1.alloc _) _ _ rfl hkey ?_; intro cc hat hwc; rw [HAT.out] at hat; cases hat; clear hwc h1)
      | (at_lookup; refine wpList_lookup_own_int _ rfl _ _ 40 rfl 9 3 .i64 keyed9 Tryz.underlying40 Tryz.underlying3 (zero3 _) mf N F rfl (f1.alloc _) _ _ rfl hkey ?_; intro cc hat hwc; clear hat hwc)
      | (at_mapUpdate; refine wpList_mapUpdate_own _ rfl _ _ _ 40 rfl 9 3 keyed9 Tryz.underlying40 _ mf N F rfl (f1.alloc _) (by unfold maxLen; omega) _ _ _ rfl rfl hkey _ [] (plainElem_int Tryz.underlying3 (wf_wrap64 _)) ?_; intro w1 hown1 hg1)
      | go_in)
    go_returns
    refine ⟨⟨_, rfl⟩, ?_, ?_, ?_⟩
    · exact (HB.out.mono (Nat.le_succ _)).kept ((hg1.block mb (by have := HB.out.lt; simp; omega) (by simpa using hne)).trans (Below.heap_alloc w _ mb HB.out.lt))
    · exact ⟨_, hown1, fun x => (has_put f1.isMap HF.out _ _ x).trans ⟨fun h => h.elim .inl (fun e => .inr ⟨e, by rw [e]; exact h0⟩), fun h => h.elim .inl (fun e => .inr e.1)⟩⟩
    · exact ((Lk.refl _ _ _).alloc _).grownF hg1
  · have hat1 : ((c t.data.toList : Int) == 0) = false := by simpa using h0
    go_enter Tryz.func34, Tryz.ntmps34
    have HAT : Hid (D.atKey (.string t.data.toList) (.lit (.int .i64 0)) = .lit (.int .i64 (c t.data.toList : Int))) := hat0
    clear hat0
    go_wp2_with (first
      | (at_lookup; refine wpList_lookup_own_int _ rfl _ _ 40 rfl 9 3 .i64 keyed9 Tryz.underlying40 Tryz.underlying3 (zero3 _) mb N D rfl (h1.alloc _) _ _ rfl hkey ?_; intro cc hat hwc; rw [HAT.out] at hat; cases hat; clear hwc h1)
      | go_in)
    go_returns
    refine ⟨⟨_, rfl⟩, ?_, ?_, ?_⟩
    · exact (HB.out.mono (Nat.le_succ _)).kept (Below.heap_alloc w _ mb HB.out.lt)
    · exact ((HFM.out.mono (Nat.le_succ _)).kept (Below.heap_alloc w _ mf HFM.out.lt)).iff fun x => ⟨.inl, fun h => h.elim id (fun e => absurd (by rw [← e.1]; exact e.2) h0)⟩
    · exact (Lk.refl _ _ _).alloc _

end Go.Proofs.YthklplfpnciodaaGreatDoor.ex
