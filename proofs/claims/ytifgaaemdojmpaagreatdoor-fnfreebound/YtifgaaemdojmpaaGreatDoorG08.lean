import Derived.Test.YtifgaaemdojmpaaGreatDoorG07
import Derived.Handy
import Derived.Deep.RegionHeld3
namespace Go.Proofs.YtifgaaemdojmpaaGreatDoor.ex
open Go.ChangeShapes Go.WideShapes Go.ChangeAt Go.RowKit Go.Deep Go.Maps
set_option linter.unusedVariables false
set_option linter.unusedSimpArgs false

/-! ### The program's search: its two maps -/

/-- How many around bind a name. -/
def BM (w : World) (b N : Nat) (c : List UInt8 → Nat) : Prop := ∃ D : DataW Unit, w.ownsMap Tryz.prog 9 (plainElem Tryz.prog 3) b N D ∧ ∀ x, D.atKey (.string x) (.lit (.int .i64 0)) = .lit (.int .i64 (c x : Int))
/-- The names that were found. -/
def FM (w : World) (b N : Nat) (S : List UInt8 → Prop) : Prop := ∃ D : DataW Unit, w.ownsMap Tryz.prog 9 (plainElem Tryz.prog 3) b N D ∧ ∀ x, Maps.has D (.string x) = true ↔ S x

theorem map_kept {w w' : World} {b N : Nat} {D : DataW Unit} (h : w.ownsMap Tryz.prog 9 (plainElem Tryz.prog 3) b N D) (hb : w'.heap[b]? = w.heap[b]?) : w'.ownsMap Tryz.prog 9 (plainElem Tryz.prog 3) b N D := by
  obtain ⟨es, ck, h1, h2⟩ := h
  exact ⟨es, ck, by rw [hb]; exact h1, h2⟩

theorem BM.kept {w w' : World} {b N : Nat} {c : List UInt8 → Nat} (h : BM w b N c) (hb : w'.heap[b]? = w.heap[b]?) : BM w' b N c := by
  obtain ⟨D, h1, h2⟩ := h
  exact ⟨D, map_kept h1 hb, h2⟩
theorem FM.kept {w w' : World} {b N : Nat} {S : List UInt8 → Prop} (h : FM w b N S) (hb : w'.heap[b]? = w.heap[b]?) : FM w' b N S := by
  obtain ⟨D, h1, h2⟩ := h
  exact ⟨D, map_kept h1 hb, h2⟩
theorem BM.mono {w : World} {b N N' : Nat} {c : List UInt8 → Nat} (h : BM w b N c) (hN : N ≤ N') : BM w b N' c := by
  obtain ⟨D, h1, h2⟩ := h
  exact ⟨D, h1.mono hN, h2⟩
theorem FM.mono {w : World} {b N N' : Nat} {S : List UInt8 → Prop} (h : FM w b N S) (hN : N ≤ N') : FM w b N' S := by
  obtain ⟨D, h1, h2⟩ := h
  exact ⟨D, h1.mono hN, h2⟩
theorem FM.iff {w : World} {b N : Nat} {S S' : List UInt8 → Prop} (h : FM w b N S) (he : ∀ x, S x ↔ S' x) : FM w b N S' := by
  obtain ⟨D, h1, h2⟩ := h
  exact ⟨D, h1, fun x => (h2 x).trans (he x)⟩
theorem BM.congr {w : World} {b N : Nat} {c c' : List UInt8 → Nat} (h : BM w b N c) (he : ∀ x, c x = c' x) : BM w b N c' := by
  obtain ⟨D, h1, h2⟩ := h
  exact ⟨D, h1, fun x => by rw [h2 x, he x]⟩
theorem BM.lt {w : World} {b N : Nat} {c : List UInt8 → Nat} (h : BM w b N c) : b < w.heap.size := by
  obtain ⟨D, h1, _⟩ := h
  exact h1.lt
theorem FM.lt {w : World} {b N : Nat} {S : List UInt8 → Prop} (h : FM w b N S) : b < w.heap.size := by
  obtain ⟨D, h1, _⟩ := h
  exact h1.lt

theorem key9 (t : ByteArray) (ht : t.size ≤ 1048576) : keyOf Tryz.prog 9 (.string t) = some (.string t.data.toList) := WideMaps.keyOf_string_mk Tryz.underlying9 (by unfold maxLen; omega)

/-- What a search leaves as it was. -/
structure Lk (mb mf : Nat) (w w' : World) : Prop where
  os : w'.os = w.os
  tape : w'.tape = w.tape
  output : w'.output = w.output
  size : w.heap.size ≤ w'.heap.size
  block : ∀ j, j < w.heap.size → j ≠ mb → j ≠ mf → w'.heap[j]? = w.heap[j]?

theorem Lk.refl (mb mf : Nat) (w : World) : Lk mb mf w w := ⟨rfl, rfl, rfl, Nat.le_refl _, fun _ _ _ _ => rfl⟩
theorem Lk.trans {mb mf : Nat} {a b c : World} (h : Lk mb mf a b) (k : Lk mb mf b c) : Lk mb mf a c := ⟨k.os.trans h.os, k.tape.trans h.tape, k.output.trans h.output, Nat.le_trans h.size k.size, fun j hj h1 h2 => (k.block j (Nat.lt_of_lt_of_le hj h.size) h1 h2).trans (h.block j hj h1 h2)⟩
theorem Lk.of_below {mb mf : Nat} {a b : World} (h : Below a.heap.size a b) : Lk mb mf a b := ⟨h.os, h.tape, h.output, h.size, fun j hj _ _ => h.block j hj⟩
theorem Lk.alloc {mb mf : Nat} {a b : World} (h : Lk mb mf a b) (o : Obj) : Lk mb mf a (b.alloc o) := h.trans (.of_below ((Below.refl _ _).alloc (Nat.le_refl _) o))
theorem Lk.drew {mb mf : Nat} {a b : World} (h : Lk mb mf a b) : Lk mb mf a b.drew := ⟨h.os, h.tape, h.output, h.size, h.block⟩
theorem Lk.grownB {mb mf : Nat} {a b c : World} (h : Lk mb mf a b) (g : b.grownBy c (some mb)) : Lk mb mf a c := h.trans ⟨g.os, g.tape, g.output, g.size, fun j hj h1 _ => g.block j hj (fun e => h1 (Option.some.inj e))⟩
theorem Lk.grownF {mb mf : Nat} {a b c : World} (h : Lk mb mf a b) (g : b.grownBy c (some mf)) : Lk mb mf a c := h.trans ⟨g.os, g.tape, g.output, g.size, fun j hj _ h2 => g.block j hj (fun e => h2 (Option.some.inj e))⟩

theorem wf_wrap (z : Int) : (Lit.int .i64 (IntKind.i64.wrap z)).wf = true := by
  rw [IntKind.wrap_i64]
  simp [Lit.wf, IntKind.min, IntKind.max, IntKind.signed, IntKind.bits]
  omega

theorem wf_wrap64 (z : Int) : (Lit.int .i64 (RowKit.wrap64 z)).wf = true := RowKit.wrap64_wf z

theorem has_put {D : DataW Unit} {S : List UInt8 → Prop} (hm : IsMap D) (h : ∀ x, Maps.has D (.string x) = true ↔ S x) (t : List UInt8) (d : DataW Unit) : ∀ x, Maps.has (D.put (.string t) d) (.string x) = true ↔ (S x ∨ x = t) := by
  intro x
  by_cases e : x = t
  · subst e
    rw [has_put_same hm (show WideAt.IsKeyLit (.string x) from trivial)]
    simp
  · rw [has_put_other (by simpa using e), h x]
    simp [e]

theorem found_any (t : ByteArray) (ht : t.size ≤ 1048576) (mb mf N : Nat) (c : List UInt8 → Nat) (S : List UInt8 → Prop) (w : World) (hb : BM w mb N c) (hf : FM w mf N S) (hne : mb ≠ mf) (hN : N ≤ 1000000) (hc : ∀ x, c x ≤ 1000000) :
    Calls Tryz.prog 23 #[.agg #[.map (some mb), .map (some mf)], .string t] w fun e w' => (∃ v, e = .returned v) ∧ BM w' mb (N + 1) c ∧ FM w' mf (N + 1) (fun x => S x ∨ (x = t.data.toList ∧ c x = 0)) ∧ Lk mb mf w w' := by
  obtain ⟨D, h1, h2⟩ := hb
  obtain ⟨F, f1, f2⟩ := hf
  have hkey := key9 t ht
  have hat0 := h2 t.data.toList
  have HB : Hid (BM w mb N c) := ⟨D, h1, h2⟩
  have HF : Hid (∀ x, Maps.has F (.string x) = true ↔ S x) := f2
  have HFM : Hid (FM w mf N S) := ⟨F, f1, f2⟩
  clear h2 f2
  by_cases h0 : c t.data.toList = 0
  · rw [h0] at hat0
    have HAT : Hid (D.atKey (.string t.data.toList) (.lit (.int .i64 0)) = .lit (.int .i64 0)) := hat0
    clear hat0
    go_enter Tryz.func23, Tryz.ntmps23
    go_wp2_with (first
      | (at_lookup; refine wpList_lookup_own_int _ rfl _ _ 32 rfl 9 3 .i64 keyed9 Tryz.underlying32 Tryz.underlying3 (zero3 _) mb N D rfl (h1.alloc _) _ _ rfl hkey ?_; intro cc hat hwc; rw [HAT.out] at hat; cases hat; clear hwc h1)
      | (at_lookup; refine wpList_lookup_own_int _ rfl _ _ 32 rfl 9 3 .i64 keyed9 Tryz.underlying32 Tryz.underlying3 (zero3 _) mf N F rfl (f1.alloc _) _ _ rfl hkey ?_; intro cc hat hwc; clear hat hwc)
      | (at_mapUpdate; refine wpList_mapUpdate_own _ rfl _ _ _ 32 rfl 9 3 keyed9 Tryz.underlying32 _ mf N F rfl (f1.alloc _) (by unfold maxLen; omega) _ _ _ rfl rfl hkey _ [] (plainElem_int Tryz.underlying3 (wf_wrap64 _)) ?_; intro w1 hown1 hg1)
      | go_in)
    go_returns
    refine ⟨⟨_, rfl⟩, ?_, ?_, ?_⟩
    · exact (HB.out.mono (Nat.le_succ _)).kept ((hg1.block mb (by have := HB.out.lt; simp; omega) (by simpa using hne)).trans (Below.heap_alloc w _ mb HB.out.lt))
    · exact ⟨_, hown1, fun x => (has_put f1.isMap HF.out _ _ x).trans ⟨fun h => h.elim .inl (fun e => .inr ⟨e, by rw [e]; exact h0⟩), fun h => h.elim .inl (fun e => .inr e.1)⟩⟩
    · exact ((Lk.refl _ _ _).alloc _).grownF hg1
  · have hat1 : ((c t.data.toList : Int) == 0) = false := by simpa using h0
    go_enter Tryz.func23, Tryz.ntmps23
    have HAT : Hid (D.atKey (.string t.data.toList) (.lit (.int .i64 0)) = .lit (.int .i64 (c t.data.toList : Int))) := hat0
    clear hat0
    go_wp2_with (first
      | (at_lookup; refine wpList_lookup_own_int _ rfl _ _ 32 rfl 9 3 .i64 keyed9 Tryz.underlying32 Tryz.underlying3 (zero3 _) mb N D rfl (h1.alloc _) _ _ rfl hkey ?_; intro cc hat hwc; rw [HAT.out] at hat; cases hat; clear hwc h1)
      | go_in)
    go_returns
    refine ⟨⟨_, rfl⟩, ?_, ?_, ?_⟩
    · exact (HB.out.mono (Nat.le_succ _)).kept (Below.heap_alloc w _ mb HB.out.lt)
    · exact ((HFM.out.mono (Nat.le_succ _)).kept (Below.heap_alloc w _ mf HFM.out.lt)).iff fun x => ⟨.inl, fun h => h.elim id (fun e => absurd (by rw [← e.1]; exact e.2) h0)⟩
    · exact (Lk.refl _ _ _).alloc _

end Go.Proofs.YtifgaaemdojmpaaGreatDoor.ex

namespace Go.Proofs.YtifgaaemdojmpaaGreatDoor.ex
open Go.ChangeShapes Go.WideShapes Go.ChangeAt Go.RowKit Go.Deep Go.Maps
set_option linter.unusedVariables false
set_option linter.unusedSimpArgs false

def Tr.parts : Tr → List Tr | .mk _ _ _ ps => ps

/-- How often a search may write. -/
def wT : Nat → Tr → Nat
  | 0, _ => 0
  | r + 1, .mk _ _ _ ps => 4 + 4 * ps.length + (ps.map (wT r)).sum

/-- A tree whose parts are of the right kinds. -/
def okT : Nat → Tr → Prop
  | 0, _ => False
  | r + 1, .mk k t n ps => t.size ≤ 1048576 ∧ okKind k = true ∧ ps.length ≤ 3000 ∧ ∀ (i : Nat) (q : Tr), ps[i]? = some q → kidOk k ps.length i q.kind ∧ okT r q

/-- The free names of several. -/
def frL (r : Nat) (qs : List Tr) (b : List (List UInt8)) : List (List UInt8) := qs.flatMap fun q => freesT r q b
def wL (r : Nat) (qs : List Tr) : Nat := (qs.map (wT r)).sum

/-- Values that are trees. -/
def NdL (w : World) (O : Nat → Prop) (r : Nat) (vs : List Value) (qs : List Tr) : Prop := vs.length = qs.length ∧ ∀ (i : Nat) (x : Value) (y : Tr), vs[i]? = some x → qs[i]? = some y → Nd w O r x y ∧ okT r y

theorem NdL.kept {w w' : World} {O O' : Nat → Prop} {r : Nat} {vs : List Value} {qs : List Tr} (h : NdL w O r vs qs) (hk : ∀ bb, O bb → w'.heap[bb]? = w.heap[bb]?) (hO : ∀ bb, O bb → O' bb) : NdL w' O' r vs qs :=
  ⟨h.1, fun i x y hx hy => ⟨Nd.kept hk hO r (h.2 i x y hx hy).1, (h.2 i x y hx hy).2⟩⟩

/-- Blocks that a search does not write. -/
def Of (mb mf : Nat) (w : World) (O : Nat → Prop) : Prop := ∀ bb, O bb → bb < w.heap.size ∧ bb ≠ mb ∧ bb ≠ mf

theorem Of.kept {mb mf : Nat} {w w' : World} {O : Nat → Prop} (h : Of mb mf w O) (k : Lk mb mf w w') : ∀ bb, O bb → w'.heap[bb]? = w.heap[bb]? := fun bb ho => k.block bb (h bb ho).1 (h bb ho).2.1 (h bb ho).2.2
theorem Of.next {mb mf : Nat} {w w' : World} {O : Nat → Prop} (h : Of mb mf w O) (k : Lk mb mf w w') : Of mb mf w' O := fun bb ho => ⟨Nat.lt_of_lt_of_le (h bb ho).1 k.size, (h bb ho).2⟩

/-- The search's state. -/
structure Sq (w : World) (mb mf N : Nat) (B : List (List UInt8)) (S : List UInt8 → Prop) : Prop where
  b : BM w mb N (fun x => B.count x)
  f : FM w mf N S

theorem Sq.kept {w w' : World} {mb mf N : Nat} {B : List (List UInt8)} {S : List UInt8 → Prop} (h : Sq w mb mf N B S) (hb : Below w.heap.size w w') : Sq w' mb mf N B S := ⟨h.b.kept (hb.block _ h.b.lt), h.f.kept (hb.block _ h.f.lt)⟩
theorem Sq.mono {w : World} {mb mf N N' : Nat} {B : List (List UInt8)} {S : List UInt8 → Prop} (h : Sq w mb mf N B S) (hN : N ≤ N') : Sq w mb mf N' B S := ⟨h.b.mono hN, h.f.mono hN⟩
theorem Sq.iff {w : World} {mb mf N : Nat} {B : List (List UInt8)} {S S' : List UInt8 → Prop} (h : Sq w mb mf N B S) (he : ∀ x, S x ↔ S' x) : Sq w mb mf N B S' := ⟨h.b, h.f.iff he⟩
theorem Sq.perm {w : World} {mb mf N : Nat} {B B' : List (List UInt8)} {S : List UInt8 → Prop} (h : Sq w mb mf N B S) (he : ∀ x, B.count x = B'.count x) : Sq w mb mf N B' S := ⟨h.b.congr he, h.f⟩
theorem Sq.alloc {w : World} {mb mf N : Nat} {B : List (List UInt8)} {S : List UInt8 → Prop} (h : Sq w mb mf N B S) (o : Obj) : Sq (w.alloc o) mb mf N B S := h.kept ((Below.refl _ _).alloc (Nat.le_refl _) o)

def srch (mb mf : Nat) : Value := .agg #[.map (some mb), .map (some mf)]

/-- What looking at a tree does. -/
def LkS (r : Nat) : Prop := ∀ (t : Tr) (v : Value) (mb mf N : Nat) (B : List (List UInt8)) (S : List UInt8 → Prop) (w : World) (O : Nat → Prop), Nd w O r v t → okT r t → Of mb mf w O → Sq w mb mf N B S → mb ≠ mf → N + wT r t ≤ 1000000 → B.length + 3001 * r ≤ 1000000 →
  Calls Tryz.prog 11 #[.agg #[.map (some mb), .map (some mf)], v] w fun e w' => (∃ u, e = .returned u) ∧ Sq w' mb mf (N + wT r t) B (fun x => S x ∨ x ∈ freesT r t B) ∧ Lk mb mf w w'

theorem sum_take : ∀ {l : List Nat} {i : Nat} (h : i < l.length), (l.take (i + 1)).sum = (l.take i).sum + l[i]
  | [], i, h => by simp at h
  | x :: r, 0, _ => by simp
  | x :: r, i + 1, h => by
    have h' : i < r.length := by simpa using h
    have := sum_take h'
    simp only [List.take_succ_cons, List.sum_cons, List.getElem_cons_succ]
    omega
theorem sum_le : ∀ (l : List Nat) (i : Nat), (l.take i).sum ≤ l.sum
  | [], i => by simp
  | x :: r, 0 => by simp
  | x :: r, i + 1 => by
    have := sum_le r i
    simp only [List.take_succ_cons, List.sum_cons]
    omega

theorem box_cell {w w' : World} {mb mf : Nat} {cs : Array Value} {ty : TypeId} (k : Lk mb mf (w.alloc (.cells cs ty)) w') (h1 : mb < w.heap.size) (h2 : mf < w.heap.size) : w'.heap[w.heap.size]? = some (.cells cs ty) :=
  (k.block w.heap.size (by simp) (by omega) (by omega)).trans (heap_alloc_new w _)

/-- Looking at all. -/
theorem atAll_any {r : Nat} (HL : LkS r) (qs : List Tr) (vs : List Value) (a : Option Addr) (cap mb mf N : Nat) (B : List (List UInt8)) (S : List UInt8 → Prop) (w : World) (O : Nat → Prop) (hP : PsO w O a vs) (hV : NdL w O r vs qs) (hO : Of mb mf w O) (hs : Sq w mb mf N B S) (hne : mb ≠ mf) (hN : N + wL r qs ≤ 1000000) (hB : B.length + 3001 * r ≤ 1000000) (hlen : vs.length ≤ 1000000) :
    Calls Tryz.prog 25 #[.agg #[.map (some mb), .map (some mf)], .slice a vs.length cap] w fun e w' => (∃ u, e = .returned u) ∧ Sq w' mb mf (N + wL r qs) B (fun x => S x ∨ x ∈ frL r qs B) ∧ Lk mb mf w w' := by
  have HLQ : Hid (vs.length = qs.length) := hV.1
  obtain ⟨bb, off, ha, hc⟩ := hP
  have hbl := hs.b.lt
  have hfl := hs.f.lt
  have HV : Hid (NdL w O r vs qs) := hV
  have HO : Hid (Of mb mf w O) := hO
  have HS : Hid (Sq w mb mf N B S) := hs
  have HC : Hid (∀ i x, vs[i]? = some x → w.cell? ⟨bb, off + i, none⟩ = some x) := hc
  have ha' : vs.length = 0 ∨ a = some ⟨bb, off, none⟩ := ha.imp id (·.1)
  have HOB : Hid (0 < vs.length → O bb) := fun h => (ha.resolve_left (by omega)).2
  clear hV hO hs hc ha
  go_enter Tryz.func25, Tryz.ntmps25
  go_wp2
  go_loopw [5, 8] (fun _ x wr => ∃ (i : Nat), i ≤ vs.length ∧ x = .int .i64 (i : Int) ∧ Sq wr mb mf (N + wL r (qs.take i)) B (fun x => S x ∨ x ∈ frL r (qs.take i) B) ∧ Lk mb mf (w.alloc (.cells #[.map (some mb), .map (some mf)] 34)) wr) (fun _ x _ => vs.length - (intOf x).toNat)
  case atStart => exact ⟨0, Nat.zero_le _, rfl, by simpa [wL, frL] using HS.out.alloc _, Lk.refl _ _ _⟩
  case round =>
    obtain ⟨i, hi, rfl, hsq, hlk⟩ := hrel
    by_cases h : i < vs.length
    · have h' : (i : Int) < (vs.length : Int) := by omega
      obtain rfl := ha'.resolve_left (by omega)
      have hall : Lk mb mf w wr := ((Lk.refl _ _ _).alloc _).trans hlk
      have hOB := HOB.out (by omega)
      have hiq : i < qs.length := by have := HLQ.out; omega
      have hqi : qs[i]? = some qs[i] := by simp
      have hvi : vs[i]? = some vs[i] := by simp
      obtain ⟨hnd, hok⟩ := HV.out.2 i _ _ hvi hqi
      have ci : wr.cell? ⟨bb, off + i, none⟩ = some vs[i] := by
        have := HC.out i _ hvi
        simp only [World.cell?] at this ⊢
        rw [HO.out.kept hall bb hOB]
        exact this
      have bx := box_cell hlk hbl hfl
      have bx0 : wr.cell? ⟨w.heap.size, 0, none⟩ = some (.map (some mb)) := by simp [World.cell?, bx]
      have bx1 : wr.cell? ⟨w.heap.size, 1, none⟩ = some (.map (some mf)) := by simp [World.cell?, bx]
      clear bx
      obtain ⟨T, xv, hiv⟩ := hnd.iface
      have hnd' : Nd wr O r vs[i] qs[i] := Nd.kept (HO.out.kept hall) (fun _ h => h) r hnd
      have hwt : wL r (qs.take (i + 1)) = wL r (qs.take i) + wT r qs[i] := by
        unfold wL
        rw [List.map_take, sum_take (by simp; omega), ← List.map_take]
        simp
      have hwle : wL r (qs.take (i + 1)) ≤ wL r qs := by
        unfold wL
        rw [List.map_take]
        exact sum_le _ _
      have HCALL := HL qs[i] vs[i] mb mf _ B _ wr O hnd' hok (HO.out.next hall) hsq hne (by omega) hB
      have HFR : Hid (∀ x, (S x ∨ x ∈ frL r (qs.take i) B) ∨ x ∈ freesT r qs[i] B ↔ S x ∨ x ∈ frL r (qs.take (i + 1)) B) := fun x => by
        unfold frL
        rw [List.take_succ_eq_append_getElem (by omega), List.flatMap_append]
        simp [or_assoc]
      generalize vs[i] = y at ci HCALL hiv
      subst hiv
      have HCA : Hid (Calls Tryz.prog 11 #[.agg #[.map (some mb), .map (some mf)], .iface T xv] wr fun e w' => (∃ u, e = .returned u) ∧ Sq w' mb mf (N + wL r (qs.take i) + wT r qs[i]) B (fun x => (S x ∨ x ∈ frL r (qs.take i) B) ∨ x ∈ freesT r qs[i] B) ∧ Lk mb mf wr w') := HCALL
      have HWT : Hid (wL r (qs.take (i + 1)) = wL r (qs.take i) + wT r qs[i]) := hwt
      obtain ⟨WQ, hWQ⟩ : ∃ q, qs[i] = q := ⟨_, rfl⟩
      rw [hWQ] at HCA HWT HFR
      clear HCALL hnd hnd' hok hsq hqi hvi hwt hwle hWQ hiq
      go_wp2_with (go_at_call 11; refine HCA.out.mono ?_; rintro e w1 ⟨⟨u1, rfl⟩, hs1, hl1⟩)
      go_roundw
      case rel => exact ⟨i + 1, by omega, by go_num, by rw [HWT.out, ← Nat.add_assoc]; exact hs1.iff HFR.out, hlk.trans hl1⟩
      case measure => simp [intOf]; omega
    · have h' : ¬ (i : Int) < (vs.length : Int) := by omega
      obtain rfl : i = vs.length := by omega
      rw [HLQ.out, List.take_length] at hsq
      go_wp2
      go_returns
      exact ⟨⟨_, rfl⟩, hsq, ((Lk.refl _ _ _).alloc _).trans hlk⟩

end Go.Proofs.YtifgaaemdojmpaaGreatDoor.ex

namespace Go.Proofs.YtifgaaemdojmpaaGreatDoor.ex
open Go.ChangeShapes Go.WideShapes Go.ChangeAt Go.RowKit Go.Deep Go.Maps
set_option linter.unusedVariables false
set_option linter.unusedSimpArgs false

/-- A row of names that a search does not write. -/
structure NmR (w : World) (mb mf bb off : Nat) (xs : List (List UInt8)) : Prop where
  b : bb ≠ mb
  f : bb ≠ mf
  lt : 0 < xs.length → bb < w.heap.size
  cell : ∀ i x, xs[i]? = some x → w.cell? ⟨bb, off + i, none⟩ = some (strL x)
  small : ∀ x ∈ xs, x.length ≤ 1048576

theorem NmR.kept {w w' : World} {mb mf bb off : Nat} {xs : List (List UInt8)} (h : NmR w mb mf bb off xs) (k : Lk mb mf w w') : NmR w' mb mf bb off xs := by
  refine ⟨h.b, h.f, fun h0 => Nat.lt_of_lt_of_le (h.lt h0) k.size, fun i x hx => ?_, h.small⟩
  have h0 : 0 < xs.length := by have := (List.getElem?_eq_some_iff.1 hx).1; omega
  have := h.cell i x hx
  simp only [World.cell?] at this ⊢
  rw [k.block bb (h.lt h0) h.b h.f]
  exact this

theorem bm_put {w : World} {D : DataW Unit} {c c' : List UInt8 → Nat} {t : List UInt8} {n : Nat} (hm : IsMap D) (h : ∀ x, D.atKey (.string x) (.lit (.int .i64 0)) = .lit (.int .i64 (c x : Int))) (h1 : c' t = n) (h2 : ∀ x, x ≠ t → c' x = c x) : ∀ x, (D.put (.string t) (.lit (.int .i64 (n : Int)))).atKey (.string x) (.lit (.int .i64 0)) = .lit (.int .i64 (c' x : Int)) := by
  intro x
  by_cases e : x = t
  · subst e
    rw [atKey_put_same hm (show WideAt.IsKeyLit (.string x) from trivial), h1]
  · rw [atKey_put_other (by simpa using e), h x, h2 x e]

theorem cnt_take {B xs : List (List UInt8)} {i : Nat} (h : i < xs.length) (x : List UInt8) : (B ++ xs.take (i + 1)).count x = (B ++ xs.take i).count x + (if xAt xs i = x then 1 else 0) := by
  have e : xs.take (i + 1) = xs.take i ++ [xAt xs i] := by
    rw [List.take_succ_eq_append_getElem h]
    simp [xAt, h]
  rw [e]
  simp only [List.count_append, List.count_singleton, beq_iff_eq]
  omega

theorem cnt_drop {B xs : List (List UInt8)} {i : Nat} (h : i < xs.length) (x : List UInt8) : (B ++ xs.drop i).count x = (B ++ xs.drop (i + 1)).count x + (if xAt xs i = x then 1 else 0) := by
  have e : xs.drop i = xAt xs i :: xs.drop (i + 1) := by
    rw [List.drop_eq_getElem_cons h]
    simp [xAt, h]
  rw [e]
  simp only [List.count_append, List.count_cons, beq_iff_eq]
  omega

theorem cnt_le (l : List (List UInt8)) (x : List UInt8) : l.count x ≤ l.length := List.count_le_length

theorem strL_key (x : List UInt8) (h : x.length ≤ 1048576) : keyOf Tryz.prog 9 (strL x) = some (.string x) := by
  have := key9 ⟨x.toArray⟩ (by simpa [ByteArray.size] using h)
  simpa [strL] using this

set_option maxHeartbeats 1000000 in
theorem within_any {r : Nat} (HL : LkS r) (xs : List (List UInt8)) (nb no nc : Nat) (qs : List Tr) (vs : List Value) (a : Option Addr) (cap mb mf N : Nat) (B : List (List UInt8)) (S : List UInt8 → Prop) (w : World) (O : Nat → Prop) (hX : NmR w mb mf nb no xs) (hP : PsO w O a vs) (hV : NdL w O r vs qs) (hO : Of mb mf w O) (hs : Sq w mb mf N B S) (hne : mb ≠ mf) (hN : N + 2 * xs.length + wL r qs ≤ 1000000) (hB : (B ++ xs).length + 3001 * r ≤ 1000000) (hlen : vs.length ≤ 1000000) :
    Calls Tryz.prog 26 #[.agg #[.map (some mb), .map (some mf)], .slice (some ⟨nb, no, none⟩) xs.length nc, .slice a vs.length cap] w fun e w' => (∃ u, e = .returned u) ∧ Sq w' mb mf (N + 2 * xs.length + wL r qs) B (fun x => S x ∨ x ∈ frL r qs (B ++ xs)) ∧ Lk mb mf w w' := by
  have hbl := hs.b.lt
  have hfl := hs.f.lt
  have HS : Hid (Sq w mb mf N B S) := hs
  have HX : Hid (NmR w mb mf nb no xs) := hX
  have hBl : B.length + xs.length ≤ 1000000 := by simp at hB; omega
  have hxl : xs.length ≤ 1000000 := by omega
  have HALL : Hid (∀ W, Lk mb mf w W → ∀ M, M + wL r qs ≤ 1000000 → Sq W mb mf M (B ++ xs) S → Calls Tryz.prog 25 #[.agg #[.map (some mb), .map (some mf)], .slice a vs.length cap] W fun e w' => (∃ u, e = .returned u) ∧ Sq w' mb mf (M + wL r qs) (B ++ xs) (fun x => S x ∨ x ∈ frL r qs (B ++ xs)) ∧ Lk mb mf W w') := fun W k M hM hq => atAll_any HL qs vs a cap mb mf M (B ++ xs) S W O (hP.kept (hO.kept k)) (hV.kept (hO.kept k) (fun _ h => h)) (hO.next k) hq hne hM hB hlen
  clear hX hP hV hO hs HL
  go_enter Tryz.func26, Tryz.ntmps26
  go_wp2
  go_loopw [7, 12] (fun _ x wr => ∃ (i : Nat), i ≤ xs.length ∧ x = .int .i64 (i : Int) ∧ Sq wr mb mf (N + i) (B ++ xs.take i) S ∧ Lk mb mf (w.alloc (.cells #[.map (some mb), .map (some mf)] 34)) wr) (fun _ x _ => xs.length - (intOf x).toNat)
  case atStart => exact ⟨0, Nat.zero_le _, rfl, by simpa using HS.out.alloc _, Lk.refl _ _ _⟩
  case round =>
    obtain ⟨i, hi, rfl, hsq, hlk⟩ := hrel
    have hall : Lk mb mf w wr := ((Lk.refl _ _ _).alloc _).trans hlk
    have bx := box_cell hlk hbl hfl
    have bx0 : wr.cell? ⟨w.heap.size, 0, none⟩ = some (.map (some mb)) := by simp [World.cell?, bx]
    have bx1 : wr.cell? ⟨w.heap.size, 1, none⟩ = some (.map (some mf)) := by simp [World.cell?, bx]
    clear bx
    by_cases h : i < xs.length
    · have h' : (i : Int) < (xs.length : Int) := by omega
      have ci := (HX.out.kept hall).cell i _ (xAt_some h)
      have hkey : keyOf Tryz.prog 9 (.string ⟨(xAt xs i).toArray⟩) = some (.string (xAt xs i)) := strL_key _ (HX.out.small _ (List.mem_of_getElem? (xAt_some h)))
      unfold strL at ci
      obtain ⟨D, hD, hat⟩ := hsq.b
      have HF : Hid (FM wr mf (N + i) S) := hsq.f
      obtain ⟨C, hC⟩ : ∃ C, (B ++ xs.take i).count (xAt xs i) = C := ⟨_, rfl⟩
      have hCb : C ≤ 1000000 := by have := cnt_le (B ++ xs.take i) (xAt xs i); rw [hC, List.length_append, List.length_take] at this; omega
      have HA0 : Hid (D.atKey (.string (xAt xs i)) (.lit (.int .i64 0)) = .lit (.int .i64 (C : Int))) := by have := hat (xAt xs i); simp only [hC] at this; exact this
      have HAT : Hid (∀ x, D.atKey (.string x) (.lit (.int .i64 0)) = .lit (.int .i64 (((B ++ xs.take i).count x : Nat) : Int))) := hat
      have HC : Hid ((B ++ xs.take i).count (xAt xs i) = C) := hC
      have hwf : (Lit.int .i64 ((C : Int) + 1)).wf = true := by simp [Lit.wf, IntKind.min, IntKind.max, IntKind.signed, IntKind.bits]; omega
      clear hsq hat hC
      go_wp2_with (first
        | (at_lookup; refine wpList_lookup_own_int _ rfl _ _ 32 rfl 9 3 .i64 keyed9 Tryz.underlying32 Tryz.underlying3 (zero3 _) mb (N + i) D rfl hD _ _ rfl hkey ?_; intro cc hat hwc; rw [HA0.out] at hat; cases hat; clear hwc)
        | (at_mapUpdate; refine wpList_mapUpdate_own _ rfl _ _ _ 32 rfl 9 3 keyed9 Tryz.underlying32 _ mb (N + i) D rfl hD (by unfold maxLen; omega) _ _ _ rfl rfl hkey _ [] (plainElem_int Tryz.underlying3 hwf) ?_; intro w1 hown1 hg1)
        | go_in)
      go_roundw
      case rel =>
        refine ⟨i + 1, by omega, by go_num, ⟨⟨_, hown1, bm_put (n := C + 1) (w := wr) hD.isMap HAT.out ?_ ?_⟩, ?_⟩, hlk.grownB hg1⟩
        · rw [cnt_take h, HC.out, if_pos rfl]
        · intro x hx
          rw [cnt_take h, if_neg (fun e => hx e.symm)]
          omega
        · exact (HF.out.mono (by omega)).kept (hg1.block mf HF.out.lt (fun e => hne (Option.some.inj e).symm))
      case measure => simp [intOf]; omega
    · have h' : ¬ (i : Int) < (xs.length : Int) := by omega
      obtain rfl : i = xs.length := by omega
      rw [List.take_length] at hsq
      have HC2 := HALL.out wr hall _ (by omega) hsq
      have HCA : Hid (Calls Tryz.prog 25 #[.agg #[.map (some mb), .map (some mf)], .slice a vs.length cap] wr fun e w' => (∃ u, e = .returned u) ∧ Sq w' mb mf (N + xs.length + wL r qs) (B ++ xs) (fun x => S x ∨ x ∈ frL r qs (B ++ xs)) ∧ Lk mb mf wr w') := HC2
      clear HC2 hsq
      go_wp2_with (go_at_call 25; refine HCA.out.mono ?_; rintro e w1 ⟨⟨u1, rfl⟩, hs1, hl1⟩)
      have hlk1 := hlk.trans hl1
      have HS1 : Hid (Sq w1 mb mf (N + xs.length + wL r qs) (B ++ xs) (fun x => S x ∨ x ∈ frL r qs (B ++ xs))) := hs1
      clear hs1 bx0 bx1 HCA HALL
      go_loopw [9, 27] (fun _ x wr => ∃ (i : Nat), i ≤ xs.length ∧ x = .int .i64 (i : Int) ∧ Sq wr mb mf (N + xs.length + wL r qs + i) (B ++ xs.drop i) (fun x => S x ∨ x ∈ frL r qs (B ++ xs)) ∧ Lk mb mf (w.alloc (.cells #[.map (some mb), .map (some mf)] 34)) wr) (fun _ x _ => xs.length - (intOf x).toNat)
      case atStart => exact ⟨0, Nat.zero_le _, rfl, by simpa using HS1.out, hlk1⟩
      case round =>
        clear hlk hl1 hlk1 HS1 hall
        obtain ⟨i, hi, rfl, hsq, hlk⟩ := hrel
        have hall : Lk mb mf w wr := ((Lk.refl _ _ _).alloc _).trans hlk
        have bx := box_cell hlk hbl hfl
        have bx0 : wr.cell? ⟨w.heap.size, 0, none⟩ = some (.map (some mb)) := by simp [World.cell?, bx]
        clear bx
        by_cases h : i < xs.length
        · have h' : (i : Int) < (xs.length : Int) := by omega
          have ci := (HX.out.kept hall).cell i _ (xAt_some h)
          have hkey : keyOf Tryz.prog 9 (.string ⟨(xAt xs i).toArray⟩) = some (.string (xAt xs i)) := strL_key _ (HX.out.small _ (List.mem_of_getElem? (xAt_some h)))
          unfold strL at ci
          obtain ⟨D, hD, hat⟩ := hsq.b
          have HF : Hid (FM wr mf (N + xs.length + wL r qs + i) (fun x => S x ∨ x ∈ frL r qs (B ++ xs))) := hsq.f
          obtain ⟨C, hC⟩ : ∃ C, (B ++ xs.drop (i + 1)).count (xAt xs i) = C := ⟨_, rfl⟩
          have hC1 : (B ++ xs.drop i).count (xAt xs i) = C + 1 := by rw [cnt_drop h, hC, if_pos rfl]
          have hCb : C ≤ 1000000 := by have := cnt_le (B ++ xs.drop (i + 1)) (xAt xs i); rw [hC, List.length_append, List.length_drop] at this; omega
          have HA0 : Hid (D.atKey (.string (xAt xs i)) (.lit (.int .i64 0)) = .lit (.int .i64 ((C : Int) + 1))) := by have := hat (xAt xs i); simp only [hC1] at this; exact this
          have HAT : Hid (∀ x, D.atKey (.string x) (.lit (.int .i64 0)) = .lit (.int .i64 (((B ++ xs.drop i).count x : Nat) : Int))) := hat
          have HC : Hid ((B ++ xs.drop (i + 1)).count (xAt xs i) = C) := hC
          have hwf : (Lit.int .i64 (C : Int)).wf = true := by simp [Lit.wf, IntKind.min, IntKind.max, IntKind.signed, IntKind.bits]; omega
          have hsub : (C : Int) + 1 - 1 = C := by omega
          clear hsq hat hC hC1
          go_wp2_with (first
            | (at_lookup; refine wpList_lookup_own_int _ rfl _ _ 32 rfl 9 3 .i64 keyed9 Tryz.underlying32 Tryz.underlying3 (zero3 _) mb (N + xs.length + wL r qs + i) D rfl hD _ _ rfl hkey ?_; intro cc hat hwc; rw [HA0.out] at hat; cases hat; clear hwc)
            | (at_mapUpdate; refine wpList_mapUpdate_own _ rfl _ _ _ 32 rfl 9 3 keyed9 Tryz.underlying32 _ mb (N + xs.length + wL r qs + i) D rfl hD (by unfold maxLen; omega) _ _ _ rfl rfl hkey _ [] (plainElem_int Tryz.underlying3 hwf) ?_; intro w1 hown1 hg1)
            | go_in)
          go_roundw
          case rel =>
            refine ⟨i + 1, by omega, by go_num, ⟨⟨_, hown1, bm_put (n := C) (w := wr) hD.isMap HAT.out HC.out ?_⟩, ?_⟩, hlk.grownB hg1⟩
            · intro x hx
              have := cnt_drop (B := B) h x
              rw [if_neg (fun e => hx e.symm)] at this
              omega
            · exact (HF.out.mono (by omega)).kept (hg1.block mf HF.out.lt (fun e => hne (Option.some.inj e).symm))
          case measure => simp [intOf]; omega
        · have h' : ¬ (i : Int) < (xs.length : Int) := by omega
          obtain rfl : i = xs.length := by omega
          rw [List.drop_length, List.append_nil] at hsq
          go_wp2
          go_returns
          exact ⟨⟨_, rfl⟩, hsq.mono (by omega), hall⟩

end Go.Proofs.YtifgaaemdojmpaaGreatDoor.ex

namespace Go.Proofs.YtifgaaemdojmpaaGreatDoor.ex
open Go.ChangeShapes Go.WideShapes Go.ChangeAt Go.RowKit Go.Deep Go.Maps
set_option linter.unusedVariables false
set_option linter.unusedSimpArgs false

def txT (q : Tr) : List UInt8 := q.text.data.toList

/-- What a bind, an inherited name or a parameter is. -/
def BindV (t : ByteArray) (v : Value) : Prop :=
  (∃ T p, v = .iface 101 (.agg #[.string t, .iface T p])) ∨ v = .iface 53 (.agg #[.string t]) ∨ v = .iface 112 (.agg #[.string t, .nilIface]) ∨ ∃ T p, v = .iface 112 (.agg #[.string t, .iface T p])

theorem nd_bind {w : World} {O : Nat → Prop} {r : Nat} {v : Value} {q : Tr} (h : Nd w O r v q) (hk : q.kind = 6 ∨ q.kind = 7 ∨ q.kind = 15) : BindV q.text v := by
  cases r with
  | zero => exact h.elim
  | succ r =>
    obtain ⟨k, t, n, ps⟩ := q
    obtain ⟨_, vs, hl, hp, hv⟩ := h
    change k = 6 ∨ k = 7 ∨ k = 15 at hk
    have one : ∀ x, vs = [x] → ∃ T p, x = .iface T p := fun x e => by
      subst e
      have h1 : ps.length = 1 := by simpa using hl.symm
      exact (hp 0 x ps[0] rfl (by simp)).iface
    rcases hk with rfl | rfl | rfl
    · cases hv with
      | bindN x => obtain ⟨T, p, rfl⟩ := one x rfl; exact .inl ⟨T, p, rfl⟩
    · cases hv with
      | inheritN => exact .inr (.inl rfl)
    · cases hv with
      | param0 => exact .inr (.inr (.inl rfl))
      | param1 x => obtain ⟨T, p, rfl⟩ := one x rfl; exact .inr (.inr (.inr ⟨T, p, rfl⟩))

theorem headB_any (t : ByteArray) (T : TypeId) (p : Value) (w : World) :
    Calls Tryz.prog 145 #[.agg #[.string t, .iface T p]] w fun e w' => e = .returned (.agg #[.int .i64 6, .string t, .int .i64 0, .int .i64 0]) ∧ Below w.heap.size w w' := by
  go_enter Tryz.func145, Tryz.ntmps145
  go_wp2
  go_returns
  exact ⟨rfl, two_bel _ _ _⟩

theorem headI_any (t : ByteArray) (w : World) :
    Calls Tryz.prog 138 #[.agg #[.string t]] w fun e w' => e = .returned (.agg #[.int .i64 7, .string t, .int .i64 0, .int .i64 0]) ∧ Below w.heap.size w w' := by
  go_enter Tryz.func138, Tryz.ntmps138
  go_wp2
  go_returns
  exact ⟨rfl, two_bel _ _ _⟩

theorem headP_any (t : ByteArray) (w : World) :
    Calls Tryz.prog 150 #[.agg #[.string t, .nilIface]] w fun e w' => e = .returned (.agg #[.int .i64 15, .string t, .int .i64 0, .int .i64 0]) ∧ Below w.heap.size w w' := by
  go_enter Tryz.func150, Tryz.ntmps150
  go_wp2
  go_returns
  exact ⟨rfl, two_bel _ _ _⟩

theorem headQ_any (t : ByteArray) (T : TypeId) (p : Value) (w : World) :
    Calls Tryz.prog 150 #[.agg #[.string t, .iface T p]] w fun e w' => e = .returned (.agg #[.int .i64 15, .string t, .int .i64 0, .int .i64 0]) ∧ Below w.heap.size w w' := by
  go_enter Tryz.func150, Tryz.ntmps150
  go_wp2
  go_returns
  exact ⟨rfl, two_bel _ _ _⟩

theorem fieldT (k : Int) (t : ByteArray) (w : World) : (Instr.field 27 (.agg #[.int .i64 k, .string t, .int .i64 0, .int .i64 0]) 1).run Tryz.prog w = .ok (.string t) w := by kernel_rfl

def txL (qs : List Tr) (i : Nat) : List (List UInt8) := (qs.take i).map txT
theorem txL_len {qs : List Tr} {i : Nat} (h : i ≤ qs.length) : (txL qs i).length = i := by simp [txL, h]
theorem txL_step {qs : List Tr} {i : Nat} (h : i < qs.length) : txL qs (i + 1) = txL qs i ++ [txT qs[i]] := by
  rw [txL, List.take_succ_eq_append_getElem h, List.map_append, txL]
  rfl

theorem kept_ne (v : Value) : v.ownBlock = none ∨ v.ownBlock ≠ none := by
  cases v.ownBlock with
  | none => exact .inl rfl
  | some b => exact .inr (by simp)

set_option maxRecDepth 100000 in
set_option maxHeartbeats 1000000 in
/-- The names of binds or params. -/
theorem texts_any {r : Nat} (qs : List Tr) (vs : List Value) (a : Option Addr) (cap : Nat) (w : World) (O : Nat → Prop) (hO : ∀ bb, O bb → bb < w.heap.size) (hP : PsO w O a vs) (hV : NdL w O r vs qs) (hK : ∀ q ∈ qs, q.kind = 6 ∨ q.kind = 7 ∨ q.kind = 15) (hlen : vs.length ≤ 1000000) (xs : List (List UInt8)) (HXS : Hid (qs.map txT = xs)) :
    Calls Tryz.prog 27 #[.slice a vs.length cap] w fun e w' => ∃ v, e = .returned v ∧ w'.ownsRow w.heap.size 9 1 v xs.length (xs.map strL) ∧ v ≠ .slice none 0 0 ∧ Below w.heap.size w w' := by
  obtain ⟨bb, off, ha, hc⟩ := hP
  have HV : Hid (NdL w O r vs qs) := hV
  have HLQ : Hid (vs.length = qs.length) := hV.1
  have HC : Hid (∀ i x, vs[i]? = some x → w.cell? ⟨bb, off + i, none⟩ = some x) := hc
  have ha' : vs.length = 0 ∨ a = some ⟨bb, off, none⟩ := ha.imp id (·.1)
  have HOB : Hid (0 < vs.length → bb < w.heap.size) := fun h => hO _ (ha.resolve_left (by omega)).2
  have HK : Hid (∀ q ∈ qs, q.kind = 6 ∨ q.kind = 7 ∨ q.kind = 15) := hK
  clear hV hc ha hK hO
  go_enter Tryz.func27, Tryz.ntmps27
  go_wp2
  go_loopw [3, 5, 9] (fun v _ x wr => ∃ (i : Nat), i ≤ vs.length ∧ x = .int .i64 (i : Int) ∧ wr.ownsRow w.heap.size 9 1 v (txL qs i).length ((txL qs i).map strL) ∧ v ≠ .slice none 0 0 ∧ Below w.heap.size w wr) (fun _ _ x _ => vs.length - (intOf x).toNat)
  case atStart => exact ⟨0, Nat.zero_le _, rfl, own_none w 9, not_nilS _ _ _, (Below.refl _ _).alloc (Nat.le_refl _) _⟩
  case round =>
    obtain ⟨i, hi, rfl, hown, hni, hbel⟩ := hrel
    have hszb := hbel.size
    have HNI : Hid (u3 ≠ .slice none 0 0) := hni
    clear hni
    by_cases h : i < vs.length
    · have h' : (i : Int) < (vs.length : Int) := by omega
      obtain rfl := ha'.resolve_left (by omega)
      have hiq : i < qs.length := by have := HLQ.out; omega
      have ci : wr.cell? ⟨bb, off + i, none⟩ = some vs[i] := (hbel.cell (p := ⟨bb, _, none⟩) (HOB.out (by omega))).trans (HC.out i _ (by simp))
      have hbv := nd_bind (HV.out.2 i vs[i] qs[i] (by simp) (by simp)).1 (HK.out _ (List.getElem_mem hiq))
      have HTX : Hid (txL qs (i + 1) = txL qs i ++ [qs[i].text.data.toList]) := txL_step hiq
      have hil : (txL qs i).length ≤ 999999 := by rw [txL_len (by omega)]; omega
      generalize vs[i] = y at ci hbv
      generalize qs[i].text = t at hbv HTX
      clear hiq
      have hfT := fun k w => fieldT k t w
      rcases hbv with ⟨T, p, rfl⟩ | rfl | rfl | ⟨T, p, rfl⟩
      · as_aux_lemma =>
          go_wp2_with (first
            | (go_at_call 145; refine (headB_any t T p _).mono ?_; rintro e w1 ⟨rfl, hb1⟩; have HOW : Hid ((w1.alloc (.cells #[.string t] 9)).ownsRow w.heap.size 9 1 u3 (txL qs i).length ((txL qs i).map strL)) := (hown.kept ⟨hb1.os, hb1.tape, hb1.output, hb1.size, fun j hj _ => hb1.block j hj⟩ (kept_ne _)).alloc _; have hbw : Below w.heap.size w (w1.alloc (.cells #[.string t] 9)) := (hbel.trans (hb1.mono hszb)).alloc (Nat.le_trans hszb hb1.size) _; clear hown)
            | (at_builtin; refine app_str _ rfl _ _ rfl w.heap.size u3 (txL qs i) rfl HOW.out HNI.out ⟨w1.heap.size, 0, none⟩ 1 1 [t.data.toList] rfl rfl (one_at w1 t) (by omega) hbw.size ?_)
            | go_in)
          intro v' w' hown' hni hg
          have hb' := below_grown hbw HOW.out hg hbw.size
          have HN' : Hid (v' ≠ .slice none 0 0) := hni
          clear hni HNI HOW hg hbw
          go_wp2
          go_roundw
          case rel => exact ⟨i + 1, by omega, by go_num, by rw [HTX.out]; simpa using hown', HN'.out, hb'⟩
          case measure => simp [intOf]; omega
      · as_aux_lemma =>
          go_wp2_with (first
            | (go_at_call 138; refine (headI_any t _).mono ?_; rintro e w1 ⟨rfl, hb1⟩; have HOW : Hid ((w1.alloc (.cells #[.string t] 9)).ownsRow w.heap.size 9 1 u3 (txL qs i).length ((txL qs i).map strL)) := (hown.kept ⟨hb1.os, hb1.tape, hb1.output, hb1.size, fun j hj _ => hb1.block j hj⟩ (kept_ne _)).alloc _; have hbw : Below w.heap.size w (w1.alloc (.cells #[.string t] 9)) := (hbel.trans (hb1.mono hszb)).alloc (Nat.le_trans hszb hb1.size) _; clear hown)
            | (at_builtin; refine app_str _ rfl _ _ rfl w.heap.size u3 (txL qs i) rfl HOW.out HNI.out ⟨w1.heap.size, 0, none⟩ 1 1 [t.data.toList] rfl rfl (one_at w1 t) (by omega) hbw.size ?_)
            | go_in)
          intro v' w' hown' hni hg
          have hb' := below_grown hbw HOW.out hg hbw.size
          have HN' : Hid (v' ≠ .slice none 0 0) := hni
          clear hni HNI HOW hg hbw
          go_wp2
          go_roundw
          case rel => exact ⟨i + 1, by omega, by go_num, by rw [HTX.out]; simpa using hown', HN'.out, hb'⟩
          case measure => simp [intOf]; omega
      · as_aux_lemma =>
          go_wp2_with (first
            | (go_at_call 150; refine (headP_any t _).mono ?_; rintro e w1 ⟨rfl, hb1⟩; have HOW : Hid ((w1.alloc (.cells #[.string t] 9)).ownsRow w.heap.size 9 1 u3 (txL qs i).length ((txL qs i).map strL)) := (hown.kept ⟨hb1.os, hb1.tape, hb1.output, hb1.size, fun j hj _ => hb1.block j hj⟩ (kept_ne _)).alloc _; have hbw : Below w.heap.size w (w1.alloc (.cells #[.string t] 9)) := (hbel.trans (hb1.mono hszb)).alloc (Nat.le_trans hszb hb1.size) _; clear hown)
            | (at_builtin; refine app_str _ rfl _ _ rfl w.heap.size u3 (txL qs i) rfl HOW.out HNI.out ⟨w1.heap.size, 0, none⟩ 1 1 [t.data.toList] rfl rfl (one_at w1 t) (by omega) hbw.size ?_)
            | go_in)
          intro v' w' hown' hni hg
          have hb' := below_grown hbw HOW.out hg hbw.size
          have HN' : Hid (v' ≠ .slice none 0 0) := hni
          clear hni HNI HOW hg hbw
          go_wp2
          go_roundw
          case rel => exact ⟨i + 1, by omega, by go_num, by rw [HTX.out]; simpa using hown', HN'.out, hb'⟩
          case measure => simp [intOf]; omega
      · as_aux_lemma =>
          go_wp2_with (first
            | (go_at_call 150; refine (headQ_any t T p _).mono ?_; rintro e w1 ⟨rfl, hb1⟩; have HOW : Hid ((w1.alloc (.cells #[.string t] 9)).ownsRow w.heap.size 9 1 u3 (txL qs i).length ((txL qs i).map strL)) := (hown.kept ⟨hb1.os, hb1.tape, hb1.output, hb1.size, fun j hj _ => hb1.block j hj⟩ (kept_ne _)).alloc _; have hbw : Below w.heap.size w (w1.alloc (.cells #[.string t] 9)) := (hbel.trans (hb1.mono hszb)).alloc (Nat.le_trans hszb hb1.size) _; clear hown)
            | (at_builtin; refine app_str _ rfl _ _ rfl w.heap.size u3 (txL qs i) rfl HOW.out HNI.out ⟨w1.heap.size, 0, none⟩ 1 1 [t.data.toList] rfl rfl (one_at w1 t) (by omega) hbw.size ?_)
            | go_in)
          intro v' w' hown' hni hg
          have hb' := below_grown hbw HOW.out hg hbw.size
          have HN' : Hid (v' ≠ .slice none 0 0) := hni
          clear hni HNI HOW hg hbw
          go_wp2
          go_roundw
          case rel => exact ⟨i + 1, by omega, by go_num, by rw [HTX.out]; simpa using hown', HN'.out, hb'⟩
          case measure => simp [intOf]; omega
    · have h' : ¬ (i : Int) < (vs.length : Int) := by omega
      obtain rfl : i = vs.length := by omega
      rw [txL, HLQ.out, List.take_length, HXS.out] at hown
      have HO2 : Hid (wr.ownsRow w.heap.size 9 1 u3 xs.length (xs.map strL)) := hown
      clear hown
      go_wp2
      go_ret
      exact ⟨_, rfl, HO2.out, HNI.out, hbel⟩

end Go.Proofs.YtifgaaemdojmpaaGreatDoor.ex

namespace Go.Proofs.YtifgaaemdojmpaaGreatDoor.ex
open Go.ChangeShapes Go.WideShapes Go.ChangeAt Go.RowKit Go.Deep Go.Maps
set_option linter.unusedVariables false
set_option linter.unusedSimpArgs false

theorem NdL.cons {w : World} {O : Nat → Prop} {r : Nat} {v : Value} {q : Tr} {vs : List Value} {qs : List Tr} (h : NdL w O r (v :: vs) (q :: qs)) : (Nd w O r v q ∧ okT r q) ∧ NdL w O r vs qs :=
  ⟨h.2 0 v q rfl rfl, by simpa using h.1, fun i x y hx hy => h.2 (i + 1) x y (by simpa using hx) (by simpa using hy)⟩
theorem NdL.mk {w : World} {O : Nat → Prop} {r : Nat} {v : Value} {q : Tr} {vs : List Value} {qs : List Tr} (h : Nd w O r v q ∧ okT r q) (k : NdL w O r vs qs) : NdL w O r (v :: vs) (q :: qs) := by
  refine ⟨by simpa using k.1, fun i x y hx hy => ?_⟩
  cases i with
  | zero => cases hx; cases hy; exact h
  | succ i => exact k.2 i x y (by simpa using hx) (by simpa using hy)
theorem NdL.nil {w : World} {O : Nat → Prop} {r : Nat} : NdL w O r [] [] := ⟨rfl, fun i x y hx _ => by simp at hx⟩
theorem NdL.app {w : World} {O : Nat → Prop} {r : Nat} {us : List Value} {ps : List Tr} (k : NdL w O r us ps) : ∀ {vs : List Value} {qs : List Tr}, NdL w O r vs qs → NdL w O r (vs ++ us) (qs ++ ps)
  | [], [], _ => k
  | [], _ :: _, h => by have := h.1; simp at this
  | _ :: _, [], h => by have := h.1; simp at this
  | v :: vs, q :: qs, h => .mk h.cons.1 (k.app h.cons.2)
theorem NdL.ifaces {w : World} {O : Nat → Prop} {r : Nat} {vs : List Value} {qs : List Tr} (h : NdL w O r vs qs) : ∀ v ∈ vs, ∃ T x, v = .iface T x := fun v hv => by
  obtain ⟨i, hi, rfl⟩ := List.getElem_of_mem hv
  exact (h.2 i _ (qs[i]'(by rw [← h.1]; exact hi)) (by simp) (by simp)).1.iface
theorem NdL.one {w : World} {O : Nat → Prop} {r : Nat} {vs : List Value} {qs : List Tr} (h : NdL w O r vs qs) : ∀ v ∈ vs, v.oneCell' = true := fun v hv => by
  obtain ⟨T, x, rfl⟩ := h.ifaces v hv
  rfl

/-- What is looked at inside. -/
def insV : List Value → List Tr → List Value
  | v :: vs, q :: qs => if q.kind = 7 then insV vs qs else v :: insV vs qs
  | _, _ => []
def insQ (qs : List Tr) : List Tr := qs.filter fun q => decide (q.kind ≠ 7)
def inhQ (qs : List Tr) : List Tr := qs.filter fun q => decide (q.kind = 7)

theorem ins_nd {w : World} {O : Nat → Prop} {r : Nat} : ∀ {vs : List Value} {qs : List Tr}, NdL w O r vs qs → NdL w O r (insV vs qs) (insQ qs)
  | [], [], _ => .nil
  | [], _ :: _, h => by have := h.1; simp at this
  | _ :: _, [], h => by have := h.1; simp at this
  | v :: vs, q :: qs, h => by
    have ih := ins_nd h.cons.2
    unfold insV insQ
    by_cases hk : q.kind = 7
    · simpa [hk, insQ] using ih
    · simpa [hk, insQ] using NdL.mk h.cons.1 ih

theorem insV_take : ∀ {vs : List Value} {qs : List Tr} {i : Nat} (h : i < vs.length) (h2 : i < qs.length), insV (vs.take (i + 1)) (qs.take (i + 1)) = insV (vs.take i) (qs.take i) ++ (if qs[i].kind = 7 then [] else [vs[i]])
  | v :: vs, q :: qs, 0, _, _ => by
    simp only [List.take_succ_cons, List.take_zero, insV, List.getElem_cons_zero]
    split <;> simp
  | v :: vs, q :: qs, i + 1, h, h2 => by
    have ih := insV_take (vs := vs) (qs := qs) (i := i) (by simpa using h) (by simpa using h2)
    simp only [List.take_succ_cons, insV, List.getElem_cons_succ]
    split <;> simp [ih]
theorem insV_len : ∀ (vs : List Value) (qs : List Tr), (insV vs qs).length ≤ vs.length
  | [], _ => by simp [insV]
  | _ :: _, [] => by simp [insV]
  | v :: vs, q :: qs => by
    have := insV_len vs qs
    unfold insV
    split <;> simp <;> omega

theorem inh_take {qs : List Tr} {i : Nat} (h : i < qs.length) : inhQ (qs.take (i + 1)) = inhQ (qs.take i) ++ (if qs[i].kind = 7 then [qs[i]] else []) := by
  unfold inhQ
  rw [List.take_succ_eq_append_getElem h, List.filter_append]
  by_cases hk : qs[i].kind = 7
  · simp [hk]
  · simp [hk]

theorem wL_app (r : Nat) (a b : List Tr) : wL r (a ++ b) = wL r a + wL r b := by simp [wL]
theorem frL_app (r : Nat) (a b : List Tr) (B : List (List UInt8)) : frL r (a ++ b) B = frL r a B ++ frL r b B := by simp [frL]
theorem wL_part (r : Nat) : ∀ (qs : List Tr), wL r (inhQ qs) + wL r (insQ qs) = wL r qs
  | [] => rfl
  | q :: qs => by
    have ih := wL_part r qs
    unfold wL inhQ insQ at ih ⊢
    by_cases hk : q.kind = 7
    · simp [hk] at ih ⊢; omega
    · simp [hk] at ih ⊢; omega
theorem wL_filter (r : Nat) (p : Tr → Bool) : ∀ (qs : List Tr), wL r (qs.filter p) ≤ wL r qs
  | [] => Nat.le_refl _
  | q :: qs => by
    have ih := wL_filter r p qs
    unfold wL at ih ⊢
    by_cases hk : p q = true
    · simp [hk]; omega
    · simp [hk]; omega
theorem wL_take (r : Nat) (qs : List Tr) (i : Nat) : wL r (qs.take i) ≤ wL r qs := by
  unfold wL
  rw [List.map_take]
  exact sum_le _ _

/-- A row of one's own behind the maps stays. -/
theorem own_lk {mb mf : Nat} {w w' : World} {base : Nat} {e : TypeId} {v : Value} {n : Nat} {xs : List Value} (h : w.ownsRow base e 1 v n xs) (hk : Lk mb mf w w') (hb : mb < base) (hf : mf < base) : w'.ownsRow base e 1 v n xs := by
  obtain ⟨h1, h2⟩ := h
  refine ⟨h1, h2.imp id ?_⟩
  rintro ⟨g, cap, cur, e1, e2, e3, e4⟩
  exact ⟨g, cap, cur, e1, e2, by rw [hk.block g (Array.getElem?_eq_some_iff.1 e3).1 (by omega) (by omega)]; exact e3, e4⟩
theorem lk_own {mb mf : Nat} {w wr w' : World} {base : Nat} {e : TypeId} {v : Value} {n : Nat} {xs : List Value} (h : Lk mb mf w wr) (ho : wr.ownsRow base e 1 v n xs) (hg : wr.grownBy w' v.ownBlock) (hb : w.heap.size ≤ base) : Lk mb mf w w' :=
  ⟨hg.os.trans h.os, hg.tape.trans h.tape, hg.output.trans h.output, Nat.le_trans h.size hg.size, fun j hj h1 h2 => (hg.block j (Nat.lt_of_lt_of_le hj h.size) (fun e => by have := (ho.lt j e.symm).1; omega)).trans (h.block j hj h1 h2)⟩

/-- What is handed on behind the binds. -/
def BhV (w : World) (O : Nat → Prop) (v : Value) (us : List Value) : Prop := (v = .slice none 0 0 ∧ us = []) ∨ ∃ bb off cap, v = .slice (some ⟨bb, off, none⟩) us.length cap ∧ O bb ∧ ∀ i x, us[i]? = some x → w.cell? ⟨bb, off + i, none⟩ = some x
theorem BhV.kept {w w' : World} {O : Nat → Prop} {v : Value} {us : List Value} (h : BhV w O v us) (hk : ∀ bb, O bb → w'.heap[bb]? = w.heap[bb]?) : BhV w' O v us := by
  rcases h with h | ⟨bb, off, cap, e, ho, hc⟩
  · exact .inl h
  · refine .inr ⟨bb, off, cap, e, ho, fun i x hx => ?_⟩
    have := hc i x hx
    simp only [World.cell?] at this ⊢
    rw [hk bb ho]
    exact this

theorem step_nodes {base : Nat} {W : World} {O : Nat → Prop} {ops : Array Oper} {o : Oper} {a : Act} {K : Act → World → Prop} {Q : Exit → Act → World → Prop} {E : Prop} (hgd : o.guard = none) (s x : Operand)
    (ho : o.op = .call { callee := .builtin .append, args := #[s, x], argTypes := #[54, 54] }) (v : Value) (l us : List Value) (hs : a.eval s = v) (hown : W.ownsRow base 37 1 v l.length l) (hb : base ≤ W.heap.size) (xv : Value)
    (hx : a.eval x = xv) (hB : BhV W O xv us) (h1 : ∀ u ∈ us, u.oneCell' = true) (hlen : l.length + us.length ≤ 1000000) (h : ∀ v' w', w'.ownsRow base 37 1 v' (l ++ us).length (l ++ us) → W.grownBy w' v.ownBlock → K (a.put o.dst v') w') :
    if Region.wanted o (yielded ops a.tmps) = true then Oper.wp Tryz.prog o a W K Q else E := by
  have hw : Region.wanted o (yielded ops a.tmps) = true := by simp [Region.wanted, hgd]
  rw [if_pos hw]
  obtain ⟨i0, hi, hz0, hz1, hz2⟩ := info_parts infoN
  rcases hB with ⟨rfl, rfl⟩ | ⟨bb, off, cap, rfl, _, hc⟩
  · have hr := run_append_owned_none (P := Tryz.prog) (w := W) base 54 o.type 37 i0 1 Tryz.underlying54 hi v l.length l hown
    unfold Oper.wp execOp
    simp only [ho, resolve, invoke, builtin, Sem.run_bind, Sem.run_pure, Result.andThen_ok, List.map_toArray, List.map_cons, List.map_nil, hs, hx, hr]
    exact h _ _ (by simpa using hown) ⟨rfl, rfl, rfl, Nat.le_refl _, fun _ _ _ => rfl⟩
  · refine wp_append_own W s x 54 ho base 37 i0 _ 1 16 Tryz.underlying54 hi hz0 hz1 hz2 rfl (by omega) v l.length l hs hown ⟨bb, off, none⟩ us.length cap us hx (by simp) ?_ h1 (by unfold maxLen; omega) (by omega) hb ?_
    · intro j u hj
      rw [addr_add]
      exact hc j u hj
    · intro v' w' h1 h2 _
      exact h _ _ (by rw [List.length_append]; exact h1) h2

end Go.Proofs.YtifgaaemdojmpaaGreatDoor.ex
