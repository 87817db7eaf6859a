import Derived.Test.YthklplfpnciodaaGreatDoorFE
namespace Go.Proofs.YthklplfpnciodaaGreatDoor.ex
open Go.ChangeShapes Go.WideShapes Go.ChangeAt Go.RowKit Go.Deep Go.Maps
set_option linter.unusedVariables false
set_option linter.unusedSimpArgs false

def Tr.parts : Tr → List Tr | .mk _ _ _ ps => ps

/-- How often a search may write. -/
def wT : Nat → Tr → Nat
  | 0, _ => 0
  | r + 1, .mk _ _ _ ps => 4 + 4 * ps.length + (ps.map (wT r)).sum

/-- A tree whose parts are of the right kinds. -/
def okT : Nat → Tr → Prop
  | 0, _ => False
  | r + 1, .mk k t n ps => t.size ≤ 1048576 ∧ okKind k = true ∧ ps.length ≤ 3000 ∧ ∀ (i : Nat) (q : Tr), ps[i]? = some q → kidOk k ps.length i q.kind ∧ okT r q

/-- The free names of several. -/
def frL (r : Nat) (qs : List Tr) (b : List (List UInt8)) : List (List UInt8) := qs.flatMap fun q => freesT r q b
def wL (r : Nat) (qs : List Tr) : Nat := (qs.map (wT r)).sum

/-- Values that are trees. -/
def NdL (w : World) (O : Nat → Prop) (r : Nat) (vs : List Value) (qs : List Tr) : Prop := vs.length = qs.length ∧ ∀ (i : Nat) (x : Value) (y : Tr), vs[i]? = some x → qs[i]? = some y → Nd w O r x y ∧ okT r y

theorem NdL.kept {w w' : World} {O O' : Nat → Prop} {r : Nat} {vs : List Value} {qs : List Tr} (h : NdL w O r vs qs) (hk : ∀ bb, O bb → w'.heap[bb]? = w.heap[bb]?) (hO : ∀ bb, O bb → O' bb) : NdL w' O' r vs qs :=
  ⟨h.1, fun i x y hx hy => ⟨Nd.kept hk hO r (h.2 i x y hx hy).1, (h.2 i x y hx hy).2⟩⟩

/-- Blocks that a search does not write. -/
def Of (mb mf : Nat) (w : World) (O : Nat → Prop) : Prop := ∀ bb, O bb → bb < w.heap.size ∧ bb ≠ mb ∧ bb ≠ mf

theorem Of.kept {mb mf : Nat} {w w' : World} {O : Nat → Prop} (h : Of mb mf w O) (k : Lk mb mf w w') : ∀ bb, O bb → w'.heap[bb]? = w.heap[bb]? := fun bb ho => k.block bb (h bb ho).1 (h bb ho).2.1 (h bb ho).2.2
theorem Of.next {mb mf : Nat} {w w' : World} {O : Nat → Prop} (h : Of mb mf w O) (k : Lk mb mf w w') : Of mb mf w' O := fun bb ho => ⟨Nat.lt_of_lt_of_le (h bb ho).1 k.size, (h bb ho).2⟩

/-- The search's state. -/
structure Sq (w : World) (mb mf N : Nat) (B : List (List UInt8)) (S : List UInt8 → Prop) : Prop where
  b : BM w mb N (fun x => B.count x)
  f : FM w mf N S

theorem Sq.kept {w w' : World} {mb mf N : Nat} {B : List (List UInt8)} {S : List UInt8 → Prop} (h : Sq w mb mf N B S) (hb : Below w.heap.size w w') : Sq w' mb mf N B S := ⟨h.b.kept (hb.block _ h.b.lt), h.f.kept (hb.block _ h.f.lt)⟩
theorem Sq.mono {w : World} {mb mf N N' : Nat} {B : List (List UInt8)} {S : List UInt8 → Prop} (h : Sq w mb mf N B S) (hN : N ≤ N') : Sq w mb mf N' B S := ⟨h.b.mono hN, h.f.mono hN⟩
theorem Sq.iff {w : World} {mb mf N : Nat} {B : List (List UInt8)} {S S' : List UInt8 → Prop} (h : Sq w mb mf N B S) (he : ∀ x, S x ↔ S' x) : Sq w mb mf N B S' := ⟨h.b, h.f.iff he⟩
theorem Sq.perm {w : World} {mb mf N : Nat} {B B' : List (List UInt8)} {S : List UInt8 → Prop} (h : Sq w mb mf N B S) (he : ∀ x, B.count x = B'.count x) : Sq w mb mf N B' S := ⟨h.b.congr he, h.f⟩
theorem Sq.alloc {w : World} {mb mf N : Nat} {B : List (List UInt8)} {S : List UInt8 → Prop} (h : Sq w mb mf N B S) (o : Obj) : Sq (w.alloc o) mb mf N B S := h.kept ((Below.refl _ _).alloc (Nat.le_refl _) o)

def srch (mb mf : Nat) : Value := .agg #[.map (some mb), .map (some mf)]

/-- What looking at a tree does. -/
def LkS (r : Nat) : Prop := ∀ (t : Tr) (v : Value) (mb mf N : Nat) (B : List (List UInt8)) (S : List UInt8 → Prop) (w : World) (O : Nat → Prop), Nd w O r v t → okT r t → Of mb mf w O → Sq w mb mf N B S → mb ≠ mf → N + wT r t ≤ 1000000 → B.length + 3001 * r ≤ 1000000 →
  Calls Tryz.prog 18 #[.agg #[.map (some mb), .map (some mf)], v] w fun e w' => (∃ u, e = .returned u) ∧ Sq w' mb mf (N + wT r t) B (fun x => S x ∨ x ∈ freesT r t B) ∧ Lk mb mf w w'

theorem sum_take : ∀ {l : List Nat} {i : Nat} (h : i < l.length), (l.take (i + 1)).sum = (l.take i).sum + l[i]
  | [], i, h => by simp at h
  | x :: r, 0, _ => by simp
  | x :: r, i + 1, h => by
    have h' : i < r.length := by simpa using h
    have := sum_take h'
    simp only [List.take_succ_cons, List.sum_cons, List.getElem_cons_succ]
    omega
theorem sum_le : ∀ (l : List Nat) (i : Nat), (l.take i).sum ≤ l.sum
  | [], i => by simp
  | x :: r, 0 => by simp
  | x :: r, i + 1 => by
    have := sum_le r i
    simp only [List.take_succ_cons, List.sum_cons]
    omega

theorem box_cell {w w' : World} {mb mf : Nat} {cs : Array Value} {ty : TypeId} (k : Lk mb mf (w.alloc (.cells cs ty)) w') (h1 : mb < w.heap.size) (h2 : mf < w.heap.size) : w'.heap[w.heap.size]? = some (.cells cs ty) :=
  (k.block w.heap.size (by simp) (by omega) (by omega)).trans (heap_alloc_new w _)

/-- Looking at all. -/
theorem atAll_any {r : Nat} (HL : LkS r) (qs : List Tr) (vs : List Value) (a : Option Addr) (cap mb mf N : Nat) (B : List (List UInt8)) (S : List UInt8 → Prop) (w : World) (O : Nat → Prop) (hP : PsO w O a vs) (hV : NdL w O r vs qs) (hO : Of mb mf w O) (hs : Sq w mb mf N B S) (hne : mb ≠ mf) (hN : N + wL r qs ≤ 1000000) (hB : B.length + 3001 * r ≤ 1000000) (hlen : vs.length ≤ 1000000) :
    Calls Tryz.prog 36 #[.agg #[.map (some mb), .map (some mf)], .slice a vs.length cap] w fun e w' => (∃ u, e = .returned u) ∧ Sq w' mb mf (N + wL r qs) B (fun x => S x ∨ x ∈ frL r qs B) ∧ Lk mb mf w w' := by
  have HLQ : Hid (vs.length = qs.length) := hV.1
  obtain ⟨bb, off, ha, hc⟩ := hP
  have hbl := hs.b.lt
  have hfl := hs.f.lt
  have HV : Hid (NdL w O r vs qs) := hV
  have HO : Hid (Of mb mf w O) := hO
  have HS : Hid (Sq w mb mf N B S) := hs
  have HC : Hid (∀ i x, vs[i]? = some x → w.cell? ⟨bb, off + i, none⟩ = some x) := hc
  have ha' : vs.length = 0 ∨ a = some ⟨bb, off, none⟩ := ha.imp id (·.1)
  have HOB : Hid (0 < vs.length → O bb) := fun h => (ha.resolve_left (by omega)).2
  clear hV hO hs hc ha
  go_enter Tryz.func36, Tryz.ntmps36
  go_wp2
  go_loopw [5, 8] (fun _ x wr => ∃ (i : Nat), i ≤ vs.length ∧ x = .int .i64 (i : Int) ∧ Sq wr mb mf (N + wL r (qs.take i)) B (fun x => S x ∨ x ∈ frL r (qs.take i) B) ∧ Lk mb mf (w.alloc (.cells #[.map (some mb), .map (some mf)] 42)) wr) (fun _ x _ => vs.length - (intOf x).toNat)
  case atStart => exact ⟨0, Nat.zero_le _, rfl, by simpa [wL, frL] using HS.out.alloc _, Lk.refl _ _ _⟩
  case round =>
    obtain ⟨i, hi, rfl, hsq, hlk⟩ := hrel
    by_cases h : i < vs.length
    · have h' : (i : Int) < (vs.length : Int) := by omega
      obtain rfl := ha'.resolve_left (by omega)
      have hall : Lk mb mf w wr := ((Lk.refl _ _ _).alloc _).trans hlk
      have hOB := HOB.out (by omega)
      have hiq : i < qs.length := by have := HLQ.out; omega
      have hqi : qs[i]? = some qs[i] := by simp
      have hvi : vs[i]? = some vs[i] := by simp
      obtain ⟨hnd, hok⟩ := HV.out.2 i _ _ hvi hqi
      have ci : wr.cell? ⟨bb, off + i, none⟩ = some vs[i] := by
        have := HC.out i _ hvi
        simp only [World.cell?] at this ⊢
        rw [HO.out.kept hall bb hOB]
        exact this
      have bx := box_cell hlk hbl hfl
      have bx0 : wr.cell? ⟨w.heap.size, 0, none⟩ = some (.map (some mb)) := by simp [World.cell?, bx]
      have bx1 : wr.cell? ⟨w.heap.size, 1, none⟩ = some (.map (some mf)) := by simp [World.cell?, bx]
      clear bx
      obtain ⟨T, xv, hiv⟩ := hnd.iface
      have hnd' : Nd wr O r vs[i] qs[i] := Nd.kept (HO.out.kept hall) (fun _ h => h) r hnd
      have hwt : wL r (qs.take (i + 1)) = wL r (qs.take i) + wT r qs[i] := by
        unfold wL
        rw [List.map_take, sum_take (by simp; omega), ← List.map_take]
        simp
      have hwle : wL r (qs.take (i + 1)) ≤ wL r qs := by
        unfold wL
        rw [List.map_take]
        exact sum_le _ _
      have HCALL := HL qs[i] vs[i] mb mf _ B _ wr O hnd' hok (HO.out.next hall) hsq hne (by omega) hB
      have HFR : Hid (∀ x, (S x ∨ x ∈ frL r (qs.take i) B) ∨ x ∈ freesT r qs[i] B ↔ S x ∨ x ∈ frL r (qs.take (i + 1)) B) := fun x => by
        unfold frL
        rw [List.take_succ_eq_append_getElem (by omega), List.flatMap_append]
        simp [or_assoc]
      generalize vs[i] = y at ci HCALL hiv
      subst hiv
      have HCA : Hid (Calls Tryz.prog 18 #[.agg #[.map (some mb), .map (some mf)], .iface T xv] wr fun e w' => (∃ u, e = .returned u) ∧ Sq w' mb mf (N + wL r (qs.take i) + wT r qs[i]) B (fun x => (S x ∨ x ∈ frL r (qs.take i) B) ∨ x ∈ freesT r qs[i] B) ∧ Lk mb mf wr w') := HCALL
      have HWT : Hid (wL r (qs.take (i + 1)) = wL r (qs.take i) + wT r qs[i]) := hwt
      obtain ⟨WQ, hWQ⟩ : ∃ q, qs[i] = q := ⟨_, rfl⟩
      rw [hWQ] at HCA HWT HFR
      clear HCALL hnd hnd' hok hsq hqi hvi hwt hwle hWQ hiq
      go_wp2_with (go_at_call 18; refine HCA.out.mono ?_; rintro e w1 ⟨⟨u1, rfl⟩, hs1, hl1⟩)
      go_roundw
      case rel => exact ⟨i + 1, by omega, by go_num, by rw [HWT.out, ← Nat.add_assoc]; exact hs1.iff HFR.out, hlk.trans hl1⟩
      case measure => simp [intOf]; omega
    · have h' : ¬ (i : Int) < (vs.length : Int) := by omega
      obtain rfl : i = vs.length := by omega
      rw [HLQ.out, List.take_length] at hsq
      go_wp2
      go_returns
      exact ⟨⟨_, rfl⟩, hsq, ((Lk.refl _ _ _).alloc _).trans hlk⟩

end Go.Proofs.YthklplfpnciodaaGreatDoor.ex
