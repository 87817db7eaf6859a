import Derived.Test.YtogakignaaoklaaNI
import Derived.WideKeyEntry
import Derived.WideKeyArr
import Derived.ArgAppend
import Derived.Deep.DeepAppendRoom
namespace Go.Proofs.Ytogakignaaoklaa.dl
open Go.ChangeShapes Go.WideShapes Go.ChangeAt Go.RowKit Go.Deep
open Go.MapKept Go.ChangeMaps
open Go.WideMaps (KeyLaw ArrKey)
open bf (Bf Ap num)
set_option linter.unusedVariables false
set_option linter.unusedSimpArgs false

/-! ### A map from six bytes to places -/

theorem arrK : ArrKey Try.prog 71 5 6 := ⟨Try.underlying71, by kernel_rfl, by kernel_rfl, by kernel_rfl⟩
theorem lawK : KeyLaw Try.prog 71 := arrK.law
theorem mapU : Try.prog.underlying 38 = some (.map 71 72) := Try.underlying38
theorem zeroI : ∀ u : World, (zeroValue 72).run Try.prog u = .ok (.slice none 0 0) u := Try.zeroValue72

/-- Six bytes as a key. -/
def kv (b : List UInt8) : Value := .agg (b.map fun x => Value.int .u8 (x.toNat : Int)).toArray
theorem kv_inj {a b : List UInt8} (h : kv a = kv b) : a = b := by
  unfold kv at h
  simp only [Value.agg.injEq] at h
  have h2 : a.map (fun x => Value.int .u8 (x.toNat : Int)) = b.map (fun x => Value.int .u8 (x.toNat : Int)) := by simpa using h
  refine (List.map_inj_right (fun x y e => ?_)).1 h2
  simp only [Value.int.injEq, true_and] at e
  exact UInt8.toNat_inj.1 (by omega)
theorem u8_wf (x : UInt8) : (Lit.int .u8 (x.toNat : Int)).wf = true := by
  have := x.toNat_lt
  simp [Lit.wf, IntKind.min, IntKind.max, IntKind.signed, IntKind.bits]
  try omega
theorem key_six {b : List UInt8} (hb : b.length = 6) : ∃ l, keyOf Try.prog 71 (kv b) = some l := by
  match b, hb with
  | [b0, b1, b2, b3, b4, b5], _ =>
    have hsz : ∃ m, Try.prog.types.size = m + 1 := ⟨Try.prog.types.size - 1, by have h : 0 < Try.prog.types.size := of_decide_eq_true (by kernel_rfl); omega⟩
    have hkt := arrK.keyType hsz
    obtain ⟨m, hm⟩ := hsz
    refine ⟨.string (keyBytes [.int .u8 (b0.toNat : Int), .int .u8 (b1.toNat : Int), .int .u8 (b2.toNat : Int), .int .u8 (b3.toNat : Int), .int .u8 (b4.toNat : Int), .int .u8 (b5.toNat : Int)]), ?_⟩
    unfold keyOf kv
    simp only [arrK.hu, List.map_cons, List.map_nil]
    rw [if_pos (by simp [hkt, Value.formed, arrK.hu, arrK.size]), hm]
    unfold Program.keyLits
    simp only [arrK.hu, Value.cells]
    rw [if_pos (by rw [arrK.size]; rfl), show List.range 6 = [0, 1, 2, 3, 4, 5] from rfl, List.mapM_cons, List.mapM_cons, List.mapM_cons, List.mapM_cons, List.mapM_cons, List.mapM_cons, List.mapM_nil]
    simp [arrK.one, Program.keyLits, Try.underlying5, u8_wf]

abbrev mT : TypeId := 38

/-- m[key] read and written in one statement: the entry first, its store behind. -/
theorem ent_any {w : World} {b : Nat} {es : Array MapEntry} {clock : Nat} (hb : w.heap[b]? = some (.map es clock)) (hst : Stamped es clock) (hks : ∀ x ∈ es.toList, ∃ l, keyOf Try.prog 71 x.key = some l) {key : Value} {kl : Lit} (hkey : keyOf Try.prog 71 key = some kl) :
    ((∀ x ∈ es.toList, x.key ≠ key) ∧ (Instr.mapEntry mT (.map (some b)) key).run Try.prog w = .ok (.tuple #[.slice none 0 0, goInt (clock : Nat)]) (setBlock w b (.map (es.push ⟨key, .slice none 0 0, clock⟩) (clock + 1))) ∧
      ∀ (w2 : World) (val : Value), w2.heap[b]? = some (.map (es.push ⟨key, .slice none 0 0, clock⟩) (clock + 1)) → (Instr.entryStore mT (.map (some b)) (goInt (clock : Nat)) val).run Try.prog w2 = .ok () (setBlock w2 b (.map (es.push ⟨key, val, clock⟩) (clock + 1)))) ∨
    (∃ j e0, es.toList[j]? = some e0 ∧ e0.key = key ∧ (Instr.mapEntry mT (.map (some b)) key).run Try.prog w = .ok (.tuple #[e0.val, goInt (e0.born : Nat)]) (setBlock w b (.map es clock)) ∧
      ∀ (w2 : World) (val : Value), w2.heap[b]? = some (.map es clock) → (Instr.entryStore mT (.map (some b)) (goInt (e0.born : Nat)) val).run Try.prog w2 = .ok () (setBlock w2 b (.map (es.modify j (fun e' => { e' with val := val })) clock))) := by
  obtain ⟨s1, s2, _⟩ := hst
  rcases lawK.find w hkey es.toList hks with ⟨h1, h2⟩ | ⟨j, e0, h1, h2, h3⟩
  · refine .inl ⟨h2, ?_, fun w2 val hw2 => ?_⟩
    · simp [Instr.mapEntry, run_underlying mapU, MapKept.run_getObj_map hb, lawK.check w false hkey, h1, zeroI, MapKept.run_setObj_map _ hb, Result.andThen, setBlock]
    · have hidx : (es.push ⟨key, .slice none 0 0, clock⟩).findIdx? (fun e => ((e.born : Nat) : Int) == ((clock : Nat) : Int)) = some es.size := by
        rw [WideElems.findIdx_arr]
        have := WideElems.findIdx_born (l := (es.push ⟨key, .slice none 0 0, clock⟩).toList) (j := es.size) (e0 := ⟨key, .slice none 0 0, clock⟩) (by
          simp only [Array.toList_push, List.map_append, List.map_cons, List.map_nil]
          refine List.nodup_append.2 ⟨s2, by simp, fun a ha c hc e1 => ?_⟩
          simp only [List.mem_singleton] at hc
          obtain ⟨x, hx, rfl⟩ := List.mem_map.1 ha
          have := s1 x hx
          omega) (by simp)
        exact this
      have hmod : (es.push ⟨key, .slice none 0 0, clock⟩).modify es.size (fun e => { e with val := val }) = es.push ⟨key, val, clock⟩ := by
        apply Array.ext'
        rw [Array.toList_modify, Array.toList_push, Array.toList_push, ← Array.length_toList, WideElems.modify_last]
      simp [Instr.entryStore, MapKept.run_getObj_map hw2, asInt, asIntOf, goInt, hidx, hmod, MapKept.run_setObj_map _ hw2, Result.andThen, setBlock]
  · have hj : es[j]? = some e0 := by simpa using h2
    have hsame : es.modify j (fun e => { e with key := key }) = es := by
      apply Array.ext'
      rw [Array.toList_modify, modify_eq_set _ _ _ _ h2]
      have : ({ e0 with key := key } : MapEntry) = e0 := by rw [← h3]
      rw [this]
      exact WideElems.set_self _ _ _ h2
    refine .inr ⟨j, e0, h2, h3, ?_, fun w2 val hw2 => ?_⟩
    · simp [Instr.mapEntry, run_underlying mapU, MapKept.run_getObj_map hb, lawK.check w false hkey, h1, hj, h3, lawK.stays w hkey, hsame, MapKept.run_setObj_map _ hb, Result.andThen, setBlock]
    · have hidx : es.findIdx? (fun e => ((e.born : Nat) : Int) == ((e0.born : Nat) : Int)) = some j := by
        rw [WideElems.findIdx_arr]
        exact WideElems.findIdx_born s2 h2
      simp [Instr.entryStore, MapKept.run_getObj_map hw2, asInt, asIntOf, goInt, hidx, MapKept.run_setObj_map _ hw2, Result.andThen, setBlock]

/-- m[key] read. -/
theorem look_any {w : World} {b : Nat} {es : Array MapEntry} {clock : Nat} (hb : w.heap[b]? = some (.map es clock)) (hks : ∀ x ∈ es.toList, ∃ l, keyOf Try.prog 71 x.key = some l) {key : Value} {kl : Lit} (hkey : keyOf Try.prog 71 key = some kl) :
    ((∀ x ∈ es.toList, x.key ≠ key) ∧ (Instr.lookup mT (.map (some b)) key false).run Try.prog w = .ok (.slice none 0 0) w) ∨
    (∃ e0 ∈ es.toList, e0.key = key ∧ (Instr.lookup mT (.map (some b)) key false).run Try.prog w = .ok e0.val w) := by
  rcases lawK.find w hkey es.toList hks with ⟨h1, h2⟩ | ⟨j, e0, h1, h2, h3⟩
  · exact .inl ⟨h2, by simp [Instr.lookup, run_underlying mapU, MapKept.run_getObj_map hb, lawK.check w es.isEmpty hkey, h1, zeroI, Result.andThen]⟩
  · exact .inr ⟨e0, List.mem_of_getElem? h2, h3, by simp [Instr.lookup, run_underlying mapU, MapKept.run_getObj_map hb, lawK.check w es.isEmpty hkey, h1, Result.andThen, zeroI]⟩

/-- A row of places that the call has made. -/
def iv (n : Nat) : Value := .int .i64 (n : Int)
abbrev IR (base : Nat) (w : World) (g cap : Nat) (l : List Nat) : Prop := w.ownsRow base 3 1 (.slice (some ⟨g, 0, none⟩) l.length cap) l.length (l.map iv)
theorem IR.block {base : Nat} {w w' : World} {g cap : Nat} {l : List Nat} (h : IR base w g cap l) (hb : w'.heap[g]? = w.heap[g]?) : IR base w' g cap l := by
  obtain ⟨hl, h'⟩ := h
  refine ⟨hl, ?_⟩
  rcases h' with ⟨e, _⟩ | ⟨g', c', cur, e, h1, h2, h3⟩
  · cases e
  · cases e
    exact .inr ⟨g, cap, cur, rfl, h1, hb.trans h2, h3⟩
theorem IR.lt {base : Nat} {w : World} {g cap : Nat} {l : List Nat} (h : IR base w g cap l) : g < w.heap.size := by
  obtain ⟨hl, h'⟩ := h
  rcases h' with ⟨e, _⟩ | ⟨g', c', cur, e, h1, h2, h3⟩
  · cases e
  · cases e
    exact (Array.getElem?_eq_some_iff.1 h2).1
theorem IR.new {base : Nat} {w : World} {g cap : Nat} {l : List Nat} (h : IR base w g cap l) : base ≤ g := by
  obtain ⟨hl, h'⟩ := h
  rcases h' with ⟨e, _⟩ | ⟨g', c', cur, e, h1, h2, h3⟩
  · cases e
  · cases e
    exact h1
theorem IR.at {base : Nat} {w : World} {g cap : Nat} {l : List Nat} (h : IR base w g cap l) {i n : Nat} (hi : l[i]? = some n) : w.cell? ⟨g, i, none⟩ = some (.int .i64 (n : Int)) := by
  have := World.ownsRow.cells (w := w) (base := base) (e := 3) (size := 1) (n := l.length) (xs := l.map iv) h (g := g) rfl i (iv n) (by simp [hi])
  rwa [addr_add, Nat.zero_add] at this

/-- The map's entries: for each key the places that f tells, in rows that no two share. -/
structure Pl (base : Nat) (w : World) (mb : Nat) (f : List UInt8 → List Nat) (es : Array MapEntry) (clock : Nat) : Prop where
  blk : w.heap[mb]? = some (.map es clock)
  st : Stamped es clock
  ent : ∀ x ∈ es.toList, ∃ kk g cap, kk.length = 6 ∧ x.key = kv kk ∧ f kk ≠ [] ∧ x.val = .slice (some ⟨g, 0, none⟩) (f kk).length cap ∧ IR base w g cap (f kk) ∧ g ≠ mb
  all : ∀ kk, kk.length = 6 → f kk ≠ [] → ∃ x ∈ es.toList, x.key = kv kk
  inj : ∀ (x y : MapEntry), x ∈ es.toList → y ∈ es.toList → x.key ≠ y.key → ∀ g n c g' n' c', x.val = .slice (some ⟨g, 0, none⟩) n c → y.val = .slice (some ⟨g', 0, none⟩) n' c' → g ≠ g'

theorem Pl.keys {base : Nat} {w : World} {mb : Nat} {f : List UInt8 → List Nat} {es : Array MapEntry} {clock : Nat} (h : Pl base w mb f es clock) : ∀ x ∈ es.toList, ∃ l, keyOf Try.prog 71 x.key = some l := fun x hx => by
  obtain ⟨kk, g, cap, h6, hk, _⟩ := h.ent x hx
  rw [hk]
  exact key_six h6
theorem Pl.lt {base : Nat} {w : World} {mb : Nat} {f : List UInt8 → List Nat} {es : Array MapEntry} {clock : Nat} (h : Pl base w mb f es clock) : mb < w.heap.size := (Array.getElem?_eq_some_iff.1 h.blk).1
/-- Where all blocks that stand are as they were. -/
theorem Pl.below {base : Nat} {w w' : World} {mb : Nat} {f : List UInt8 → List Nat} {es : Array MapEntry} {clock : Nat} (h : Pl base w mb f es clock) (hb : Below w.heap.size w w') : Pl base w' mb f es clock :=
  ⟨(hb.block mb h.lt).trans h.blk, h.st, fun x hx => by
    obtain ⟨kk, g, cap, a1, a2, a3, a4, a5, a6⟩ := h.ent x hx
    exact ⟨kk, g, cap, a1, a2, a3, a4, a5.block (hb.block g a5.lt), a6⟩, h.all, h.inj⟩

theorem set_grown (w : World) (b : Nat) (o : Obj) : w.grownBy (setBlock w b o) (some b) :=
  ⟨rfl, rfl, rfl, by simp [setBlock], fun k hk hne => by
    have : b ≠ k := fun e => hne (by rw [e])
    simp [setBlock, Array.getElem?_setIfInBounds, this]⟩
theorem set_here {w : World} {b : Nat} (o : Obj) (h : b < w.heap.size) : (setBlock w b o).heap[b]? = some o := by
  simp [setBlock, Array.getElem?_setIfInBounds, h]

def fadd (f : List UInt8 → List Nat) (k0 : List UInt8) (at_ : Nat) : List UInt8 → List Nat := fun kk => if kk = k0 then f kk ++ [at_] else f kk

/-- The row of a key, or nil. -/
def RowN (base : Nat) (w : World) (mb : Nat) (v0 : Value) (l : List Nat) : Prop := (v0 = .slice none 0 0 ∧ l = []) ∨ ∃ g cap, v0 = .slice (some ⟨g, 0, none⟩) l.length cap ∧ IR base w g cap l ∧ g ≠ mb

theorem Pl.step {base : Nat} {w : World} {mb : Nat} {f : List UInt8 → List Nat} {es : Array MapEntry} {clock : Nat} (h : Pl base w mb f es clock) {k0 : List UInt8} (hk0 : k0.length = 6) (at_ : Nat) :
    ∃ v0 st W1, (Instr.mapEntry mT (.map (some mb)) (kv k0)).run Try.prog w = .ok (.tuple #[v0, .int .i64 st]) W1 ∧ w.grownBy W1 (some mb) ∧ RowN base W1 mb v0 (f k0) ∧
      ∀ w2 g' cap', IR base w2 g' cap' (f k0 ++ [at_]) → W1.grownBy w2 v0.ownBlock → (v0.ownBlock = some g' ∨ W1.heap.size ≤ g') → ∃ W3 es' clock', (Instr.entryStore mT (.map (some mb)) (.int .i64 st) (.slice (some ⟨g', 0, none⟩) ((f k0).length + 1) cap')).run Try.prog w2 = .ok () W3 ∧ w2.grownBy W3 (some mb) ∧ Pl base W3 mb (fadd f k0 at_) es' clock' := by
  obtain ⟨kl, hkl⟩ := key_six hk0
  rcases ent_any h.blk h.st h.keys hkl with ⟨hno, hrun, hstore⟩ | ⟨j, e0, hj, hek, hrun, hstore⟩
  · have hf : f k0 = [] := Classical.byContradiction fun hne => by
      obtain ⟨x, hx, hxk⟩ := h.all k0 hk0 hne
      exact hno x hx hxk
    refine ⟨_, (clock : Nat), _, hrun, set_grown _ _ _, .inl ⟨rfl, hf⟩, fun w2 g' cap' hir hg hh => ?_⟩
    have hmb : mb < w.heap.size := h.lt
    have hb2 : w2.heap[mb]? = some (.map (es.push ⟨kv k0, .slice none 0 0, clock⟩) (clock + 1)) := by
      rw [hg.block mb (by simp [setBlock]; exact hmb) (by simp [Value.ownBlock])]
      exact set_here _ hmb
    have hgw : w.heap.size ≤ g' := by
      rcases hh with e | e
      · cases e
      · simpa [setBlock] using e
    have hl2 : mb < w2.heap.size := (Array.getElem?_eq_some_iff.1 hb2).1
    refine ⟨_, _, _, hstore w2 _ hb2, set_grown _ _ _, set_here _ hl2, stamped_push h.st hno, fun x hx => ?_, fun kk h6 hne => ?_, fun x y hx hy hxy => ?_⟩
    · rw [Array.toList_push, List.mem_append, List.mem_singleton] at hx
      rcases hx with hx | rfl
      · obtain ⟨kk, g, cap, a1, a2, a3, a4, a5, a6⟩ := h.ent x hx
        have hkne : kk ≠ k0 := fun e => hno x hx (by rw [a2, e])
        have hfe : fadd f k0 at_ kk = f kk := by unfold fadd; rw [if_neg hkne]
        refine ⟨kk, g, cap, a1, a2, by rw [hfe]; exact a3, by rw [hfe]; exact a4, ?_, a6⟩
        rw [hfe]
        refine a5.block ?_
        have e1 : (setBlock w2 mb (.map (es.push ⟨kv k0, .slice (some ⟨g', 0, none⟩) ((f k0).length + 1) cap', clock⟩) (clock + 1))).heap[g]? = w2.heap[g]? := (set_grown _ _ _).block g (Nat.lt_of_lt_of_le a5.lt (Nat.le_trans (by simp [setBlock]) hg.size)) (fun e => a6 (Option.some.inj e))
        have e2 : w2.heap[g]? = (setBlock w mb (.map (es.push ⟨kv k0, .slice none 0 0, clock⟩) (clock + 1))).heap[g]? := hg.block g (by simp [setBlock]; exact a5.lt) (by simp [Value.ownBlock])
        rw [e1, e2]
        exact (set_grown _ _ _).block g a5.lt (fun e => a6 (Option.some.inj e))
      · have hfe : fadd f k0 at_ k0 = f k0 ++ [at_] := by unfold fadd; rw [if_pos rfl]
        refine ⟨k0, g', cap', hk0, rfl, by rw [hfe]; simp, by rw [hfe, List.length_append]; rfl, ?_, by omega⟩
        rw [hfe]
        exact hir.block ((set_grown _ _ _).block g' hir.lt (fun e => by have := Option.some.inj e; omega))
    · by_cases e : kk = k0
      · subst e
        exact ⟨_, by rw [Array.toList_push]; exact List.mem_append_right _ (List.mem_singleton_self _), rfl⟩
      · have hfe : fadd f k0 at_ kk = f kk := by unfold fadd; rw [if_neg e]
        rw [hfe] at hne
        obtain ⟨x, hx, hxk⟩ := h.all kk h6 hne
        exact ⟨x, by rw [Array.toList_push]; exact List.mem_append_left _ hx, hxk⟩
    · rw [Array.toList_push, List.mem_append, List.mem_singleton] at hx hy
      intro g n c g2 n2 c2 h1 h2
      rcases hx with hx | rfl
      · rcases hy with hy | rfl
        · exact h.inj x y hx hy hxy g n c g2 n2 c2 h1 h2
        · obtain ⟨kk, gx, cap, a1, a2, a3, a4, a5, a6⟩ := h.ent x hx
          rw [a4] at h1
          have l1 := a5.lt
          simp at h1 h2
          omega
      · rcases hy with hy | rfl
        · obtain ⟨kk, gx, cap, a1, a2, a3, a4, a5, a6⟩ := h.ent y hy
          rw [a4] at h2
          have l1 := a5.lt
          simp at h1 h2
          omega
        · exact absurd rfl hxy
  · have hmem := List.mem_of_getElem? hj
    obtain ⟨kk, g0, cap0, b1, b2, b3, b4, b5, b6⟩ := h.ent e0 hmem
    obtain rfl : kk = k0 := kv_inj (by rw [← b2, hek])
    have hmb : mb < w.heap.size := h.lt
    have hsame : ∀ k, (setBlock w mb (.map es clock)).heap[k]? = w.heap[k]? := fun k => by
      by_cases e : k = mb
      · subst e; rw [set_here _ hmb, h.blk]
      · by_cases hk : k < w.heap.size
        · exact (set_grown _ _ _).block k hk (fun e' => e (Option.some.inj e'))
        · rw [Array.getElem?_eq_none (by simp [setBlock]; omega), Array.getElem?_eq_none (by omega)]
    refine ⟨e0.val, (e0.born : Nat), _, hrun, set_grown _ _ _, .inr ⟨g0, cap0, b4, b5.block (hsame g0), b6⟩, fun w2 g' cap' hir hg hh => ?_⟩
    rw [b4] at hg hh
    have hb2 : w2.heap[mb]? = some (.map es clock) := by
      rw [hg.block mb (by simp [setBlock]; exact hmb) (fun e => b6 (Option.some.inj e).symm), hsame]
      exact h.blk
    have hl2 : mb < w2.heap.size := (Array.getElem?_eq_some_iff.1 hb2).1
    have hgo : g' = g0 ∨ w.heap.size ≤ g' := by
      rcases hh with e | e
      · exact .inl (Option.some.inj e).symm
      · exact .inr (by simpa [setBlock] using e)
    have hgm : g' ≠ mb := by rcases hgo with e | e <;> omega
    have hfk : fadd f kk at_ kk = f kk ++ [at_] := by unfold fadd; rw [if_pos rfl]
    have hget : ∀ x, x ∈ (es.modify j (fun e' => { e' with val := .slice (some ⟨g', 0, none⟩) ((f kk).length + 1) cap' })).toList → (x.key = kv kk ∧ x.val = .slice (some ⟨g', 0, none⟩) ((f kk).length + 1) cap') ∨ (x ∈ es.toList ∧ x.key ≠ kv kk) := fun x hx => by
      rw [Array.toList_modify, modify_eq_set _ _ _ _ hj] at hx
      obtain ⟨i, hi⟩ := List.mem_iff_getElem?.1 hx
      rw [List.getElem?_set] at hi
      split at hi
      · next e =>
        split at hi
        · cases hi
          exact .inl ⟨hek, rfl⟩
        · cases hi
      · next e =>
        refine .inr ⟨List.mem_of_getElem? hi, fun hk => ?_⟩
        have hnd := h.st.2.2
        have h1 : (es.toList.map (·.key))[i]? = some (kv kk) := by rw [List.getElem?_map, hi]; simp [hk]
        have h2 : (es.toList.map (·.key))[j]? = some (kv kk) := by rw [List.getElem?_map, hj]; simp [hek]
        have hil := (List.getElem?_eq_some_iff.1 h1).1
        have hjl := (List.getElem?_eq_some_iff.1 h2).1
        have := (List.getElem_inj (h₀ := hil) (h₁ := hjl) hnd).1 (by rw [(List.getElem?_eq_some_iff.1 h1).2, (List.getElem?_eq_some_iff.1 h2).2])
        exact e this.symm
    refine ⟨_, _, _, hstore w2 _ hb2, set_grown _ _ _, set_here _ hl2, ?_, fun x hx => ?_, fun k2 h6 hne => ?_, fun x y hx hy hxy => ?_⟩
    · have hkeys : (es.modify j (fun e' => { e' with val := .slice (some ⟨g', 0, none⟩) ((f kk).length + 1) cap' })).toList.map (·.key) = es.toList.map (·.key) := by
        rw [Array.toList_modify, modify_eq_set _ _ _ _ hj, List.map_set]
        exact WideElems.set_self _ _ _ (by rw [List.getElem?_map, hj]; rfl)
      have hborn : (es.modify j (fun e' => { e' with val := .slice (some ⟨g', 0, none⟩) ((f kk).length + 1) cap' })).toList.map (·.born) = es.toList.map (·.born) := by
        rw [Array.toList_modify, modify_eq_set _ _ _ _ hj, List.map_set]
        exact WideElems.set_self _ _ _ (by rw [List.getElem?_map, hj]; rfl)
      refine ⟨fun x hx => ?_, by rw [hborn]; exact h.st.2.1, by rw [hkeys]; exact h.st.2.2⟩
      have : x.born ∈ es.toList.map (·.born) := by rw [← hborn]; exact List.mem_map.2 ⟨x, hx, rfl⟩
      obtain ⟨y, hy, hyb⟩ := List.mem_map.1 this
      rw [← hyb]
      exact h.st.1 y hy
    · rcases hget x hx with ⟨e1, e2⟩ | ⟨e1, e2⟩
      · refine ⟨kk, g', cap', hk0, e1, by rw [hfk]; simp, by rw [hfk, List.length_append]; exact e2, ?_, hgm⟩
        rw [hfk]
        exact hir.block ((set_grown _ _ _).block g' hir.lt (fun e => hgm (Option.some.inj e)))
      · obtain ⟨k1, g, cap, a1, a2, a3, a4, a5, a6⟩ := h.ent x e1
        have hkne : k1 ≠ kk := fun e => e2 (by rw [a2, e])
        have hfe : fadd f kk at_ k1 = f k1 := by unfold fadd; rw [if_neg hkne]
        have hgg : g ≠ g0 := h.inj x e0 e1 hmem (by rw [hek]; exact e2) g _ _ g0 _ _ a4 b4
        refine ⟨k1, g, cap, a1, a2, by rw [hfe]; exact a3, by rw [hfe]; exact a4, ?_, a6⟩
        rw [hfe]
        refine a5.block ?_
        have e3 := (set_grown w2 mb (.map (es.modify j (fun e' => { e' with val := .slice (some ⟨g', 0, none⟩) ((f kk).length + 1) cap' })) clock)).block g (Nat.lt_of_lt_of_le a5.lt (Nat.le_trans (by simp [setBlock]) hg.size)) (fun e => a6 (Option.some.inj e))
        rw [e3, hg.block g (by simp [setBlock]; exact a5.lt) (fun e => hgg (Option.some.inj e)), hsame]
    · have hin : ∃ x ∈ es.toList, x.key = kv k2 := by
        by_cases e : k2 = kk
        · subst e; exact ⟨e0, hmem, hek⟩
        · have hfe : fadd f kk at_ k2 = f k2 := by unfold fadd; rw [if_neg e]
          rw [hfe] at hne
          exact h.all k2 h6 hne
      obtain ⟨x, hx, hxk⟩ := hin
      have hkeys : (es.modify j (fun e' => { e' with val := .slice (some ⟨g', 0, none⟩) ((f kk).length + 1) cap' })).toList.map (·.key) = es.toList.map (·.key) := by
        rw [Array.toList_modify, modify_eq_set _ _ _ _ hj, List.map_set]
        exact WideElems.set_self _ _ _ (by rw [List.getElem?_map, hj]; rfl)
      have : kv k2 ∈ es.toList.map (·.key) := by rw [← hxk]; exact List.mem_map.2 ⟨x, hx, rfl⟩
      rw [← hkeys] at this
      obtain ⟨y, hy, hyk⟩ := List.mem_map.1 this
      exact ⟨y, hy, hyk⟩
    · intro g n c g2 n2 c2 h1 h2
      rcases hget x hx with ⟨e1, e2⟩ | ⟨e1, e2⟩
      · rcases hget y hy with ⟨e3, e4⟩ | ⟨e3, e4⟩
        · exact absurd (e1.trans e3.symm) hxy
        · obtain ⟨k1, gy, cap, a1, a2, a3, a4, a5, a6⟩ := h.ent y e3
          have hgg : gy ≠ g0 := h.inj y e0 e3 hmem (by rw [hek]; exact e4) gy _ _ g0 _ _ a4 b4
          have l1 := a5.lt
          rw [e2] at h1
          rw [a4] at h2
          simp at h1 h2
          rcases hgo with e | e <;> omega
      · rcases hget y hy with ⟨e3, e4⟩ | ⟨e3, e4⟩
        · obtain ⟨k1, gx, cap, a1, a2, a3, a4, a5, a6⟩ := h.ent x e1
          have hgg : gx ≠ g0 := h.inj x e0 e1 hmem (by rw [hek]; exact e2) gx _ _ g0 _ _ a4 b4
          have l1 := a5.lt
          rw [a4] at h1
          rw [e4] at h2
          simp at h1 h2
          rcases hgo with e | e <;> omega
        · exact h.inj x y e1 e3 hxy g n c g2 n2 c2 h1 h2

end Go.Proofs.Ytogakignaaoklaa.dl
