import Derived.Test.YtdddplhfhpghkaaHQ
import Derived.Test.YtdddplhfhpghkaaCN
import Derived.Test.YtdddplhfhpghkaaFX
namespace Go.Proofs.Ytdddplhfhpghkaa.hp
open Go.ChangeShapes Go.WideShapes Go.ChangeAt Go.RowKit Go.Deep Go.Maps
open Go.Conc (scase rcase)
set_option linter.unusedVariables false
set_option linter.unusedSimpArgs false

/-! ### Units that are let stand: in memory -/

def Fs (A U L C n : Nat) : Nat → Value
  | 0 => .slice (some ⟨A, 0, none⟩) n n
  | 1 => .slice (some ⟨U, 0, none⟩) (n + 1) (n + 1)
  | 2 => .slice (some ⟨L, 0, none⟩) n n
  | 3 => .chan (some C)
  | _ => .bool false
def upd (f : Nat → Nat) (i x : Nat) : Nat → Nat := fun j => if j = i then x else f j

structure Sg (M S A U L C n : Nat) (f : Nat → Nat) (buf hp : List Nat) (v : Value) (w : World) : Prop where
  ho : Ho M S (Fs A U L C n) v hp w
  lk : w.rowIs L 3 n fun i => .int .i64 (f i : Int)
  ch : ∃ s r, w.heap[C]? = some (.chan n (fi.nV buf).toArray false s r false)
  lL : L < M
  lC : C < M
  dSL : S ≠ L
  dSC : S ≠ C
  dLC : L ≠ C
theorem Ho.oth {M S : Nat} {F : Nat → Value} {v : Value} {l : List Nat} {w w' : World} (h : Ho M S F v l w) (hs : w.heap.size ≤ w'.heap.size) (e : w'.heap[S]? = w.heap[S]?) (he : ∀ g, M ≤ g → g < w.heap.size → w'.heap[g]? = w.heap[g]?) : Ho M S F v l w' :=
  ⟨h.row.of_block e, h.hv.kept fun g h1 h2 _ => he g h1 h2, h.lt, Nat.le_trans h.le hs⟩
theorem Sg.store {M S A U L C n : Nat} {f : Nat → Nat} {buf hp : List Nat} {v : Value} {w : World} (h : Sg M S A U L C n f buf hp v w) (i x : Nat) : Sg M S A U L C n (upd f i x) buf hp v (w.setCell ⟨L, i, none⟩ (.int .i64 (x : Int))) :=
  ⟨h.ho.oth (by simp) (ty.blk_oth h.dSL) fun g hg _ => ty.blk_oth (by have := h.lL; omega), (h.lk.set i _).congr fun j hj => by
    unfold upd
    by_cases e : j = i
    · simp only [if_pos e]
    · simp only [if_neg e], by obtain ⟨s, r, e⟩ := h.ch; exact ⟨s, r, (ty.blk_oth (Ne.symm h.dLC)).trans e⟩, h.lL, h.lC, h.dSL, h.dSC, h.dLC⟩
theorem blk_chan {w : World} {C k : Nat} (h : k ≠ C) (cap : Nat) (b : Array Value) (cl : Bool) (s r : Nat) (tm : Bool) : (w.setChan C cap b cl s r tm).heap[k]? = w.heap[k]? := by
  simp only [World.setChan]
  exact Array.getElem?_setIfInBounds_ne (Ne.symm h)
theorem Sg.chan {M S A U L C n : Nat} {f : Nat → Nat} {buf hp : List Nat} {v : Value} {w : World} (h : Sg M S A U L C n f buf hp v w) (buf' : List Nat) (s r : Nat) : Sg M S A U L C n f buf' hp v (w.setChan C n (fi.nV buf').toArray false s r false) :=
  ⟨h.ho.oth (by rw [Go.Conc.size_setChan]; exact Nat.le_refl _) (blk_chan h.dSC _ _ _ _ _ _) fun g hg _ => blk_chan (by have := h.lC; omega) _ _ _ _ _ _, h.lk.of_block (blk_chan h.dLC _ _ _ _ _ _),
    ⟨s, r, Go.Conc.heap_setChan _ _ _ _ _ _ _ _ (by obtain ⟨s, r, e⟩ := h.ch; exact (Array.getElem?_eq_some_iff.1 e).1)⟩, h.lL, h.lC, h.dSL, h.dSC, h.dLC⟩
theorem Oth.chan {X : Nat → Prop} {a b : World} (h : Oth X a b) {C : Nat} (hx : X C) (cap : Nat) (bf : Array Value) (cl : Bool) (s r : Nat) (tm : Bool) : Oth X a (b.setChan C cap bf cl s r tm) :=
  ⟨h.os, h.tape, h.output, by rw [Go.Conc.size_setChan]; exact h.size, fun k hk hn => (blk_chan (fun e => hn (by rw [e]; exact hx)) _ _ _ _ _ _).trans (h.block k hk hn)⟩

set_option maxRecDepth 100000 in
set_option maxHeartbeats 4000000 in
theorem lack_any {M S A U L C n : Nat} {f : Nat → Nat} {buf hp : List Nat} {v : Value} (w : World) (h : Sg M S A U L C n f buf hp v w) (i : Nat) (d : Int) (x : Nat) (hi : i < n) (hn : n ≤ 1000) (hx : (f i : Int) + d = (x : Int)) (hx6 : x ≤ 1000000) (hroom : x = 0 → buf.length < n) :
    Calls Try.prog 87 #[.pointer (some ⟨S, 0, none⟩), .int .i64 (i : Int), .int .i64 d] w fun e w' => e = .returned (.tuple #[]) ∧ Sg M S A U L C n (upd f i x) (if x = 0 then buf ++ [i] else buf) hp v w' ∧ Oth (fun k => k = L ∨ k = C) w w' := by
  have c2 : w.cell? ⟨S, 2, none⟩ = some (.slice (some ⟨L, 0, none⟩) n n) := h.ho.row.cell (i := 2) (by decide)
  have cl : w.cell? ⟨L, i, none⟩ = some (.int .i64 (f i : Int)) := h.lk.cell hi
  have fl := h.lk.frozen i
  have hS := h.store i x
  obtain ⟨W1, hW1⟩ : ∃ W, W = w.setCell ⟨L, i, none⟩ (.int .i64 (x : Int)) := ⟨_, rfl⟩
  rw [← hW1] at hS
  have HO1 : Hid (Oth (fun k => k = L ∨ k = C) w W1) := by show Oth _ _ _; rw [hW1]; exact (Oth.refl _ _).set (X := fun k => k = L ∨ k = C) (.inl rfl) _
  have d2 : W1.cell? ⟨S, 2, none⟩ = some (.slice (some ⟨L, 0, none⟩) n n) := hS.ho.row.cell (i := 2) (by decide)
  have d3 : W1.cell? ⟨S, 3, none⟩ = some (.chan (some C)) := hS.ho.row.cell (i := 3) (by decide)
  have dl : W1.cell? ⟨L, i, none⟩ = some (.int .i64 (x : Int)) := by have := hS.lk.cell hi; simpa [upd] using this
  have HS := Lib.hid hS
  have HW1 := Lib.hid hW1
  have hwx : IntKind.i64.wrap ((f i : Int) + d) = (x : Int) := by rw [hx, IntKind.wrap_i64]; omega
  have hi0 : (0 : Int) ≤ (i : Int) := by omega
  have hi' : (i : Int) < (n : Int) := by omega
  have HRM := Lib.hid hroom
  obtain ⟨bf, hbf⟩ : ∃ b, (if x = 0 then buf ++ [i] else buf) = b := ⟨_, rfl⟩
  rw [hbf]
  have HBF := Lib.hid hbf
  clear h hS hW1 hx hroom hbf
  refine cn.calls_of_wpN Try.func87 rfl ?_
  simp only [Try.ntmps87, List.size_toArray, List.length_cons, List.length_nil, Nat.reduceAdd, Nat.reduceSub, Array.replicate_succ,
     Array.replicate_zero, List.push_toArray, List.append_toArray, List.nil_append, List.cons_append]
  apply cn.wpN_seq_k
  intro K hK
  go_wp2
  rw [← HW1.out]
  apply cn.wpN_seq_k
  intro K hK
  clear c2 cl fl
  by_cases hx0 : x = 0
  · subst hx0
    have HBE : Hid (bf = buf ++ [i]) := HBF.out.symm.trans (if_pos rfl)
    go_wp2
    refine cn.wpN_cond rfl ?_
    simp only [if_true]
    refine cn.wpN_region ?_
    have hch := HS.out.ch
    obtain ⟨s, r, hch⟩ := hch
    have hsz : (fi.nV buf).toArray.size < n := by rw [List.size_toArray, fi.nV_len]; exact HRM.out trivial
    refine cn.SN_val (.pointer (some ⟨S, 0, none⟩)) W1 rfl rfl (by go_simp) ?_
    refine cn.SN_val (.pointer (some ⟨S, 0, none⟩)) W1 rfl rfl (by go_simp) ?_
    refine cn.SN_val (.pointer (some ⟨S, 3, none⟩)) W1 rfl rfl (by go_simp) ?_
    refine cn.SN_val (.chan (some C)) W1 rfl rfl (by go_simp) ?_
    refine cn.SN_val (.int .i64 (i : Int)) W1 rfl rfl (by go_simp) ?_
    refine cn.SN_send (c := C) (v := .int .i64 (i : Int)) (z' := .tuple #[]) rfl rfl (by go_simp; rfl) hch hsz ?_
    refine cn.SN_nil ?_
    have hpu : (fi.nV buf).toArray.push (.int .i64 (i : Int)) = (fi.nV (buf ++ [i])).toArray := by simp [fi.nV]
    rw [hpu]
    refine bodyPost_end (results_none rfl _ _ _) rfl ?_
    rw [HBE.out]
    exact ⟨rfl, HS.out.chan (buf ++ [i]) (s + 1) r, HO1.out.chan (X := fun k => k = L ∨ k = C) (.inr rfl) _ _ _ _ _ _⟩
  · have hx0' : ¬ (x : Int) = 0 := by omega
    have HBE : Hid (bf = buf) := HBF.out.symm.trans (if_neg hx0)
    go_wp2
    refine cn.wpN_cond (t := false) (by simp [Act.eval, hx0]) ?_
    simp only [if_false, Bool.false_eq_true]
    refine cn.wpN_skip ?_
    go_end0
    rw [HBE.out]
    exact ⟨rfl, HS.out, HO1.out⟩
end Go.Proofs.Ytdddplhfhpghkaa.hp
