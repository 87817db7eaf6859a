import Derived.Test.YtccnepenfglfoaaGreatHX
import Derived.Test.YtccnepenfglfoaaGreatCN
import Derived.Test.YtccnepenfglfoaaGreatFX
namespace Go.Proofs.YtccnepenfglfoaaGreat.hp
open Go.ChangeShapes Go.WideShapes Go.ChangeAt Go.RowKit Go.Deep Go.Maps
open Go.Conc (scase rcase)
set_option linter.unusedVariables false
set_option linter.unusedSimpArgs false

/-! ### Units that are let stand: in memory -/

def Fs (A U L C n : Nat) : Nat → Value
  | 0 => .slice (some ⟨A, 0, none⟩) n n
  | 1 => .slice (some ⟨U, 0, none⟩) (n + 1) (n + 1)
  | 2 => .slice (some ⟨L, 0, none⟩) n n
  | 3 => .chan (some C)
  | _ => .bool false
def upd (f : Nat → Nat) (i x : Nat) : Nat → Nat := fun j => if j = i then x else f j

structure Sg (M S A U L C n : Nat) (f : Nat → Nat) (buf hp : List Nat) (v : Value) (w : World) : Prop where
  ho : Ho M S (Fs A U L C n) v hp w
  lk : w.rowIs L 3 n fun i => .int .i64 (f i : Int)
  ch : ∃ s r, w.heap[C]? = some (.chan n (fi.nV buf).toArray false s r false)
  lL : L < M
  lC : C < M
  dSL : S ≠ L
  dSC : S ≠ C
  dLC : L ≠ C
theorem Ho.oth {M S : Nat} {F : Nat → Value} {v : Value} {l : List Nat} {w w' : World} (h : Ho M S F v l w) (hs : w.heap.size ≤ w'.heap.size) (e : w'.heap[S]? = w.heap[S]?) (he : ∀ g, M ≤ g → g < w.heap.size → w'.heap[g]? = w.heap[g]?) : Ho M S F v l w' :=
  ⟨h.row.of_block e, h.hv.kept fun g h1 h2 _ => he g h1 h2, h.lt, Nat.le_trans h.le hs⟩
theorem Sg.store {M S A U L C n : Nat} {f : Nat → Nat} {buf hp : List Nat} {v : Value} {w : World} (h : Sg M S A U L C n f buf hp v w) (i x : Nat) : Sg M S A U L C n (upd f i x) buf hp v (w.setCell ⟨L, i, none⟩ (.int .i64 (x : Int))) :=
  ⟨h.ho.oth (by simp) (ty.blk_oth h.dSL) fun g hg _ => ty.blk_oth (by have := h.lL; omega), (h.lk.set i _).congr fun j hj => by
    unfold upd
    by_cases e : j = i
    · simp only [if_pos e]
    · simp only [if_neg e], by obtain ⟨s, r, e⟩ := h.ch; exact ⟨s, r, (ty.blk_oth (Ne.symm h.dLC)).trans e⟩, h.lL, h.lC, h.dSL, h.dSC, h.dLC⟩
theorem blk_chan {w : World} {C k : Nat} (h : k ≠ C) (cap : Nat) (b : Array Value) (cl : Bool) (s r : Nat) (tm : Bool) : (w.setChan C cap b cl s r tm).heap[k]? = w.heap[k]? := by
  simp only [World.setChan]
  exact Array.getElem?_setIfInBounds_ne (Ne.symm h)
theorem Sg.chan {M S A U L C n : Nat} {f : Nat → Nat} {buf hp : List Nat} {v : Value} {w : World} (h : Sg M S A U L C n f buf hp v w) (buf' : List Nat) (s r : Nat) : Sg M S A U L C n f buf' hp v (w.setChan C n (fi.nV buf').toArray false s r false) :=
  ⟨h.ho.oth (by rw [Go.Conc.size_setChan]; exact Nat.le_refl _) (blk_chan h.dSC _ _ _ _ _ _) fun g hg _ => blk_chan (by have := h.lC; omega) _ _ _ _ _ _, h.lk.of_block (blk_chan h.dLC _ _ _ _ _ _),
    ⟨s, r, Go.Conc.heap_setChan _ _ _ _ _ _ _ _ (by obtain ⟨s, r, e⟩ := h.ch; exact (Array.getElem?_eq_some_iff.1 e).1)⟩, h.lL, h.lC, h.dSL, h.dSC, h.dLC⟩
theorem Oth.chan {X : Nat → Prop} {a b : World} (h : Oth X a b) {C : Nat} (hx : X C) (cap : Nat) (bf : Array Value) (cl : Bool) (s r : Nat) (tm : Bool) : Oth X a (b.setChan C cap bf cl s r tm) :=
  ⟨h.os, h.tape, h.output, by rw [Go.Conc.size_setChan]; exact h.size, fun k hk hn => (blk_chan (fun e => hn (by rw [e]; exact hx)) _ _ _ _ _ _).trans (h.block k hk hn)⟩

set_option maxRecDepth 100000 in
set_option maxHeartbeats 4000000 in
theorem lack_any {M S A U L C n : Nat} {f : Nat → Nat} {buf hp : List Nat} {v : Value} (w : World) (h : Sg M S A U L C n f buf hp v w) (i : Nat) (d : Int) (x : Nat) (hi : i < n) (hn : n ≤ 1000) (hx : (f i : Int) + d = (x : Int)) (hx6 : x ≤ 1000000) (hroom : x = 0 → buf.length < n) :
    Calls Tryz.prog 67 #[.pointer (some ⟨S, 0, none⟩), .int .i64 (i : Int), .int .i64 d] w fun e w' => e = .returned (.tuple #[]) ∧ Sg M S A U L C n (upd f i x) (if x = 0 then buf ++ [i] else buf) hp v w' ∧ Oth (fun k => k = L ∨ k = C) w w' := by
  have c2 : w.cell? ⟨S, 2, none⟩ = some (.slice (some ⟨L, 0, none⟩) n n) := h.ho.row.cell (i := 2) (by decide)
  have cl : w.cell? ⟨L, i, none⟩ = some (.int .i64 (f i : Int)) := h.lk.cell hi
  have fl := h.lk.frozen i
  have hS := h.store i x
  obtain ⟨W1, hW1⟩ : ∃ W, W = w.setCell ⟨L, i, none⟩ (.int .i64 (x : Int)) := ⟨_, rfl⟩
  rw [← hW1] at hS
  have HO1 : Hid (Oth (fun k => k = L ∨ k = C) w W1) := by show Oth _ _ _; rw [hW1]; exact (Oth.refl _ _).set (X := fun k => k = L ∨ k = C) (.inl rfl) _
  have d2 : W1.cell? ⟨S, 2, none⟩ = some (.slice (some ⟨L, 0, none⟩) n n) := hS.ho.row.cell (i := 2) (by decide)
  have d3 : W1.cell? ⟨S, 3, none⟩ = some (.chan (some C)) := hS.ho.row.cell (i := 3) (by decide)
  have dl : W1.cell? ⟨L, i, none⟩ = some (.int .i64 (x : Int)) := by have := hS.lk.cell hi; simpa [upd] using this
  have HS := Lib.hid hS
  have HW1 := Lib.hid hW1
  have hwx : IntKind.i64.wrap ((f i : Int) + d) = (x : Int) := by rw [hx, IntKind.wrap_i64]; omega
  have hi0 : (0 : Int) ≤ (i : Int) := by omega
  have hi' : (i : Int) < (n : Int) := by omega
  have HRM := Lib.hid hroom
  obtain ⟨bf, hbf⟩ : ∃ b, (if x = 0 then buf ++ [i] else buf) = b := ⟨_, rfl⟩
  rw [hbf]
  have HBF := Lib.hid hbf
  clear h hS hW1 hx hroom hbf
  refine cn.calls_of_wpN Tryz.func67 rfl ?_
  simp only [Tryz.ntmps67, List.size_toArray, List.length_cons, List.length_nil, Nat.reduceAdd, Nat.reduceSub, Array.replicate_succ,
     Array.replicate_zero, List.push_toArray, List.append_toArray, List.nil_append, List.cons_append]
  apply cn.wpN_seq_k
  intro K hK
  go_wp2
  rw [← HW1.out]
  apply cn.wpN_seq_k
  intro K hK
  clear c2 cl fl
  by_cases hx0 : x = 0
  · subst hx0
    have HBE : Hid (bf = buf ++ [i]) := HBF.out.symm.trans (if_pos rfl)
    go_wp2
    refine cn.wpN_cond rfl ?_
    simp only [if_true]
    refine cn.wpN_region ?_
    have hch := HS.out.ch
    obtain ⟨s, r, hch⟩ := hch
    have hsz : (fi.nV buf).toArray.size < n := by rw [List.size_toArray, fi.nV_len]; exact HRM.out trivial
    refine cn.SN_val (.pointer (some ⟨S, 0, none⟩)) W1 rfl rfl (by go_simp) ?_
    refine cn.SN_val (.pointer (some ⟨S, 0, none⟩)) W1 rfl rfl (by go_simp) ?_
    refine cn.SN_val (.pointer (some ⟨S, 3, none⟩)) W1 rfl rfl (by go_simp) ?_
    refine cn.SN_val (.chan (some C)) W1 rfl rfl (by go_simp) ?_
    refine cn.SN_val (.int .i64 (i : Int)) W1 rfl rfl (by go_simp) ?_
    refine cn.SN_send (c := C) (v := .int .i64 (i : Int)) (z' := .tuple #[]) rfl rfl (by go_simp; rfl) hch hsz ?_
    refine cn.SN_nil ?_
    have hpu : (fi.nV buf).toArray.push (.int .i64 (i : Int)) = (fi.nV (buf ++ [i])).toArray := by simp [fi.nV]
    rw [hpu]
    refine bodyPost_end (results_none rfl _ _ _) rfl ?_
    rw [HBE.out]
    exact ⟨rfl, HS.out.chan (buf ++ [i]) (s + 1) r, HO1.out.chan (X := fun k => k = L ∨ k = C) (.inr rfl) _ _ _ _ _ _⟩
  · have hx0' : ¬ (x : Int) = 0 := by omega
    have HBE : Hid (bf = buf) := HBF.out.symm.trans (if_neg hx0)
    go_wp2
    refine cn.wpN_cond (t := false) (by simp [Act.eval, hx0]) ?_
    simp only [if_false, Bool.false_eq_true]
    refine cn.wpN_skip ?_
    go_end0
    rw [HBE.out]
    exact ⟨rfl, HS.out, HO1.out⟩
end Go.Proofs.YtccnepenfglfoaaGreat.hp

namespace Go.Proofs.YtccnepenfglfoaaGreat.hp
open Go.ChangeShapes Go.WideShapes Go.ChangeAt Go.RowKit Go.Deep Go.Maps
open Go.Conc (scase rcase)
set_option linter.unusedVariables false
set_option linter.unusedSimpArgs false

/-! ### stand: plainly, and its walk -/

/-- One lack less. -/
def st1 (s : (Nat → Nat) × List Nat) (y : Nat) : (Nat → Nat) × List Nat := (upd s.1 y (s.1 y - 1), if s.1 y - 1 = 0 then s.2 ++ [y] else s.2)
def stA (s : (Nat → Nat) × List Nat) (B : List Nat) : (Nat → Nat) × List Nat := B.foldl st1 s
theorem stA_step (s : (Nat → Nat) × List Nat) {B : List Nat} {j y : Nat} (h : B[j]? = some y) : stA s (B.take (j + 1)) = st1 (stA s (B.take j)) y := by
  unfold stA
  rw [List.take_add_one, h]
  simp

/-- Whom a number stands behind, as it lies. -/
def Bd (U n : Nat) (Lb : Nat → List Nat) (ad : Nat → Option Addr) (cp : Nat → Nat) (w : World) : Prop := ∀ x : Nat, x ≤ n → w.cell? ⟨U, x, none⟩ = some (.slice (ad x) (Lb x).length (cp x)) ∧ ∀ (j y : Nat), (Lb x)[j]? = some y → ∃ g o, ad x = some ⟨g, o, none⟩ ∧ w.cell? ⟨g, o + j, none⟩ = some (.int .i64 (y : Int))

set_option maxRecDepth 100000 in
set_option maxHeartbeats 4000000 in
theorem stand_any {M S A U L C n : Nat} {f : Nat → Nat} {buf hp : List Nat} {v : Value} {Lb : Nat → List Nat} {ad : Nat → Option Addr} {cp : Nat → Nat} (w : World) (h : Sg M S A U L C n f buf hp v w) (hBd : ∀ W, Oth (fun k => k = L ∨ k = C) w W → Bd U n Lb ad cp W) (x : Nat) (hx : x < n) (hn : n ≤ 1000) (hl : (Lb x).length ≤ 1000000)
    (hst : ∀ (j y : Nat), (Lb x)[j]? = some y → y < n ∧ 1 ≤ (stA (f, buf) ((Lb x).take j)).1 y ∧ (stA (f, buf) ((Lb x).take j)).1 y ≤ 1000000 ∧ ((stA (f, buf) ((Lb x).take j)).1 y = 1 → (stA (f, buf) ((Lb x).take j)).2.length < n)) :
    Calls Tryz.prog 50 #[.pointer (some ⟨S, 0, none⟩), .int .i64 (x : Int)] w fun e w' => e = .returned (.tuple #[]) ∧ Sg M S A U L C n (stA (f, buf) (Lb x)).1 (stA (f, buf) (Lb x)).2 hp v w' ∧ Oth (fun k => k = L ∨ k = C) w w' := by
  have c1 : w.cell? ⟨S, 1, none⟩ = some (.slice (some ⟨U, 0, none⟩) (n + 1) (n + 1)) := h.ho.row.cell (i := 1) (by decide)
  have cx := (hBd w (Oth.refl _ _) x (by omega)).1
  have HEL : Hid (∀ W, Oth (fun k => k = L ∨ k = C) w W → ∀ (j y : Nat), (Lb x)[j]? = some y → ∃ g o, ad x = some ⟨g, o, none⟩ ∧ W.cell? ⟨g, o + j, none⟩ = some (.int .i64 (y : Int))) := fun W hW j y hy => (hBd W hW x (by omega)).2 j y hy
  have HS0 := Lib.hid h
  have HST := Lib.hid hst
  obtain ⟨a, ha⟩ : ∃ a, ad x = a := ⟨_, rfl⟩
  obtain ⟨B, hB⟩ : ∃ B, Lb x = B := ⟨_, rfl⟩
  rw [hB] at hl HST HEL cx ⊢
  rw [ha] at HEL cx
  obtain ⟨m, hm⟩ : ∃ m, B.length = m := ⟨_, rfl⟩
  have HM : Hid (B.length = m) := hm
  rw [hm] at hl cx
  have hx0 : (0 : Int) ≤ (x : Int) := by omega
  have hx' : (x : Int) < (n : Int) + 1 := by omega
  have HTA : Hid (B.take m = B) := by show _ = _; rw [← hm]; exact List.take_length
  clear h hst hBd ha hB hm
  go_enter Tryz.func50, Tryz.ntmps50
  go_upto_region 1 with fail
  go_loopw [5, 15] (fun _ jv wr => ∃ j : Nat, jv = .int .i64 (j : Int) ∧ j ≤ m ∧ Sg M S A U L C n (stA (f, buf) (B.take j)).1 (stA (f, buf) (B.take j)).2 hp v wr ∧ Oth (fun k => k = L ∨ k = C) w wr) (fun _ jv _ => m - (intOf jv).toNat)
  case atStart => exact ⟨0, rfl, Nat.zero_le _, HS0.out, Oth.refl _ _⟩
  case round =>
    obtain ⟨j, rfl, hj, hs, ho⟩ := hrel
    have HS := Lib.hid hs
    have HO := Lib.hid ho
    clear hs ho HS0
    by_cases hjm : j < m
    · have hjm' : (j : Int) < (m : Int) := by omega
      have hj0 : (0 : Int) ≤ (j : Int) := by omega
      obtain ⟨y, hy⟩ : ∃ y, B[j]? = some y := ⟨_, List.getElem?_eq_getElem (by rw [HM.out]; exact hjm)⟩
      obtain ⟨g, o, rfl, cy⟩ := HEL.out wr HO.out j y hy
      obtain ⟨h1, h2, h3, h4⟩ := HST.out j y hy
      have HLK := Lib.hid (lack_any wr HS.out y (-1) ((stA (f, buf) (B.take j)).1 y - 1) h1 hn (by omega) (by omega) (fun e => h4 (by omega)))
      have HSE : Hid (upd (stA (f, buf) (B.take j)).1 y ((stA (f, buf) (B.take j)).1 y - 1) = (stA (f, buf) (B.take (j + 1))).1) := by show _ = _; rw [stA_step _ hy]; rfl
      have HSF : Hid ((if (stA (f, buf) (B.take j)).1 y - 1 = 0 then (stA (f, buf) (B.take j)).2 ++ [y] else (stA (f, buf) (B.take j)).2) = (stA (f, buf) (B.take (j + 1))).2) := by show _ = _; rw [stA_step _ hy]; rfl
      rw [HSE.out, HSF.out] at HLK
      have hwj : IntKind.i64.wrap ((j : Int) + 1) = (j : Int) + 1 := by rw [IntKind.wrap_i64]; omega
      clear hy h1 h2 h3 h4 c1 cx HSE HSF
      go_wp2_with (go_at_call 67; refine HLK.out.mono ?_; rintro e w5 ⟨rfl, h51, h52⟩; refine Hid.out ?_)
      refine Lib.hid ?_
      have HS5 := Lib.hid h51
      have HO5 := Lib.hid (HO.out.trans h52)
      clear h51 h52 cy
      go_wp2
      go_roundw
      case rel => exact ⟨j + 1, by go_num, by omega, HS5.out, HO5.out⟩
      case measure => simp [intOf]; omega
    · have hjm' : ¬ (j : Int) < (m : Int) := by omega
      obtain rfl : j = m := by omega
      rw [HTA.out] at HS
      clear c1 cx
      go_wp2
      go_end0
      exact ⟨rfl, HS.out, HO.out⟩

end Go.Proofs.YtccnepenfglfoaaGreat.hp

namespace Go.Proofs.YtccnepenfglfoaaGreat.hp
open Go.ChangeShapes Go.WideShapes Go.ChangeAt Go.RowKit Go.Deep Go.Maps
open Go.Conc (scase rcase)
set_option linter.unusedVariables false
set_option linter.unusedSimpArgs false

/-! ### next -/

def cSz (C : Nat) (w : World) : Nat := match w.heap[C]? with
  | some (.chan _ b _ _ _ _) => b.size
  | _ => 0
theorem cSz_is {C n : Nat} {w : World} {b : Array Value} {cl : Bool} {s r : Nat} {tm : Bool} (h : w.heap[C]? = some (.chan n b cl s r tm)) : cSz C w = b.size := by unfold cSz; rw [h]
theorem Sg.sz {M S A U L C n : Nat} {f : Nat → Nat} {buf hp : List Nat} {v : Value} {w : World} (h : Sg M S A U L C n f buf hp v w) : cSz C w = buf.length := by
  obtain ⟨s, r, e⟩ := h.ch
  rw [cSz_is e, List.size_toArray, fi.nV_len]
/-- A heap that has changed. -/
theorem Sg.heap {M S A U L C n : Nat} {f : Nat → Nat} {buf hp hp' : List Nat} {v v' : Value} {w w' : World} (h : Sg M S A U L C n f buf hp v w) (hh : Ho M S (Fs A U L C n) v' hp' w') (ho : Oth (fun k => k = S ∨ v.ownBlock = some k) w w') : Sg M S A U L C n f buf hp' v' w' := by
  have hk : ∀ k, k < M → k ≠ S → w'.heap[k]? = w.heap[k]? := fun k h1 h2 => ho.block k (by have := h.ho.le; omega) fun e => by
    rcases e with e | e
    · exact h2 e
    · have := (h.ho.hv.own.lt k e).1; omega
  exact ⟨hh, h.lk.of_block (hk L h.lL (Ne.symm h.dSL)), by obtain ⟨s, r, e⟩ := h.ch; exact ⟨s, r, (hk C h.lC (Ne.symm h.dSC)).trans e⟩, h.lL, h.lC, h.dSL, h.dSC, h.dLC⟩

/-- What next has come to. -/
structure Nx (M S A U L C n : Nat) (f : Nat → Nat) (buf hp : List Nat) (v : Value) (w : World) (buf' hp' : List Nat) (v' : Value) (w' : World) : Prop where
  sg : Sg M S A U L C n f buf' hp' v' w'
  isHp : Hp hp'
  perm : (hp' ++ buf').Perm (hp ++ buf)
  oth : Oth (fun k => k = S ∨ k = C ∨ v.ownBlock = some k) w w'
  fr : v'.ownBlock = v.ownBlock ∨ ∀ g, v'.ownBlock = some g → w.heap.size ≤ g

theorem Nx.recv {M S A U L C n : Nat} {f : Nat → Nat} {buf hp : List Nat} {v : Value} {w : World} {x : Nat} {buf' hp' : List Nat} {v' : Value} {w' : World} (h : Nx M S A U L C n f buf hp v w (x :: buf') hp' v' w') (s r : Nat) :
    Sg M S A U L C n f buf' hp' v' (w'.setChan C n (fi.nV buf').toArray false s r false) ∧ Oth (fun k => k = S ∨ k = C ∨ v.ownBlock = some k) w (w'.setChan C n (fi.nV buf').toArray false s r false) :=
  ⟨h.sg.chan buf' s r, h.oth.chan (X := fun k => k = S ∨ k = C ∨ v.ownBlock = some k) (.inr (.inl rfl)) _ _ _ _ _ _⟩

theorem Nx.push {M S A U L C n : Nat} {f : Nat → Nat} {buf hp : List Nat} {v : Value} {w : World} {x : Nat} {buf' hp' hp2 : List Nat} {v' v2 : Value} {w' w1 w2 : World} (h : Nx M S A U L C n f buf hp v w (x :: buf') hp' v' w') (h1 : Sg M S A U L C n f buf' hp' v' w1) (h2 : Oth (fun k => k = S ∨ k = C ∨ v.ownBlock = some k) w w1) (hs : w'.heap.size ≤ w1.heap.size)
    (h3 : Ho M S (Fs A U L C n) v2 hp2 w2) (h4 : hp2.Perm (x :: hp')) (h5 : Hp hp2) (h6 : Oth (fun k => k = S ∨ v'.ownBlock = some k) w1 w2) (h7 : v2.ownBlock = v'.ownBlock ∨ ∀ g, v2.ownBlock = some g → w1.heap.size ≤ g) : Nx M S A U L C n f buf hp v w buf' hp2 v2 w2 := by
  refine ⟨h1.heap h3 h6, h5, ?_, h2.then h6 fun i hi e => ?_, ?_⟩
  · exact (h4.append_right buf').trans ((List.perm_middle (a := x) (l₁ := hp') (l₂ := buf')).symm.trans h.perm)
  · rcases e with e | e
    · exact .inl e
    · rcases h.fr with h8 | h8
      · exact .inr (.inr (by rw [← h8]; exact e))
      · have := h8 i e; omega
  · rcases h7 with e | e
    · rw [e]; exact h.fr
    · exact .inr fun g hg => by have := e g hg; have := h2.size; omega

/-- What next answers. -/
def NxR (M S A U L C n : Nat) (f : Nat → Nat) (buf hp : List Nat) (v : Value) (w : World) (e : Ending) (w' : World) : Prop := (hp = [] ∧ buf = [] ∧ e = .returned (.tuple #[.int .i64 0, .bool false]) ∧ Oth (fun k => k = S ∨ k = C ∨ v.ownBlock = some k) w w') ∨ ∃ x hp' v', e = .returned (.tuple #[.int .i64 ((x : Nat) : Int), .bool true]) ∧ (hp ++ buf).Perm (x :: hp') ∧ (∀ y ∈ hp ++ buf, x ≤ y) ∧ Hp hp' ∧ Sg M S A U L C n f [] hp' v' w' ∧ Oth (fun k => k = S ∨ k = C ∨ v.ownBlock = some k) w w' ∧ (v'.ownBlock = v.ownBlock ∨ ∀ g, v'.ownBlock = some g → w.heap.size ≤ g)
/-- How its rounds begin. -/
def NxI (M S A U L C n : Nat) (f : Nat → Nat) (buf hp : List Nat) (v : Value) (w : World) (a : Act) (wr : World) : Prop := ∃ u4 u5 u6 u7 u8 u9 u10 u11 u12 u13 u14 u15 u16 u17 u18 u19 u20 u21 u22 u23 buf' hp' v', a = { tmps := #[.pointer (some ⟨S, 0, none⟩), undef, .int .i64 0, .bool false, u4, u5, u6, u7, u8, u9, u10, u11, u12, u13, u14, u15, u16, u17, u18, u19, u20, u21, u22, u23], defers := [] } ∧ Nx M S A U L C n f buf hp v w buf' hp' v' wr

set_option maxRecDepth 100000 in
set_option maxHeartbeats 4000000 in
theorem next_any {M S A U L C n : Nat} {f : Nat → Nat} {buf hp : List Nat} {v : Value} (w : World) (h : Sg M S A U L C n f buf hp v w) (hh : Hp hp) (hl : hp.length + buf.length ≤ 1000) :
    Calls Tryz.prog 49 #[.pointer (some ⟨S, 0, none⟩)] w fun e w' => NxR M S A U L C n f buf hp v w e w' := by
  have HN0 : Hid (Nx M S A U L C n f buf hp v w buf hp v w) := ⟨h, hh, List.Perm.refl _, Oth.refl _ _, .inl rfl⟩
  clear h hh
  refine cn.calls_of_wpN Tryz.func49 rfl ?_
  simp only [Tryz.ntmps49, List.size_toArray, List.length_cons, List.length_nil, Nat.reduceAdd, Nat.reduceSub, Array.replicate_succ,
     Array.replicate_zero, List.push_toArray, List.append_toArray, List.nil_append, List.cons_append]
  apply cn.wpN_seq_k
  intro K hK
  go_wp2
  refine cn.wpN_block ?_
  refine cn.wpN_loop (NxI M S A U L C n f buf hp v w) (fun _ wr => cSz C wr) ?_ ?_
  · exact ⟨_, _, _, _, _, _, _, _, _, _, _, _, _, _, _, _, _, _, _, _, buf, hp, v, rfl, HN0.out⟩
  rintro a wr ⟨u4, u5, u6, u7, u8, u9, u10, u11, u12, u13, u14, u15, u16, u17, u18, u19, u20, u21, u22, u23, buf', hp', v', rfl, hnx⟩
  have HNX := Lib.hid hnx
  have c3 : wr.cell? ⟨S, 3, none⟩ = some (.chan (some C)) := hnx.sg.ho.row.cell (i := 3) (by decide)
  have hln : hp'.length + buf'.length ≤ 1000 := by have := hnx.perm.length_eq; simp only [List.length_append] at this; omega
  clear hnx HN0
  refine cn.wpN_block ?_
  generalize hQ : Exit.inBlock 1 _ = Q
  have HQN : Hid (∀ a' w', NxI M S A U L C n f buf hp v w a' w' → cSz C w' < cSz C wr → Q .normal a' w') := by
    intro a' w' h1 h2
    subst hQ
    exact ⟨h1, h2⟩
  have HQR : Hid (∀ a' w', bodyPost Tryz.prog Tryz.f49 (NxR M S A U L C n f buf hp v w) .ret a' w' → Q .ret a' w') := by
    intro a' w' h1
    subst hQ
    exact h1
  clear hQ
  have HSZ := Lib.hid HNX.out.sg.sz
  apply cn.wpN_seq_k
  intro K hK
  go_wp2
  refine cn.wpN_seq ?_
  refine cn.wpN_region ?_
  obtain ⟨s, r, hch⟩ := HNX.out.sg.ch
  cases buf' with
  | nil =>
    have hch' : wr.heap[C]? = some (.chan n #[] false s r false) := hch
    refine cn.SN_deft (c := C) (z := .int .i64 0) rfl rfl (by go_simp; rfl) hch' ?_
    refine cn.SN_val (.int .i64 (-1)) wr rfl rfl (by go_simp) ?_
    refine cn.SN_val (.bool false) wr rfl rfl (by go_simp) ?_
    refine cn.SN_nil ?_
    simp only [aP, Exit.then]
    refine cn.wpN_block ?_
    refine cn.wpN_cond rfl ?_
    simp only [if_false, Bool.false_eq_true]
    refine cn.wpN_of ?_
    show Code.wp _ _ _ ({ tmps := #[.pointer (some ⟨S, 0, none⟩), undef, .int .i64 0, .bool false, u4, .pointer (some ⟨S, 0, none⟩), .pointer (some ⟨S, 0, none⟩), .pointer (some ⟨S, 3, none⟩), .chan (some C), .tuple #[goInt (-1), .bool false, .int .i64 0], .int .i64 (-1), .bool false, u12, u13, u14, u15, u16, u17, u18, u19, u20, u21, u22, u23], defers := [] } : Act) wr
    clear hch hch' HSZ HQN
    cases hp' with
    | nil =>
      have HPO := Lib.hid (pop_none M S _ v' wr HNX.out.sg.ho)
      have HEN : Hid (hp = [] ∧ buf = []) := by have := HNX.out.perm.length_eq; simp at this; exact ⟨List.eq_nil_of_length_eq_zero (by omega), List.eq_nil_of_length_eq_zero (by omega)⟩
      go_wp2_with (go_at_call 69; refine HPO.out.mono ?_; rintro e w5 ⟨rfl, rfl⟩; refine Hid.out ?_)
      refine Lib.hid ?_
      go_wp2
      refine HQR.out _ _ ?_
      go_ret2
      exact .inl ⟨HEN.out.1, HEN.out.2, rfl, HNX.out.oth⟩
    | cons y hp' =>
      have HPO := Lib.hid (pop_any M S _ v' (y :: hp') wr HNX.out.sg.ho HNX.out.isHp (by simp) (by simp at hln ⊢; omega))
      generalize hY : y :: hp' = Y at *
      go_wp2_with (go_at_call 69; refine HPO.out.mono ?_; rintro e w5 ⟨rfl, v5, l5, h51, h52, h53, h54, h55⟩; refine Hid.out ?_)
      refine Lib.hid ?_
      have HEN : Hid (NxR M S A U L C n f buf hp v w (.returned (.tuple #[.int .i64 ((gt Y 0 : Nat) : Int), .bool true])) w5) := by
        have hpm := HNX.out.perm
        rw [List.append_nil] at hpm
        refine .inr ⟨gt Y 0, l5, v5, rfl, hpm.symm.trans h52, fun z hz => least_of h52 HNX.out.isHp.min z (hpm.mem_iff.2 hz), h53, HNX.out.sg.heap h51 h54, HNX.out.oth.then h54 fun i hi e => ?_, ?_⟩
        · rcases e with e | e
          · exact .inl e
          · rcases HNX.out.fr with h8 | h8
            · exact .inr (.inr (by rw [← h8]; exact e))
            · have := h8 i e; omega
        · rw [h55]; exact HNX.out.fr
      clear h51 h52 h53 h54 h55
      go_wp2
      refine HQR.out _ _ ?_
      go_ret2
      exact HEN.out
  | cons x buf' =>
    have hch' : 0 < (fi.nV (x :: buf')).toArray.size := by rw [List.size_toArray, fi.nV_len]; simp
    refine cn.SN_recv (c := C) (z := .int .i64 0) rfl rfl (by go_simp; rfl) hch hch' ?_
    have hg0 : (fi.nV (x :: buf')).toArray.getD 0 undef = .int .i64 (x : Int) := by simp [fi.nV]
    have hg1 : (fi.nV (x :: buf')).toArray.extract 1 (fi.nV (x :: buf')).toArray.size = (fi.nV buf').toArray := by
      simp [fi.nV]
      exact List.take_of_length_le (by simp)
    rw [hg0, hg1]
    obtain ⟨h1, h2⟩ := HNX.out.recv s (r + 1)
    obtain ⟨W1, hW1⟩ : ∃ W, wr.setChan C n (fi.nV buf').toArray false s (r + 1) false = W := ⟨_, rfl⟩
    have hs1 : wr.heap.size ≤ W1.heap.size := by rw [← hW1, Go.Conc.size_setChan]; exact Nat.le_refl _
    rw [hW1] at h1 h2 ⊢
    clear hW1 hg0 hg1 hch hch'
    refine cn.SN_val (.int .i64 0) W1 rfl rfl (by go_simp) ?_
    refine cn.SN_val (.bool true) W1 rfl rfl (by go_simp) ?_
    refine cn.SN_nil ?_
    simp only [aP, Exit.then]
    refine cn.wpN_block ?_
    refine cn.wpN_cond rfl ?_
    simp only [if_true]
    refine cn.wpN_of ?_
    show Code.wp _ _ _ ({ tmps := #[.pointer (some ⟨S, 0, none⟩), undef, .int .i64 0, .bool false, u4, .pointer (some ⟨S, 0, none⟩), .pointer (some ⟨S, 0, none⟩), .pointer (some ⟨S, 3, none⟩), .chan (some C), .tuple #[goInt 0, .bool true, .int .i64 (x : Int)], .int .i64 0, .bool true, u12, u13, u14, u15, u16, u17, u18, u19, u20, u21, u22, u23], defers := [] } : Act) W1
    have HPU := Lib.hid (push_any M S _ v' hp' x W1 h1.ho HNX.out.isHp (by simp at hln; omega))
    have HNP := Lib.hid fun (hp2 : List Nat) (v2 : Value) (w2 : World) a b c d e => HNX.out.push (hp2 := hp2) (v2 := v2) (w2 := w2) h1 h2 hs1 a b c d e
    clear h1 h2 hs1 HQR
    go_wp2_with (go_at_call 68; refine HPU.out.mono ?_; rintro e w5 ⟨rfl, v5, l5, h51, h52, h53, h54, h55⟩; refine Hid.out ?_)
    refine Lib.hid ?_
    have HN5 := Lib.hid (HNP.out l5 v5 w5 h51 h52 h53 h54 h55)
    have HZ5 := Lib.hid HN5.out.sg.sz
    clear h51 h52 h53 h54 h55
    go_wp2
    refine HQN.out _ _ ⟨_, _, _, _, _, _, _, _, _, _, _, _, _, _, _, _, _, _, _, _, buf', l5, v5, rfl, HN5.out⟩ ?_
    rw [HSZ.out, HZ5.out]
    simp
end Go.Proofs.YtccnepenfglfoaaGreat.hp

