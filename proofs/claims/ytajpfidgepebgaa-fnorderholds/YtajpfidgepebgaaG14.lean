import Derived.Test.YtajpfidgepebgaaG13
import Derived.Test.YtajpfidgepebgaaG08
import Derived.Test.YtajpfidgepebgaaRows
import Derived.Test.YtajpfidgepebgaaG01
import Derived.Lib.Strings
import Derived.Lib.Walk
import Derived.Lib.BufferWrite
import Derived.Lib.UnsafeStr
import Derived.Lib.Hide
import Derived.Laws.MakeOwn
import Derived.Test.YtajpfidgepebgaaG04
namespace Go.Proofs.Ytajpfidgepebgaa.hp
open Go.ChangeShapes Go.WideShapes Go.ChangeAt Go.RowKit Go.Deep Go.Maps
open Go.Conc (scase rcase)
set_option linter.unusedVariables false
set_option linter.unusedSimpArgs false

/-! ### stand: plainly, and its walk -/

/-- One lack less. -/
def st1 (s : (Nat → Nat) × List Nat) (y : Nat) : (Nat → Nat) × List Nat := (upd s.1 y (s.1 y - 1), if s.1 y - 1 = 0 then s.2 ++ [y] else s.2)
def stA (s : (Nat → Nat) × List Nat) (B : List Nat) : (Nat → Nat) × List Nat := B.foldl st1 s
theorem stA_step (s : (Nat → Nat) × List Nat) {B : List Nat} {j y : Nat} (h : B[j]? = some y) : stA s (B.take (j + 1)) = st1 (stA s (B.take j)) y := by
  unfold stA
  rw [List.take_add_one, h]
  simp

/-- Whom a number stands behind, as it lies. -/
def Bd (U n : Nat) (Lb : Nat → List Nat) (ad : Nat → Option Addr) (cp : Nat → Nat) (w : World) : Prop := ∀ x : Nat, x ≤ n → w.cell? ⟨U, x, none⟩ = some (.slice (ad x) (Lb x).length (cp x)) ∧ ∀ (j y : Nat), (Lb x)[j]? = some y → ∃ g o, ad x = some ⟨g, o, none⟩ ∧ w.cell? ⟨g, o + j, none⟩ = some (.int .i64 (y : Int))

set_option maxRecDepth 100000 in
set_option maxHeartbeats 4000000 in
theorem stand_any {M S A U L C n : Nat} {f : Nat → Nat} {buf hp : List Nat} {v : Value} {Lb : Nat → List Nat} {ad : Nat → Option Addr} {cp : Nat → Nat} (w : World) (h : Sg M S A U L C n f buf hp v w) (hBd : ∀ W, Oth (fun k => k = L ∨ k = C) w W → Bd U n Lb ad cp W) (x : Nat) (hx : x < n) (hn : n ≤ 1000) (hl : (Lb x).length ≤ 1000000)
    (hst : ∀ (j y : Nat), (Lb x)[j]? = some y → y < n ∧ 1 ≤ (stA (f, buf) ((Lb x).take j)).1 y ∧ (stA (f, buf) ((Lb x).take j)).1 y ≤ 1000000 ∧ ((stA (f, buf) ((Lb x).take j)).1 y = 1 → (stA (f, buf) ((Lb x).take j)).2.length < n)) :
    Calls Try.prog 38 #[.pointer (some ⟨S, 0, none⟩), .int .i64 (x : Int)] w fun e w' => e = .returned (.tuple #[]) ∧ Sg M S A U L C n (stA (f, buf) (Lb x)).1 (stA (f, buf) (Lb x)).2 hp v w' ∧ Oth (fun k => k = L ∨ k = C) w w' := by
  have c1 : w.cell? ⟨S, 1, none⟩ = some (.slice (some ⟨U, 0, none⟩) (n + 1) (n + 1)) := h.ho.row.cell (i := 1) (by decide)
  have cx := (hBd w (Oth.refl _ _) x (by omega)).1
  have HEL : Hid (∀ W, Oth (fun k => k = L ∨ k = C) w W → ∀ (j y : Nat), (Lb x)[j]? = some y → ∃ g o, ad x = some ⟨g, o, none⟩ ∧ W.cell? ⟨g, o + j, none⟩ = some (.int .i64 (y : Int))) := fun W hW j y hy => (hBd W hW x (by omega)).2 j y hy
  have HS0 := Lib.hid h
  have HST := Lib.hid hst
  obtain ⟨a, ha⟩ : ∃ a, ad x = a := ⟨_, rfl⟩
  obtain ⟨B, hB⟩ : ∃ B, Lb x = B := ⟨_, rfl⟩
  rw [hB] at hl HST HEL cx ⊢
  rw [ha] at HEL cx
  obtain ⟨m, hm⟩ : ∃ m, B.length = m := ⟨_, rfl⟩
  have HM : Hid (B.length = m) := hm
  rw [hm] at hl cx
  have hx0 : (0 : Int) ≤ (x : Int) := by omega
  have hx' : (x : Int) < (n : Int) + 1 := by omega
  have HTA : Hid (B.take m = B) := by show _ = _; rw [← hm]; exact List.take_length
  clear h hst hBd ha hB hm
  go_enter Try.func38, Try.ntmps38
  go_upto_region 1 with fail
  go_loopw [5, 15] (fun _ jv wr => ∃ j : Nat, jv = .int .i64 (j : Int) ∧ j ≤ m ∧ Sg M S A U L C n (stA (f, buf) (B.take j)).1 (stA (f, buf) (B.take j)).2 hp v wr ∧ Oth (fun k => k = L ∨ k = C) w wr) (fun _ jv _ => m - (intOf jv).toNat)
  case atStart => exact ⟨0, rfl, Nat.zero_le _, HS0.out, Oth.refl _ _⟩
  case round =>
    obtain ⟨j, rfl, hj, hs, ho⟩ := hrel
    have HS := Lib.hid hs
    have HO := Lib.hid ho
    clear hs ho HS0
    by_cases hjm : j < m
    · have hjm' : (j : Int) < (m : Int) := by omega
      have hj0 : (0 : Int) ≤ (j : Int) := by omega
      obtain ⟨y, hy⟩ : ∃ y, B[j]? = some y := ⟨_, List.getElem?_eq_getElem (by rw [HM.out]; exact hjm)⟩
      obtain ⟨g, o, rfl, cy⟩ := HEL.out wr HO.out j y hy
      obtain ⟨h1, h2, h3, h4⟩ := HST.out j y hy
      have HLK := Lib.hid (lack_any wr HS.out y (-1) ((stA (f, buf) (B.take j)).1 y - 1) h1 hn (by omega) (by omega) (fun e => h4 (by omega)))
      have HSE : Hid (upd (stA (f, buf) (B.take j)).1 y ((stA (f, buf) (B.take j)).1 y - 1) = (stA (f, buf) (B.take (j + 1))).1) := by show _ = _; rw [stA_step _ hy]; rfl
      have HSF : Hid ((if (stA (f, buf) (B.take j)).1 y - 1 = 0 then (stA (f, buf) (B.take j)).2 ++ [y] else (stA (f, buf) (B.take j)).2) = (stA (f, buf) (B.take (j + 1))).2) := by show _ = _; rw [stA_step _ hy]; rfl
      rw [HSE.out, HSF.out] at HLK
      have hwj : IntKind.i64.wrap ((j : Int) + 1) = (j : Int) + 1 := by rw [IntKind.wrap_i64]; omega
      clear hy h1 h2 h3 h4 c1 cx HSE HSF
      go_wp2_with (go_at_call 58; refine HLK.out.mono ?_; rintro e w5 ⟨rfl, h51, h52⟩; refine Hid.out ?_)
      refine Lib.hid ?_
      have HS5 := Lib.hid h51
      have HO5 := Lib.hid (HO.out.trans h52)
      clear h51 h52 cy
      go_wp2
      go_roundw
      case rel => exact ⟨j + 1, by go_num, by omega, HS5.out, HO5.out⟩
      case measure => simp [intOf]; omega
    · have hjm' : ¬ (j : Int) < (m : Int) := by omega
      obtain rfl : j = m := by omega
      rw [HTA.out] at HS
      clear c1 cx
      go_wp2
      go_end0
      exact ⟨rfl, HS.out, HO.out⟩

end Go.Proofs.Ytajpfidgepebgaa.hp

namespace Go.Proofs.Ytajpfidgepebgaa.hp
open Go.ChangeShapes Go.WideShapes Go.ChangeAt Go.RowKit Go.Deep Go.Maps
open Go.Conc (scase rcase)
set_option linter.unusedVariables false
set_option linter.unusedSimpArgs false

/-! ### next -/

def cSz (C : Nat) (w : World) : Nat := match w.heap[C]? with
  | some (.chan _ b _ _ _ _) => b.size
  | _ => 0
theorem cSz_is {C n : Nat} {w : World} {b : Array Value} {cl : Bool} {s r : Nat} {tm : Bool} (h : w.heap[C]? = some (.chan n b cl s r tm)) : cSz C w = b.size := by unfold cSz; rw [h]
theorem Sg.sz {M S A U L C n : Nat} {f : Nat → Nat} {buf hp : List Nat} {v : Value} {w : World} (h : Sg M S A U L C n f buf hp v w) : cSz C w = buf.length := by
  obtain ⟨s, r, e⟩ := h.ch
  rw [cSz_is e, List.size_toArray, fi.nV_len]
/-- A heap that has changed. -/
theorem Sg.heap {M S A U L C n : Nat} {f : Nat → Nat} {buf hp hp' : List Nat} {v v' : Value} {w w' : World} (h : Sg M S A U L C n f buf hp v w) (hh : Ho M S (Fs A U L C n) v' hp' w') (ho : Oth (fun k => k = S ∨ v.ownBlock = some k) w w') : Sg M S A U L C n f buf hp' v' w' := by
  have hk : ∀ k, k < M → k ≠ S → w'.heap[k]? = w.heap[k]? := fun k h1 h2 => ho.block k (by have := h.ho.le; omega) fun e => by
    rcases e with e | e
    · exact h2 e
    · have := (h.ho.hv.own.lt k e).1; omega
  exact ⟨hh, h.lk.of_block (hk L h.lL (Ne.symm h.dSL)), by obtain ⟨s, r, e⟩ := h.ch; exact ⟨s, r, (hk C h.lC (Ne.symm h.dSC)).trans e⟩, h.lL, h.lC, h.dSL, h.dSC, h.dLC⟩

/-- What next has come to. -/
structure Nx (M S A U L C n : Nat) (f : Nat → Nat) (buf hp : List Nat) (v : Value) (w : World) (buf' hp' : List Nat) (v' : Value) (w' : World) : Prop where
  sg : Sg M S A U L C n f buf' hp' v' w'
  isHp : Hp hp'
  perm : (hp' ++ buf').Perm (hp ++ buf)
  oth : Oth (fun k => k = S ∨ k = C ∨ v.ownBlock = some k) w w'
  fr : v'.ownBlock = v.ownBlock ∨ ∀ g, v'.ownBlock = some g → w.heap.size ≤ g

theorem Nx.recv {M S A U L C n : Nat} {f : Nat → Nat} {buf hp : List Nat} {v : Value} {w : World} {x : Nat} {buf' hp' : List Nat} {v' : Value} {w' : World} (h : Nx M S A U L C n f buf hp v w (x :: buf') hp' v' w') (s r : Nat) :
    Sg M S A U L C n f buf' hp' v' (w'.setChan C n (fi.nV buf').toArray false s r false) ∧ Oth (fun k => k = S ∨ k = C ∨ v.ownBlock = some k) w (w'.setChan C n (fi.nV buf').toArray false s r false) :=
  ⟨h.sg.chan buf' s r, h.oth.chan (X := fun k => k = S ∨ k = C ∨ v.ownBlock = some k) (.inr (.inl rfl)) _ _ _ _ _ _⟩

theorem Nx.push {M S A U L C n : Nat} {f : Nat → Nat} {buf hp : List Nat} {v : Value} {w : World} {x : Nat} {buf' hp' hp2 : List Nat} {v' v2 : Value} {w' w1 w2 : World} (h : Nx M S A U L C n f buf hp v w (x :: buf') hp' v' w') (h1 : Sg M S A U L C n f buf' hp' v' w1) (h2 : Oth (fun k => k = S ∨ k = C ∨ v.ownBlock = some k) w w1) (hs : w'.heap.size ≤ w1.heap.size)
    (h3 : Ho M S (Fs A U L C n) v2 hp2 w2) (h4 : hp2.Perm (x :: hp')) (h5 : Hp hp2) (h6 : Oth (fun k => k = S ∨ v'.ownBlock = some k) w1 w2) (h7 : v2.ownBlock = v'.ownBlock ∨ ∀ g, v2.ownBlock = some g → w1.heap.size ≤ g) : Nx M S A U L C n f buf hp v w buf' hp2 v2 w2 := by
  refine ⟨h1.heap h3 h6, h5, ?_, h2.then h6 fun i hi e => ?_, ?_⟩
  · exact (h4.append_right buf').trans ((List.perm_middle (a := x) (l₁ := hp') (l₂ := buf')).symm.trans h.perm)
  · rcases e with e | e
    · exact .inl e
    · rcases h.fr with h8 | h8
      · exact .inr (.inr (by rw [← h8]; exact e))
      · have := h8 i e; omega
  · rcases h7 with e | e
    · rw [e]; exact h.fr
    · exact .inr fun g hg => by have := e g hg; have := h2.size; omega

/-- What next answers. -/
def NxR (M S A U L C n : Nat) (f : Nat → Nat) (buf hp : List Nat) (v : Value) (w : World) (e : Ending) (w' : World) : Prop := (hp = [] ∧ buf = [] ∧ e = .returned (.tuple #[.int .i64 0, .bool false]) ∧ Oth (fun k => k = S ∨ k = C ∨ v.ownBlock = some k) w w') ∨ ∃ x hp' v', e = .returned (.tuple #[.int .i64 ((x : Nat) : Int), .bool true]) ∧ (hp ++ buf).Perm (x :: hp') ∧ (∀ y ∈ hp ++ buf, x ≤ y) ∧ Hp hp' ∧ Sg M S A U L C n f [] hp' v' w' ∧ Oth (fun k => k = S ∨ k = C ∨ v.ownBlock = some k) w w' ∧ (v'.ownBlock = v.ownBlock ∨ ∀ g, v'.ownBlock = some g → w.heap.size ≤ g)
/-- How its rounds begin. -/
def NxI (M S A U L C n : Nat) (f : Nat → Nat) (buf hp : List Nat) (v : Value) (w : World) (a : Act) (wr : World) : Prop := ∃ u4 u5 u6 u7 u8 u9 u10 u11 u12 u13 u14 u15 u16 u17 u18 u19 u20 u21 u22 u23 buf' hp' v', a = { tmps := #[.pointer (some ⟨S, 0, none⟩), undef, .int .i64 0, .bool false, u4, u5, u6, u7, u8, u9, u10, u11, u12, u13, u14, u15, u16, u17, u18, u19, u20, u21, u22, u23], defers := [] } ∧ Nx M S A U L C n f buf hp v w buf' hp' v' wr

set_option maxRecDepth 100000 in
set_option maxHeartbeats 4000000 in
theorem next_any {M S A U L C n : Nat} {f : Nat → Nat} {buf hp : List Nat} {v : Value} (w : World) (h : Sg M S A U L C n f buf hp v w) (hh : Hp hp) (hl : hp.length + buf.length ≤ 1000) :
    Calls Try.prog 37 #[.pointer (some ⟨S, 0, none⟩)] w fun e w' => NxR M S A U L C n f buf hp v w e w' := by
  have HN0 : Hid (Nx M S A U L C n f buf hp v w buf hp v w) := ⟨h, hh, List.Perm.refl _, Oth.refl _ _, .inl rfl⟩
  clear h hh
  refine cn.calls_of_wpN Try.func37 rfl ?_
  simp only [Try.ntmps37, List.size_toArray, List.length_cons, List.length_nil, Nat.reduceAdd, Nat.reduceSub, Array.replicate_succ,
     Array.replicate_zero, List.push_toArray, List.append_toArray, List.nil_append, List.cons_append]
  apply cn.wpN_seq_k
  intro K hK
  go_wp2
  refine cn.wpN_block ?_
  refine cn.wpN_loop (NxI M S A U L C n f buf hp v w) (fun _ wr => cSz C wr) ?_ ?_
  · exact ⟨_, _, _, _, _, _, _, _, _, _, _, _, _, _, _, _, _, _, _, _, buf, hp, v, rfl, HN0.out⟩
  rintro a wr ⟨u4, u5, u6, u7, u8, u9, u10, u11, u12, u13, u14, u15, u16, u17, u18, u19, u20, u21, u22, u23, buf', hp', v', rfl, hnx⟩
  have HNX := Lib.hid hnx
  have c3 : wr.cell? ⟨S, 3, none⟩ = some (.chan (some C)) := hnx.sg.ho.row.cell (i := 3) (by decide)
  have hln : hp'.length + buf'.length ≤ 1000 := by have := hnx.perm.length_eq; simp only [List.length_append] at this; omega
  clear hnx HN0
  refine cn.wpN_block ?_
  generalize hQ : Exit.inBlock 1 _ = Q
  have HQN : Hid (∀ a' w', NxI M S A U L C n f buf hp v w a' w' → cSz C w' < cSz C wr → Q .normal a' w') := by
    intro a' w' h1 h2
    subst hQ
    exact ⟨h1, h2⟩
  have HQR : Hid (∀ a' w', bodyPost Try.prog Try.f37 (NxR M S A U L C n f buf hp v w) .ret a' w' → Q .ret a' w') := by
    intro a' w' h1
    subst hQ
    exact h1
  clear hQ
  have HSZ := Lib.hid HNX.out.sg.sz
  apply cn.wpN_seq_k
  intro K hK
  go_wp2
  refine cn.wpN_seq ?_
  refine cn.wpN_region ?_
  obtain ⟨s, r, hch⟩ := HNX.out.sg.ch
  cases buf' with
  | nil =>
    have hch' : wr.heap[C]? = some (.chan n #[] false s r false) := hch
    refine cn.SN_deft (c := C) (z := .int .i64 0) rfl rfl (by go_simp; rfl) hch' ?_
    refine cn.SN_val (.int .i64 (-1)) wr rfl rfl (by go_simp) ?_
    refine cn.SN_val (.bool false) wr rfl rfl (by go_simp) ?_
    refine cn.SN_nil ?_
    simp only [aP, Exit.then]
    refine cn.wpN_block ?_
    refine cn.wpN_cond rfl ?_
    simp only [if_false, Bool.false_eq_true]
    refine cn.wpN_of ?_
    show Code.wp _ _ _ ({ tmps := #[.pointer (some ⟨S, 0, none⟩), undef, .int .i64 0, .bool false, u4, .pointer (some ⟨S, 0, none⟩), .pointer (some ⟨S, 0, none⟩), .pointer (some ⟨S, 3, none⟩), .chan (some C), .tuple #[goInt (-1), .bool false, .int .i64 0], .int .i64 (-1), .bool false, u12, u13, u14, u15, u16, u17, u18, u19, u20, u21, u22, u23], defers := [] } : Act) wr
    clear hch hch' HSZ HQN
    cases hp' with
    | nil =>
      have HPO := Lib.hid (pop_none M S _ v' wr HNX.out.sg.ho)
      have HEN : Hid (hp = [] ∧ buf = []) := by have := HNX.out.perm.length_eq; simp at this; exact ⟨List.eq_nil_of_length_eq_zero (by omega), List.eq_nil_of_length_eq_zero (by omega)⟩
      go_wp2_with (go_at_call 60; refine HPO.out.mono ?_; rintro e w5 ⟨rfl, rfl⟩; refine Hid.out ?_)
      refine Lib.hid ?_
      go_wp2
      refine HQR.out _ _ ?_
      go_ret2
      exact .inl ⟨HEN.out.1, HEN.out.2, rfl, HNX.out.oth⟩
    | cons y hp' =>
      have HPO := Lib.hid (pop_any M S _ v' (y :: hp') wr HNX.out.sg.ho HNX.out.isHp (by simp) (by simp at hln ⊢; omega))
      generalize hY : y :: hp' = Y at *
      go_wp2_with (go_at_call 60; refine HPO.out.mono ?_; rintro e w5 ⟨rfl, v5, l5, h51, h52, h53, h54, h55⟩; refine Hid.out ?_)
      refine Lib.hid ?_
      have HEN : Hid (NxR M S A U L C n f buf hp v w (.returned (.tuple #[.int .i64 ((gt Y 0 : Nat) : Int), .bool true])) w5) := by
        have hpm := HNX.out.perm
        rw [List.append_nil] at hpm
        refine .inr ⟨gt Y 0, l5, v5, rfl, hpm.symm.trans h52, fun z hz => least_of h52 HNX.out.isHp.min z (hpm.mem_iff.2 hz), h53, HNX.out.sg.heap h51 h54, HNX.out.oth.then h54 fun i hi e => ?_, ?_⟩
        · rcases e with e | e
          · exact .inl e
          · rcases HNX.out.fr with h8 | h8
            · exact .inr (.inr (by rw [← h8]; exact e))
            · have := h8 i e; omega
        · rw [h55]; exact HNX.out.fr
      clear h51 h52 h53 h54 h55
      go_wp2
      refine HQR.out _ _ ?_
      go_ret2
      exact HEN.out
  | cons x buf' =>
    have hch' : 0 < (fi.nV (x :: buf')).toArray.size := by rw [List.size_toArray, fi.nV_len]; simp
    refine cn.SN_recv (c := C) (z := .int .i64 0) rfl rfl (by go_simp; rfl) hch hch' ?_
    have hg0 : (fi.nV (x :: buf')).toArray.getD 0 undef = .int .i64 (x : Int) := by simp [fi.nV]
    have hg1 : (fi.nV (x :: buf')).toArray.extract 1 (fi.nV (x :: buf')).toArray.size = (fi.nV buf').toArray := by
      simp [fi.nV]
      exact List.take_of_length_le (by simp)
    rw [hg0, hg1]
    obtain ⟨h1, h2⟩ := HNX.out.recv s (r + 1)
    obtain ⟨W1, hW1⟩ : ∃ W, wr.setChan C n (fi.nV buf').toArray false s (r + 1) false = W := ⟨_, rfl⟩
    have hs1 : wr.heap.size ≤ W1.heap.size := by rw [← hW1, Go.Conc.size_setChan]; exact Nat.le_refl _
    rw [hW1] at h1 h2 ⊢
    clear hW1 hg0 hg1 hch hch'
    refine cn.SN_val (.int .i64 0) W1 rfl rfl (by go_simp) ?_
    refine cn.SN_val (.bool true) W1 rfl rfl (by go_simp) ?_
    refine cn.SN_nil ?_
    simp only [aP, Exit.then]
    refine cn.wpN_block ?_
    refine cn.wpN_cond rfl ?_
    simp only [if_true]
    refine cn.wpN_of ?_
    show Code.wp _ _ _ ({ tmps := #[.pointer (some ⟨S, 0, none⟩), undef, .int .i64 0, .bool false, u4, .pointer (some ⟨S, 0, none⟩), .pointer (some ⟨S, 0, none⟩), .pointer (some ⟨S, 3, none⟩), .chan (some C), .tuple #[goInt 0, .bool true, .int .i64 (x : Int)], .int .i64 0, .bool true, u12, u13, u14, u15, u16, u17, u18, u19, u20, u21, u22, u23], defers := [] } : Act) W1
    have HPU := Lib.hid (push_any M S _ v' hp' x W1 h1.ho HNX.out.isHp (by simp at hln; omega))
    have HNP := Lib.hid fun (hp2 : List Nat) (v2 : Value) (w2 : World) a b c d e => HNX.out.push (hp2 := hp2) (v2 := v2) (w2 := w2) h1 h2 hs1 a b c d e
    clear h1 h2 hs1 HQR
    go_wp2_with (go_at_call 59; refine HPU.out.mono ?_; rintro e w5 ⟨rfl, v5, l5, h51, h52, h53, h54, h55⟩; refine Hid.out ?_)
    refine Lib.hid ?_
    have HN5 := Lib.hid (HNP.out l5 v5 w5 h51 h52 h53 h54 h55)
    have HZ5 := Lib.hid HN5.out.sg.sz
    clear h51 h52 h53 h54 h55
    go_wp2
    refine HQN.out _ _ ⟨_, _, _, _, _, _, _, _, _, _, _, _, _, _, _, _, _, _, _, _, buf', l5, v5, rfl, HN5.out⟩ ?_
    rw [HSZ.out, HZ5.out]
    simp
end Go.Proofs.Ytajpfidgepebgaa.hp

namespace Go.Proofs.Ytajpfidgepebgaa.hp
open fa (Us uNo nmL nds aw aws nAt nAt_some aw_mem uNo_yes uNo_get uNo_le thr nodup_lenN)
open fw (ndA ndA_some bhL bhL_zero bhL_mem soN so1 so1_yes so1_no can nrd rdN rdA soA soB Ua)
set_option linter.unusedVariables false
set_option linter.unusedSimpArgs false

/-! ### The order of starting, plainly: by numbers -/

/-- How many a unit waits for that do not stand yet. -/
def lk (us : List ty.Un) (O : List Nat) (y : Nat) : Nat := ((ndA us y).filter fun z => decide (z ∉ O)).length

theorem stA_cons (s : (Nat → Nat) × List Nat) (z : Nat) (B : List Nat) : stA s (z :: B) = stA (st1 s z) B := rfl
theorem stA_fst : ∀ (B : List Nat) (f : Nat → Nat) (b : List Nat) (y : Nat), (stA (f, b) B).1 y = f y - B.count y
  | [], f, b, y => by simp [stA]
  | z :: B, f, b, y => by
    rw [stA_cons, st1, stA_fst B]
    show upd f z (f z - 1) y - _ = _
    unfold upd
    by_cases e : y = z
    · subst e; rw [if_pos rfl, List.count_cons_self]; omega
    · rw [if_neg e, List.count_cons_of_ne (Ne.symm e)]
theorem stA_mem : ∀ (B : List Nat) (f : Nat → Nat) (b : List Nat), (∀ y, B.count y ≤ f y) → ∀ y, y ∈ (stA (f, b) B).2 ↔ y ∈ b ∨ (y ∈ B ∧ f y = B.count y)
  | [], f, b, _, y => by simp [stA]
  | z :: B, f, b, h, y => by
    have hz := h z
    rw [List.count_cons_self] at hz
    have h' : ∀ y, B.count y ≤ upd f z (f z - 1) y := fun y => by
      unfold upd
      by_cases e : y = z
      · subst e; rw [if_pos rfl]; omega
      · rw [if_neg e]; have := h y; rw [List.count_cons_of_ne (Ne.symm e)] at this; exact this
    rw [stA_cons]
    show y ∈ (stA (upd f z (f z - 1), if f z - 1 = 0 then b ++ [z] else b) B).2 ↔ _
    rw [stA_mem B _ _ h']
    unfold upd
    by_cases e : y = z
    · subst e
      rw [if_pos rfl, List.count_cons_self]
      by_cases h0 : f y - 1 = 0
      · rw [if_pos h0]
        have : f y = B.count y + 1 := by omega
        simp [this]
      · rw [if_neg h0]
        constructor
        · rintro (hb | ⟨hB, he⟩)
          · exact .inl hb
          · exact .inr ⟨List.mem_cons_self, by omega⟩
        · rintro (hb | ⟨hB, he⟩)
          · exact .inl hb
          · exact .inr ⟨List.count_pos_iff.1 (by omega), by omega⟩
    · rw [if_neg e, List.count_cons_of_ne (Ne.symm e)]
      have : y ∈ (if f z - 1 = 0 then b ++ [z] else b) ↔ y ∈ b := by
        split
        · simp [e]
        · rfl
      rw [this]
      simp [e]
theorem stA_nd : ∀ (B : List Nat) (f : Nat → Nat) (b : List Nat), (∀ y, B.count y ≤ f y) → b.Nodup → (∀ y ∈ b, f y = 0) → (stA (f, b) B).2.Nodup
  | [], f, b, _, hb, _ => hb
  | z :: B, f, b, h, hb, h0 => by
    have hz := h z
    rw [List.count_cons_self] at hz
    have hzb : z ∉ b := fun e => by have := h0 z e; omega
    rw [stA_cons]
    show (stA (upd f z (f z - 1), if f z - 1 = 0 then b ++ [z] else b) B).2.Nodup
    refine stA_nd B _ _ (fun y => ?_) ?_ fun y hy => ?_
    · unfold upd
      by_cases e : y = z
      · subst e; rw [if_pos rfl]; omega
      · rw [if_neg e]; have := h y; rw [List.count_cons_of_ne (Ne.symm e)] at this; exact this
    · split
      · rw [List.nodup_append]
        exact ⟨hb, by simp, fun a ha c hc => by rw [List.mem_singleton.1 hc]; exact fun e => hzb (e ▸ ha)⟩
      · exact hb
    · unfold upd
      by_cases e : y = z
      · subst e
        rw [if_pos rfl]
        by_cases h1 : f y - 1 = 0
        · exact h1
        · rw [if_neg h1] at hy; exact absurd hy hzb
      · rw [if_neg e]
        refine h0 y ?_
        split at hy
        · simpa [e] using hy
        · exact hy

theorem bhL_count (us : List ty.Un) (x y : Nat) : ∀ i, (bhL us i x).count y = if y < i then (ndA us y).count x else 0
  | 0 => by rw [bhL_zero]; simp
  | i + 1 => by
    have e : bhL us (i + 1) x = bhL us i x ++ ((ndA us i).filter fun z => decide (z = x)).map fun _ => i := by
      unfold bhL
      rw [List.range_succ, List.flatMap_append, List.flatMap_singleton]
    rw [e, List.count_append, bhL_count us x y i, List.map_const', List.count_replicate]
    have hc : ((ndA us i).filter fun z => decide (z = x)).length = (ndA us i).count x := by
      rw [List.count, List.countP_eq_length_filter]
      congr 1
    by_cases h1 : y = i
    · subst h1
      rw [if_neg (Nat.lt_irrefl _), if_pos (Nat.lt_succ_self _), hc]
      simp
    · have h2 : (i == y) = false := by simp; exact fun e => h1 e.symm
      rw [h2]
      by_cases h3 : y < i
      · have h4 : y < i + 1 := by omega
        simp [h3, h4]
      · have h4 : ¬ y < i + 1 := by omega
        simp [h3, h4]

theorem lk_more (us : List ty.Un) {O : List Nat} {x : Nat} (hx : x ∉ O) (y : Nat) : lk us (O ++ [x]) y + (ndA us y).count x = lk us O y := by
  unfold lk
  induction ndA us y with
  | nil => simp
  | cons z l ih =>
    by_cases e : z = x
    · subst e
      rw [List.count_cons_self, List.filter_cons_of_neg (by simp), List.filter_cons_of_pos (by simpa using hx), List.length_cons, ← ih]
      omega
    · rw [List.count_cons_of_ne (by exact e)]
      by_cases h : z ∈ O
      · rw [List.filter_cons_of_neg (by simp [h]), List.filter_cons_of_neg (by simp [h])]
        exact ih
      · rw [List.filter_cons_of_pos (by simp [h, e]), List.filter_cons_of_pos (by simp [h]), List.length_cons, List.length_cons]
        omega
theorem lk_zero {us : List ty.Un} {O : List Nat} {y : Nat} : lk us O y = 0 ↔ ∀ z ∈ ndA us y, z ∈ O := by
  unfold lk
  rw [List.length_eq_zero_iff, List.filter_eq_nil_iff]
  simp
theorem lk_le {us : List ty.Un} (hU : Ua us) (O : List Nat) (y : Nat) : lk us O y ≤ 40 := by
  refine Nat.le_trans (List.length_filter_le _ _) ?_
  cases hu : us[y]? with
  | none => unfold ndA; rw [hu]; simp
  | some u => rw [ndA_some hu]; exact hU.len u (List.mem_of_getElem? hu)

theorem nm_in {us : List ty.Un} (hU : Us us) {O : List Nat} (hO : ∀ z ∈ O, z < us.length) (m : List UInt8) : m ∈ O.map (nAt us) ↔ uNo us m ∈ O := by
  rw [List.mem_map]
  constructor
  · rintro ⟨z, hz, rfl⟩
    have := hO z hz
    rw [nAt_some (List.getElem?_eq_getElem this), uNo_yes hU (List.getElem?_eq_getElem this) rfl]
    exact hz
  · intro h
    obtain ⟨u, hu, e⟩ := uNo_get (hO _ h)
    exact ⟨_, h, by rw [nAt_some hu, e]⟩
theorem nrd_iff {us : List ty.Un} (hU : Us us) {O : List Nat} (hO : ∀ z ∈ O, z < us.length) {y : Nat} {u : ty.Un} (hu : us[y]? = some u) : nrd us (O.map (nAt us)) u = true ↔ lk us O y = 0 := by
  rw [lk_zero, ndA_some hu]
  unfold nrd rdN rdA
  simp only [Bool.and_eq_true, List.all_eq_true, Bool.or_eq_true, decide_eq_true_eq, nm_in hU hO]
  constructor
  · rintro ⟨h1, h2⟩ z hz
    have hz := aw_mem.1 hz
    unfold aws at hz
    rcases List.mem_append.1 hz with k | k
    · unfold nds at k
      obtain ⟨m, hm, rfl⟩ := List.mem_map.1 k
      exact h1 m hm
    · obtain ⟨m, hm, he⟩ := List.mem_filterMap.1 k
      unfold thr at he
      split at he
      · rename_i hl
        cases he
        rcases h2 m hm with h3 | h3
        · omega
        · exact h3
      · cases he
  · intro h
    refine ⟨fun m hm => h _ (aw_mem.2 ?_), fun m hm => ?_⟩
    · unfold aws nds
      exact List.mem_append_left _ (List.mem_map_of_mem (f := fun m : ByteArray => uNo us m.data.toList) hm)
    · rcases Nat.lt_or_ge (uNo us m.data.toList) us.length with k | k
      · refine .inr (h _ (aw_mem.2 ?_))
        unfold aws
        exact List.mem_append_right _ (List.mem_filterMap.2 ⟨m, hm, by unfold thr; rw [if_pos k]⟩)
      · have := uNo_le us m.data.toList
        exact .inl (by omega)
theorem can_iff {us : List ty.Un} (hU : Us us) {O : List Nat} (hO : ∀ z ∈ O, z < us.length) {y : Nat} {u : ty.Un} (hu : us[y]? = some u) : can us (O.map (nAt us)) u = true ↔ y ∉ O ∧ lk us O y = 0 := by
  unfold can
  rw [Bool.and_eq_true, nrd_iff hU hO hu]
  simp only [Bool.not_eq_true', decide_eq_false_iff_not, nm_in hU hO, uNo_yes hU hu rfl]

/-- Where the program and the specification stand. -/
structure Iv (us : List ty.Un) (O : List Nat) (f : Nat → Nat) (R : List Nat) : Prop where
  fs : ∀ y, y < us.length → f y = lk us O y
  mem : ∀ y, y ∈ R ↔ (y < us.length ∧ y ∉ O ∧ lk us O y = 0)
  nd : R.Nodup
  od : O.Nodup
  lt : ∀ y ∈ O, y < us.length
  old : ∀ y ∈ O, lk us O y = 0
  nm : soN us O.length = O.map (nAt us)
theorem Iv.olen {us : List ty.Un} {O : List Nat} {f : Nat → Nat} {R : List Nat} (h : Iv us O f R) : O.length ≤ us.length := by
  have := nodup_lenN (L := List.range us.length) h.od fun x hx => List.mem_range.2 (h.lt x hx)
  rwa [List.length_range] at this
theorem Iv.rlen {us : List ty.Un} {O : List Nat} {f : Nat → Nat} {R : List Nat} (h : Iv us O f R) : R.length ≤ us.length := by
  have := nodup_lenN (L := List.range us.length) h.nd fun x hx => List.mem_range.2 ((h.mem x).1 hx).1
  rwa [List.length_range] at this
theorem Iv.perm {us : List ty.Un} {O : List Nat} {f : Nat → Nat} {R R' : List Nat} (h : Iv us O f R) (p : R.Perm R') : Iv us O f R' :=
  ⟨h.fs, fun y => p.mem_iff.symm.trans (h.mem y), p.nodup_iff.1 h.nd, h.od, h.lt, h.old, h.nm⟩

/-- What standing asks for and leaves. -/
theorem Iv.stand {us : List ty.Un} (hU : Ua us) {O : List Nat} {f : Nat → Nat} {x : Nat} {R' : List Nat} (h : Iv us O f (x :: R')) (hf0 : ∀ y, us.length ≤ y → f y = 0) :
    (∀ (j y : Nat), (bhL us us.length x)[j]? = some y → y < us.length ∧ 1 ≤ (stA (f, []) ((bhL us us.length x).take j)).1 y ∧ (stA (f, []) ((bhL us us.length x).take j)).1 y ≤ 1000000 ∧ ((stA (f, []) ((bhL us us.length x).take j)).1 y = 1 → (stA (f, []) ((bhL us us.length x).take j)).2.length < us.length)) ∧
      ((∀ y ∈ x :: R', x ≤ y) → Iv us (O ++ [x]) (stA (f, []) (bhL us us.length x)).1 (R' ++ (stA (f, []) (bhL us us.length x)).2) ∧ ∀ y, us.length ≤ y → (stA (f, []) (bhL us us.length x)).1 y = 0) := by
  have hx := (h.mem x).1 List.mem_cons_self
  have hnd := List.nodup_cons.1 h.nd
  have hmore := lk_more us hx.2.1
  obtain ⟨B, hB⟩ : ∃ B, bhL us us.length x = B := ⟨_, rfl⟩
  have hcnt : ∀ y, B.count y = if y < us.length then (ndA us y).count x else 0 := fun y => by rw [← hB]; exact bhL_count us x y us.length
  have hBl : ∀ y, y ∈ B → y < us.length := fun y hy => by
    rw [← hB] at hy
    obtain ⟨u, hu, _⟩ := (bhL_mem us x y).1 hy
    exact (List.getElem?_eq_some_iff.1 hu).1
  have hcle : ∀ y, B.count y ≤ f y := fun y => by
    rw [hcnt]
    by_cases e : y < us.length
    · rw [if_pos e, h.fs y e, ← hmore y]; omega
    · rw [if_neg e]; omega
  rw [hB]
  refine ⟨fun j y hy => ?_, fun hmin => ⟨⟨fun y hy => ?_, fun y => ?_, ?_, ?_, fun y hy => ?_, fun y hy => ?_, ?_⟩, fun y hy => ?_⟩⟩
  · have hyl := hBl y (List.mem_of_getElem? hy)
    have hj := (List.getElem?_eq_some_iff.1 hy).1
    have ht : (B.take (j + 1)).count y = (B.take j).count y + 1 := by rw [List.take_add_one, hy, List.count_append]; simp
    have ht2 : (B.take (j + 1)).count y ≤ B.count y := (List.take_sublist _ _).count_le y
    have hc := hcle y
    have hct : ∀ z, (B.take j).count z ≤ f z := fun z => Nat.le_trans ((List.take_sublist _ _).count_le z) (hcle z)
    have hl40 := lk_le hU O y
    rw [← h.fs y hyl] at hl40
    rw [stA_fst]
    refine ⟨hyl, by omega, by omega, fun h1 => ?_⟩
    have hnd2 := stA_nd (B.take j) f [] hct List.nodup_nil (fun y hy => by cases hy)
    have hmm := stA_mem (B.take j) f [] hct
    have hny : y ∉ (stA (f, []) (B.take j)).2 := fun hm => by
      rcases (hmm y).1 hm with k | ⟨_, k⟩
      · cases k
      · omega
    have := nodup_lenN (F := y :: (stA (f, []) (B.take j)).2) (L := List.range us.length) (List.nodup_cons.2 ⟨hny, hnd2⟩) fun z hz => List.mem_range.2 (by
      rcases List.mem_cons.1 hz with rfl | hz
      · exact hyl
      · rcases (hmm z).1 hz with k | ⟨k, _⟩
        · cases k
        · exact hBl z (List.mem_of_mem_take k))
    rw [List.length_cons, List.length_range] at this
    omega
  · rw [stA_fst, hcnt, if_pos hy, h.fs y hy, ← hmore y]; omega
  · rw [List.mem_append, stA_mem B f [] hcle]
    constructor
    · rintro (k | k | ⟨k1, k2⟩)
      · obtain ⟨h1, h2, h3⟩ := (h.mem y).1 (List.mem_cons_of_mem _ k)
        have := hmore y
        exact ⟨h1, by simp; exact ⟨h2, fun e => hnd.1 (e ▸ k)⟩, by omega⟩
      · cases k
      · have hyl := hBl y k1
        rw [hcnt, if_pos hyl, h.fs y hyl] at k2
        have hm := hmore y
        have hp : 0 < (ndA us y).count x := by
          have := List.count_pos_iff.2 k1
          rw [hcnt, if_pos hyl] at this
          exact this
        refine ⟨hyl, ?_, by omega⟩
        have hyx : y ≠ x := fun e => by
          have := hx.2.2
          rw [← e] at this
          omega
        simp only [List.mem_append, List.mem_singleton, not_or]
        refine ⟨fun hyO => ?_, hyx⟩
        have hz := h.old y hyO
        omega
    · rintro ⟨h1, h2, h3⟩
      simp only [List.mem_append, List.mem_singleton, not_or] at h2
      have hm := hmore y
      by_cases h0 : lk us O y = 0
      · rcases List.mem_cons.1 ((h.mem y).2 ⟨h1, h2.1, h0⟩) with e | e
        · exact absurd e h2.2
        · exact .inl e
      · refine .inr (.inr ?_)
        have hc : B.count y = f y := by rw [hcnt, if_pos h1, h.fs y h1]; omega
        exact ⟨List.count_pos_iff.1 (by rw [hc, h.fs y h1]; omega), hc.symm⟩
  · rw [List.nodup_append]
    refine ⟨hnd.2, stA_nd B f [] hcle List.nodup_nil (fun y hy => by cases hy), fun a ha c hc e => ?_⟩
    subst e
    obtain ⟨h1, h2, h3⟩ := (h.mem a).1 (List.mem_cons_of_mem _ ha)
    rcases (stA_mem B f [] hcle a).1 hc with k | ⟨k1, k2⟩
    · cases k
    · have := List.count_pos_iff.2 k1
      rw [h.fs a h1] at k2
      omega
  · rw [List.nodup_append]
    exact ⟨h.od, by simp, fun a ha c hc => by rw [List.mem_singleton.1 hc]; exact fun e => hx.2.1 (e ▸ ha)⟩
  · rcases List.mem_append.1 hy with k | k
    · exact h.lt y k
    · rw [List.mem_singleton.1 k]; exact hx.1
  · have hm := hmore y
    rcases List.mem_append.1 hy with k | k
    · have := h.old y k; omega
    · rw [List.mem_singleton.1 k] at hm ⊢; have := hx.2.2; omega
  · rw [List.length_append, List.map_append]
    show so1 us (soN us O.length) = _
    rw [h.nm]
    have hux : us[x]? = some us[x] := List.getElem?_eq_getElem hx.1
    rw [so1_yes hux ((can_iff hU.toUs h.lt hux).2 hx.2) fun j z hj hz => ?_]
    · rw [List.map_singleton, nAt_some hux]
    · cases hcz : can us (O.map (nAt us)) z with
      | false => rfl
      | true =>
        have h1 := (can_iff hU.toUs h.lt hz).1 hcz
        have := hmin j ((h.mem j).2 ⟨(List.getElem?_eq_some_iff.1 hz).1, h1⟩)
        omega
  · rw [stA_fst, hf0 y hy]; omega
/-- The end. -/
theorem Iv.done {us : List ty.Un} (hU : Ua us) (hu : un.usB us = true) {O : List Nat} {f : Nat → Nat} (h : Iv us O f []) : soA us = O.map (nAt us) ∧ soB us = decide (O.length = us.length) := by
  have hno : ∀ (j : Nat) (z : ty.Un), us[j]? = some z → can us (O.map (nAt us)) z = false := fun j z hz => by
    cases hcz : can us (O.map (nAt us)) z with
    | false => rfl
    | true =>
      have h1 := (can_iff hU.toUs h.lt hz).1 hcz
      have := (h.mem j).2 ⟨(List.getElem?_eq_some_iff.1 hz).1, h1⟩
      cases this
  have hst : ∀ k, soN us (O.length + k) = O.map (nAt us) := fun k => by
    induction k with
    | zero => exact h.nm
    | succ k ih =>
      show so1 us (soN us (O.length + k)) = _
      rw [ih]
      exact so1_no hno
  have hN : soN us us.length = O.map (nAt us) := by
    have := hst (us.length - O.length)
    rwa [show O.length + (us.length - O.length) = us.length by have := h.olen; omega] at this
  unfold soA soB
  rw [if_pos hu, if_pos hu, hN, List.length_map]
  exact ⟨rfl, rfl⟩
/-- The beginning. -/
def f0 (us : List ty.Un) (i : Nat) : Nat → Nat := fun y => if y < i then (ndA us y).length else 0
def b0 (us : List ty.Un) (i : Nat) : List Nat := (List.range i).filter fun y => decide ((ndA us y).length = 0)
theorem f0_step (us : List ty.Un) (i : Nat) : upd (f0 us i) i (ndA us i).length = f0 us (i + 1) := by
  funext y
  unfold upd f0
  by_cases e : y = i
  · subst e; simp
  · rw [if_neg e]
    by_cases h : y < i
    · rw [if_pos h, if_pos (by omega)]
    · rw [if_neg h, if_neg (by omega)]
theorem b0_step (us : List ty.Un) (i : Nat) : (if (ndA us i).length = 0 then b0 us i ++ [i] else b0 us i) = b0 us (i + 1) := by
  unfold b0
  rw [List.range_succ, List.filter_append]
  split
  · rename_i h
    rw [List.filter_cons_of_pos (by simpa using h)]
    rfl
  · rename_i h
    rw [List.filter_cons_of_neg (by simpa using h)]
    simp
theorem b0_len (us : List ty.Un) (i : Nat) : (b0 us i).length ≤ i := by
  have := List.length_filter_le (fun y => decide ((ndA us y).length = 0)) (List.range i)
  rwa [List.length_range] at this
theorem Iv.zero (us : List ty.Un) : Iv us [] (f0 us us.length) (b0 us us.length) := by
  have hl : ∀ y, lk us [] y = (ndA us y).length := fun y => by unfold lk; rw [List.filter_eq_self.2 (by simp)]
  refine ⟨fun y hy => ?_, fun y => ?_, ?_, List.nodup_nil, fun y hy => (by cases hy), fun y hy => (by cases hy), rfl⟩
  · unfold f0; rw [if_pos hy, hl]
  · rw [hl]
    unfold b0
    simp
  · unfold b0
    exact List.nodup_range.sublist List.filter_sublist
end Go.Proofs.Ytajpfidgepebgaa.hp

namespace Go.Proofs.Ytajpfidgepebgaa.cl
open Go.RowKit
set_option linter.unusedVariables false

theorem info5 : (Try.prog.info? 5).map (fun i => (i.zero, i.size, i.bytes)) = some (some (.int .u8 0), 1, 1) := by kernel_rfl

set_option maxHeartbeats 4000000 in
set_option maxRecDepth 100000 in
theorem slite_any (s : ByteArray) (w : World) (hlim : s.size ≤ 1099511627776) :
    Calls Try.prog 61 #[.string s] w fun e w' => e = .returned (.string s) ∧ Below w.heap.size w w' := by
  by_cases h0 : s.size = 0
  · have hs : s = ⟨#[]⟩ := by
      apply ByteArray.ext
      exact Array.eq_empty_of_size_eq_zero h0
    subst hs
    go_enter Try.func61, Try.ntmps61
    go_wp2
    go_ret
    exact ⟨rfl, Below.refl _ _⟩
  · obtain ⟨i0, hi, hz0, hz1, hz2⟩ := info_parts info5
    have hinfo : (Try.prog.info? 5).map (·.size) = some 1 := by rw [hi]; simp [hz1]
    have hco : Try.prog.cellsOf 5 = 1 := by simp [Program.cellsOf, hi, hz1]
    obtain ⟨M, hM⟩ : ∃ M, M = madeCells (Value.int .u8 0).cells (((s.size : Nat) : Int).toNat * i0.size) := ⟨_, rfl⟩
    have hMs : M.size = s.size := by rw [hM, size_madeCells, hz1]; simp
    have hmk : ∀ W : World, (Instr.makeSlice 22 (.int .i64 (s.size : Int)) (.int .i64 (s.size : Int))).run Try.prog W = .ok (.slice (some ⟨W.heap.size, 0, none⟩) s.size s.size) (W.alloc (.cells M 5)) := fun W => by
      have h := run_make (P := Try.prog) W 22 5 i0 (.int .u8 0) Try.underlying22 hi hz0 .i64 .i64 (s.size : Int) (s.size : Int) (by omega) (by omega) (by rw [hz2]; omega) (by omega)
      rw [← hM] at h
      simpa using h
    clear hM
    have hcp := Lib.run_copy_row_string (P := Try.prog) (w.alloc (.cells M 5)) 22 9 3 5 w.heap.size 0 s.size s.size s M 5 Try.underlying22 hinfo (heap_alloc_new w _) (Nat.le_refl _) (by omega)
    obtain ⟨Y, hY⟩ : ∃ Y, Y = (M.toList.take 0 ++ Lib.byteCells s.data.toList ++ M.toList.drop (0 + s.size)).toArray := ⟨_, rfl⟩
    rw [← hY] at hcp
    have hYl : Y.toList = Lib.byteCells s.data.toList := by
      rw [hY, List.toList_toArray, List.take_zero, List.nil_append, List.drop_of_length_le (by rw [Array.length_toList]; omega), List.append_nil]
    have hYs : Y.size = s.size := by rw [← Array.length_toList, hYl, Lib.byteCells_length, ← Lib.size_eq]
    have hgY : ((w.alloc (.cells M 5)).setRow w.heap.size Y).heap[w.heap.size]? = some (.cells Y 5 (0, 0)) := setRow_heap _ _ M _ 5 (0, 0) (heap_alloc_new w _)
    have hne : s.data.toList ≠ [] := fun e => h0 (by rw [Lib.size_eq, e]; rfl)
    have hUS := Lib.run_unsafeString_row (P := Try.prog) ((w.alloc (.cells M 5)).setRow w.heap.size Y) 96 3 9 5 Try.underlying96 hco w.heap.size Y.size (by unfold World.shape?; rw [hgY]) s.data.toList hne (by rw [← Lib.size_eq]; omega) (by rw [← Lib.size_eq]; omega)
      (fun j x hx => Lib.cells_of_row hgY Y.size j _ (by rw [List.take_of_length_le (by rw [Array.length_toList]; exact Nat.le_refl _), hYl]; simp [Lib.byteCells, hx]))
    rw [← Lib.size_eq] at hUS
    clear hY
    go_enter Try.func61, Try.ntmps61
    go_wp2
    go_ret
    have hb1 : Below w.heap.size w (w.alloc (.cells M 5)) := (Below.refl _ w).alloc (Nat.le_refl _) _
    have hb2 : Below w.heap.size (w.alloc (.cells M 5)) ((w.alloc (.cells M 5)).setRow w.heap.size Y) := ⟨rfl, rfl, rfl, by simp, fun k hk => setRow_other _ _ _ _ (by omega)⟩
    exact ⟨rfl, Lib.below_freeze (hb1.trans hb2) (p := ⟨w.heap.size, 0, none⟩) (Nat.le_refl _) _⟩

theorem clone_any (s : ByteArray) (w : World) (hlim : s.size ≤ 1099511627776) :
    Calls Try.prog 39 #[.string s] w fun e w' => e = .returned (.string s) ∧ Below w.heap.size w w' := by
  go_enter Try.func39, Try.ntmps39
  go_wp2_with (go_at_call 61; refine (slite_any _ _ hlim).mono ?_; rintro e w1 ⟨rfl, hl⟩)
  go_ret
  exact ⟨rfl, hl⟩

end Go.Proofs.Ytajpfidgepebgaa.cl

namespace Go.Proofs.Ytajpfidgepebgaa.fa
open Go.ChangeShapes Go.WideShapes Go.ChangeAt Go.RowKit Go.Deep Go.Maps
set_option linter.unusedVariables false
set_option linter.unusedSimpArgs false

/-! ### Rows of numbers as they can be read; unitNames -/

/-- A row of numbers as it can be read, perhaps nil. -/
def RdN (w : World) (v : Value) (L : List Nat) : Prop := ∃ a c, v = .slice a L.length c ∧ ∀ (i x : Nat), L[i]? = some x → ∃ bb off, a = some ⟨bb, off, none⟩ ∧ w.cell? ⟨bb, off + i, none⟩ = some (.int .i64 (x : Int))
theorem rdn_own {w : World} {base : Nat} {v : Value} {L : List Nat} (h : w.ownsRow base 3 1 v L.length (fi.nV L)) : RdN w v L := by
  rcases h.2 with ⟨e, h0⟩ | ⟨g, cap, cur, e, hb, hg, hnc, hcm, hcs, htk⟩
  · have hl : L.length = 0 := by first | exact h0 | exact h0.1 | (simpa [fi.nV] using h0) | omega
    obtain rfl := List.eq_nil_of_length_eq_zero hl
    exact ⟨none, 0, e, fun i x hx => by simp at hx⟩
  · refine ⟨some ⟨g, 0, none⟩, cap, e, fun i x hx => ⟨g, 0, rfl, ?_⟩⟩
    have hi := (List.getElem?_eq_some_iff.1 hx).1
    have h1 : (cur.toList.take (L.length * 1))[i]? = (fi.nV L)[i]? := by rw [htk]
    rw [Nat.mul_one, List.getElem?_take_of_lt hi, fi.nV_at hi, (List.getElem?_eq_some_iff.1 hx).2] at h1
    rw [Nat.zero_add]
    simp only [World.cell?, hg]
    simpa using h1

theorem str_nm (P : ByteArray) : sr.strL P.data.toList = .string P := by simp [sr.strL]

set_option maxRecDepth 100000 in
set_option maxHeartbeats 4000000 in
theorem names_any (md : Option Nat) (a : Option Addr) (c : Nat) (us : List ty.Un) (L : List Nat) (v : Value) (w : World) (hb : ty.SrcUn md w a us) (hw : ty.wtUn us ≤ 1048576) (hn : us.length ≤ 100) (hR : RdN w v L) (hL : ∀ x ∈ L, x < us.length) (hl : L.length ≤ 1000) :
    Calls Try.prog 19 #[.slice a us.length c, v] w fun e w' => (∃ v', e = .returned v' ∧ sr.OwnS w.heap.size w' v' (L.map (nAt us))) ∧ Below w.heap.size w w' := by
  obtain ⟨ad, cap, rfl, hc⟩ := hR
  have HC := Lib.hid hc
  have HLT := Lib.hid hL
  have HNM : Hid (∀ (x : Nat) (u : ty.Un), us[x]? = some u → ∃ b o, a = some ⟨b, o, none⟩ ∧ u.fName.size ≤ 1048576 ∧ ∀ W, Below w.heap.size w W → W.cell? ⟨b, o + x * 5, none⟩ = some (.string u.fName)) := fun x u hu => by
    rcases hb with h | ⟨b, o, e, _, hc⟩
    · rw [h.2] at hu; simp at hu
    obtain ⟨d1, e1, d2, e2, q0, q1, q2, q3, q4, s1, s2, _⟩ := hc x u hu
    have hwx := ty.wtUn_mem (List.mem_of_getElem? hu)
    unfold ty.wt1Un at hwx
    exact ⟨b, o, e, by omega, fun W h => (h.cell (p := ⟨b, _, none⟩) (World.block_lt_of_cell? _ _ q0)).trans q0⟩
  obtain ⟨m, hmm⟩ : ∃ m, L.length = m := ⟨_, rfl⟩
  have HM : Hid (L.length = m) := hmm
  rw [hmm] at hl ⊢
  obtain ⟨n, hnn⟩ : ∃ n, us.length = n := ⟨_, rfl⟩
  have HN : Hid (us.length = n) := hnn
  rw [hnn] at hn ⊢
  have HZ : Hid ((w.alloc (.cells #[] 9)).ownsRow w.heap.size 9 1 (.slice (some ⟨w.heap.size, 0, none⟩) 0 0) (((L.take 0).map (nAt us))).length (((L.take 0).map (nAt us)).map sr.strL)) := sr.own_zero w
  clear hb hw hc hL hmm hnn
  go_enter Try.func19, Try.ntmps19
  go_wp2
  go_loopw [5, 7, 11] (fun v _ y wr => ∃ k : Nat, k ≤ m ∧ y = .int .i64 (k : Int) ∧ sr.OwnS w.heap.size wr v ((L.take k).map (nAt us)) ∧ Below w.heap.size w wr) (fun _ _ y _ => m - (intOf y).toNat)
  case atStart => exact ⟨0, Nat.zero_le _, rfl, ⟨HZ.out, sr.not_nil _ _ _⟩, (Below.refl _ _).alloc (Nat.le_refl _) _⟩
  case round =>
    obtain ⟨k, hk, rfl, hown, hbel⟩ := hrel
    have HOW := Lib.hid hown
    have HBE := Lib.hid hbel
    clear hown
    by_cases hkl : k < m
    · have hkl' : (k : Int) < (m : Int) := by omega
      have hk0 : (0 : Int) ≤ (k : Int) := by omega
      obtain ⟨x, hx⟩ : ∃ x, L[k]? = some x := ⟨_, List.getElem?_eq_getElem (by rw [HM.out]; exact hkl)⟩
      obtain ⟨bb, off, rfl, hcc⟩ := HC.out k x hx
      have c0 := (hbel.cell (p := ⟨bb, _, none⟩) (World.block_lt_of_cell? _ _ hcc)).trans hcc
      have hxn : x < n := by have := HLT.out x (List.mem_of_getElem? hx); have := HN.out; omega
      have hxi : (x : Int) < (n : Int) := by omega
      have hx0 : (0 : Int) ≤ (x : Int) := by omega
      obtain ⟨u, hu⟩ : ∃ u, us[x]? = some u := ⟨_, List.getElem?_eq_getElem (by rw [HN.out]; exact hxn)⟩
      obtain ⟨b, o, rfl, hsz, hcn⟩ := HNM.out x u hu
      have c1 := hcn wr hbel
      have HTK : Hid ((L.take (k + 1)).map (nAt us) = (L.take k).map (nAt us) ++ [u.fName.data.toList]) := by
        show _ = _
        rw [List.take_add_one, hx, Option.toList_some, List.map_append, List.map_singleton, nAt_some hu]
        rfl
      have HLK : Hid (((L.take k).map (nAt us)).length ≤ 1000) := by show _ ≤ _; rw [List.length_map, List.length_take]; omega
      have HCL := Lib.hid (fun W : World => cl.clone_any u.fName W (by omega))
      generalize u.fName = P at *
      clear hcc hcn hx hu hsz hbel
      go_wp2_with (go_at_call 39; refine (HCL.out _).mono ?_; rintro e w1 ⟨rfl, hl1⟩; refine Hid.out ?_)
      refine Lib.hid ?_
      have HO1 := Lib.hid (own_below HOW.out.1 (hl1.alloc hl1.size (.cells #[.string P] 9)))
      have HB1 := Lib.hid ((HBE.out.trans (hl1.mono HBE.out.size)).alloc (HBE.out.trans (hl1.mono HBE.out.size)).size (.cells #[.string P] 9))
      have HN1 : Hid (∀ j u, ([P.data.toList].map sr.strL)[j]? = some u → (w1.alloc (.cells #[.string P] 9)).cell? ((⟨w1.heap.size, 0, none⟩ : Addr).add j) = some u) := by
        have h := sr.one_at w1 P.data.toList
        rw [str_nm] at h
        exact h
      clear hl1
      go_wp2_with (at_builtin; refine sr.app_str _ rfl _ _ rfl w.heap.size _ _ rfl HO1.out HOW.out.2 ⟨w1.heap.size, 0, none⟩ 1 _ [P.data.toList] rfl rfl HN1.out (by have := HLK.out; omega) (by have := HB1.out.size; omega) ?_; intro v3 w3 ho3 hv3 hg3; refine Hid.out ?_)
      refine Lib.hid ?_
      have HO3 : Hid (sr.OwnS w.heap.size w3 v3 ((L.take (k + 1)).map (nAt us))) := by show sr.OwnS _ _ _ _; rw [HTK.out]; exact ⟨ho3, hv3⟩
      have HB3 := Lib.hid (below_grownS HB1.out HO1.out hg3 HB1.out.size)
      clear ho3 hv3 hg3
      go_wp2
      go_roundw
      case rel => exact ⟨k + 1, by omega, by go_num, HO3.out, HB3.out⟩
      case measure => simp [intOf]; omega
    · have hkl' : ¬ (k : Int) < (m : Int) := by omega
      obtain rfl : k = m := by omega
      have HE : Hid (sr.OwnS w.heap.size wr u5 (L.map (nAt us))) := by
        have h := HOW.out
        rw [List.take_of_length_le (by rw [HM.out]; exact Nat.le_refl _)] at h
        exact h
      clear hbel
      go_wp2
      go_ret
      exact ⟨⟨_, rfl, HE.out⟩, HBE.out⟩

end Go.Proofs.Ytajpfidgepebgaa.fa
