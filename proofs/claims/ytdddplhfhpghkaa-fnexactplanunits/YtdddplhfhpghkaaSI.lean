import Derived.Test.YtdddplhfhpghkaaSH
namespace Go.Proofs.Ytdddplhfhpghkaa.hp
open Go.ChangeShapes Go.WideShapes Go.ChangeAt Go.RowKit Go.Deep Go.Maps
open Go.Conc (scase rcase)
set_option linter.unusedVariables false
set_option linter.unusedSimpArgs false

/-! ### next -/

def cSz (C : Nat) (w : World) : Nat := match w.heap[C]? with
  | some (.chan _ b _ _ _ _) => b.size
  | _ => 0
theorem cSz_is {C n : Nat} {w : World} {b : Array Value} {cl : Bool} {s r : Nat} {tm : Bool} (h : w.heap[C]? = some (.chan n b cl s r tm)) : cSz C w = b.size := by unfold cSz; rw [h]
theorem Sg.sz {M S A U L C n : Nat} {f : Nat → Nat} {buf hp : List Nat} {v : Value} {w : World} (h : Sg M S A U L C n f buf hp v w) : cSz C w = buf.length := by
  obtain ⟨s, r, e⟩ := h.ch
  rw [cSz_is e, List.size_toArray, fi.nV_len]
/-- A heap that has changed. -/
theorem Sg.heap {M S A U L C n : Nat} {f : Nat → Nat} {buf hp hp' : List Nat} {v v' : Value} {w w' : World} (h : Sg M S A U L C n f buf hp v w) (hh : Ho M S (Fs A U L C n) v' hp' w') (ho : Oth (fun k => k = S ∨ v.ownBlock = some k) w w') : Sg M S A U L C n f buf hp' v' w' := by
  have hk : ∀ k, k < M → k ≠ S → w'.heap[k]? = w.heap[k]? := fun k h1 h2 => ho.block k (by have := h.ho.le; omega) fun e => by
    rcases e with e | e
    · exact h2 e
    · have := (h.ho.hv.own.lt k e).1; omega
  exact ⟨hh, h.lk.of_block (hk L h.lL (Ne.symm h.dSL)), by obtain ⟨s, r, e⟩ := h.ch; exact ⟨s, r, (hk C h.lC (Ne.symm h.dSC)).trans e⟩, h.lL, h.lC, h.dSL, h.dSC, h.dLC⟩

/-- What next has come to. -/
structure Nx (M S A U L C n : Nat) (f : Nat → Nat) (buf hp : List Nat) (v : Value) (w : World) (buf' hp' : List Nat) (v' : Value) (w' : World) : Prop where
  sg : Sg M S A U L C n f buf' hp' v' w'
  isHp : Hp hp'
  perm : (hp' ++ buf').Perm (hp ++ buf)
  oth : Oth (fun k => k = S ∨ k = C ∨ v.ownBlock = some k) w w'
  fr : v'.ownBlock = v.ownBlock ∨ ∀ g, v'.ownBlock = some g → w.heap.size ≤ g

theorem Nx.recv {M S A U L C n : Nat} {f : Nat → Nat} {buf hp : List Nat} {v : Value} {w : World} {x : Nat} {buf' hp' : List Nat} {v' : Value} {w' : World} (h : Nx M S A U L C n f buf hp v w (x :: buf') hp' v' w') (s r : Nat) :
    Sg M S A U L C n f buf' hp' v' (w'.setChan C n (fi.nV buf').toArray false s r false) ∧ Oth (fun k => k = S ∨ k = C ∨ v.ownBlock = some k) w (w'.setChan C n (fi.nV buf').toArray false s r false) :=
  ⟨h.sg.chan buf' s r, h.oth.chan (X := fun k => k = S ∨ k = C ∨ v.ownBlock = some k) (.inr (.inl rfl)) _ _ _ _ _ _⟩

theorem Nx.push {M S A U L C n : Nat} {f : Nat → Nat} {buf hp : List Nat} {v : Value} {w : World} {x : Nat} {buf' hp' hp2 : List Nat} {v' v2 : Value} {w' w1 w2 : World} (h : Nx M S A U L C n f buf hp v w (x :: buf') hp' v' w') (h1 : Sg M S A U L C n f buf' hp' v' w1) (h2 : Oth (fun k => k = S ∨ k = C ∨ v.ownBlock = some k) w w1) (hs : w'.heap.size ≤ w1.heap.size)
    (h3 : Ho M S (Fs A U L C n) v2 hp2 w2) (h4 : hp2.Perm (x :: hp')) (h5 : Hp hp2) (h6 : Oth (fun k => k = S ∨ v'.ownBlock = some k) w1 w2) (h7 : v2.ownBlock = v'.ownBlock ∨ ∀ g, v2.ownBlock = some g → w1.heap.size ≤ g) : Nx M S A U L C n f buf hp v w buf' hp2 v2 w2 := by
  refine ⟨h1.heap h3 h6, h5, ?_, h2.then h6 fun i hi e => ?_, ?_⟩
  · exact (h4.append_right buf').trans ((List.perm_middle (a := x) (l₁ := hp') (l₂ := buf')).symm.trans h.perm)
  · rcases e with e | e
    · exact .inl e
    · rcases h.fr with h8 | h8
      · exact .inr (.inr (by rw [← h8]; exact e))
      · have := h8 i e; omega
  · rcases h7 with e | e
    · rw [e]; exact h.fr
    · exact .inr fun g hg => by have := e g hg; have := h2.size; omega

/-- What next answers. -/
def NxR (M S A U L C n : Nat) (f : Nat → Nat) (buf hp : List Nat) (v : Value) (w : World) (e : Ending) (w' : World) : Prop := (hp = [] ∧ buf = [] ∧ e = .returned (.tuple #[.int .i64 0, .bool false]) ∧ Oth (fun k => k = S ∨ k = C ∨ v.ownBlock = some k) w w') ∨ ∃ x hp' v', e = .returned (.tuple #[.int .i64 ((x : Nat) : Int), .bool true]) ∧ (hp ++ buf).Perm (x :: hp') ∧ (∀ y ∈ hp ++ buf, x ≤ y) ∧ Hp hp' ∧ Sg M S A U L C n f [] hp' v' w' ∧ Oth (fun k => k = S ∨ k = C ∨ v.ownBlock = some k) w w' ∧ (v'.ownBlock = v.ownBlock ∨ ∀ g, v'.ownBlock = some g → w.heap.size ≤ g)
/-- How its rounds begin. -/
def NxI (M S A U L C n : Nat) (f : Nat → Nat) (buf hp : List Nat) (v : Value) (w : World) (a : Act) (wr : World) : Prop := ∃ u4 u5 u6 u7 u8 u9 u10 u11 u12 u13 u14 u15 u16 u17 u18 u19 u20 u21 u22 u23 buf' hp' v', a = { tmps := #[.pointer (some ⟨S, 0, none⟩), undef, .int .i64 0, .bool false, u4, u5, u6, u7, u8, u9, u10, u11, u12, u13, u14, u15, u16, u17, u18, u19, u20, u21, u22, u23], defers := [] } ∧ Nx M S A U L C n f buf hp v w buf' hp' v' wr

set_option maxRecDepth 100000 in
set_option maxHeartbeats 4000000 in
theorem next_any {M S A U L C n : Nat} {f : Nat → Nat} {buf hp : List Nat} {v : Value} (w : World) (h : Sg M S A U L C n f buf hp v w) (hh : Hp hp) (hl : hp.length + buf.length ≤ 1000) :
    Calls Try.prog 67 #[.pointer (some ⟨S, 0, none⟩)] w fun e w' => NxR M S A U L C n f buf hp v w e w' := by
  have HN0 : Hid (Nx M S A U L C n f buf hp v w buf hp v w) := ⟨h, hh, List.Perm.refl _, Oth.refl _ _, .inl rfl⟩
  clear h hh
  refine cn.calls_of_wpN Try.func67 rfl ?_
  simp only [Try.ntmps67, List.size_toArray, List.length_cons, List.length_nil, Nat.reduceAdd, Nat.reduceSub, Array.replicate_succ,
     Array.replicate_zero, List.push_toArray, List.append_toArray, List.nil_append, List.cons_append]
  apply cn.wpN_seq_k
  intro K hK
  go_wp2
  refine cn.wpN_block ?_
  refine cn.wpN_loop (NxI M S A U L C n f buf hp v w) (fun _ wr => cSz C wr) ?_ ?_
  · exact ⟨_, _, _, _, _, _, _, _, _, _, _, _, _, _, _, _, _, _, _, _, buf, hp, v, rfl, HN0.out⟩
  rintro a wr ⟨u4, u5, u6, u7, u8, u9, u10, u11, u12, u13, u14, u15, u16, u17, u18, u19, u20, u21, u22, u23, buf', hp', v', rfl, hnx⟩
  have HNX := Lib.hid hnx
  have c3 : wr.cell? ⟨S, 3, none⟩ = some (.chan (some C)) := hnx.sg.ho.row.cell (i := 3) (by decide)
  have hln : hp'.length + buf'.length ≤ 1000 := by have := hnx.perm.length_eq; simp only [List.length_append] at this; omega
  clear hnx HN0
  refine cn.wpN_block ?_
  generalize hQ : Exit.inBlock 1 _ = Q
  have HQN : Hid (∀ a' w', NxI M S A U L C n f buf hp v w a' w' → cSz C w' < cSz C wr → Q .normal a' w') := by
    intro a' w' h1 h2
    subst hQ
    exact ⟨h1, h2⟩
  have HQR : Hid (∀ a' w', bodyPost Try.prog Try.f67 (NxR M S A U L C n f buf hp v w) .ret a' w' → Q .ret a' w') := by
    intro a' w' h1
    subst hQ
    exact h1
  clear hQ
  have HSZ := Lib.hid HNX.out.sg.sz
  apply cn.wpN_seq_k
  intro K hK
  go_wp2
  refine cn.wpN_seq ?_
  refine cn.wpN_region ?_
  obtain ⟨s, r, hch⟩ := HNX.out.sg.ch
  cases buf' with
  | nil =>
    have hch' : wr.heap[C]? = some (.chan n #[] false s r false) := hch
    refine cn.SN_deft (c := C) (z := .int .i64 0) rfl rfl (by go_simp; rfl) hch' ?_
    refine cn.SN_val (.int .i64 (-1)) wr rfl rfl (by go_simp) ?_
    refine cn.SN_val (.bool false) wr rfl rfl (by go_simp) ?_
    refine cn.SN_nil ?_
    simp only [aP, Exit.then]
    refine cn.wpN_block ?_
    refine cn.wpN_cond rfl ?_
    simp only [if_false, Bool.false_eq_true]
    refine cn.wpN_of ?_
    show Code.wp _ _ _ ({ tmps := #[.pointer (some ⟨S, 0, none⟩), undef, .int .i64 0, .bool false, u4, .pointer (some ⟨S, 0, none⟩), .pointer (some ⟨S, 0, none⟩), .pointer (some ⟨S, 3, none⟩), .chan (some C), .tuple #[goInt (-1), .bool false, .int .i64 0], .int .i64 (-1), .bool false, u12, u13, u14, u15, u16, u17, u18, u19, u20, u21, u22, u23], defers := [] } : Act) wr
    clear hch hch' HSZ HQN
    cases hp' with
    | nil =>
      have HPO := Lib.hid (pop_none M S _ v' wr HNX.out.sg.ho)
      have HEN : Hid (hp = [] ∧ buf = []) := by have := HNX.out.perm.length_eq; simp at this; exact ⟨List.eq_nil_of_length_eq_zero (by omega), List.eq_nil_of_length_eq_zero (by omega)⟩
      go_wp2_with (go_at_call 89; refine HPO.out.mono ?_; rintro e w5 ⟨rfl, rfl⟩; refine Hid.out ?_)
      refine Lib.hid ?_
      go_wp2
      refine HQR.out _ _ ?_
      go_ret2
      exact .inl ⟨HEN.out.1, HEN.out.2, rfl, HNX.out.oth⟩
    | cons y hp' =>
      have HPO := Lib.hid (pop_any M S _ v' (y :: hp') wr HNX.out.sg.ho HNX.out.isHp (by simp) (by simp at hln ⊢; omega))
      generalize hY : y :: hp' = Y at *
      go_wp2_with (go_at_call 89; refine HPO.out.mono ?_; rintro e w5 ⟨rfl, v5, l5, h51, h52, h53, h54, h55⟩; refine Hid.out ?_)
      refine Lib.hid ?_
      have HEN : Hid (NxR M S A U L C n f buf hp v w (.returned (.tuple #[.int .i64 ((gt Y 0 : Nat) : Int), .bool true])) w5) := by
        have hpm := HNX.out.perm
        rw [List.append_nil] at hpm
        refine .inr ⟨gt Y 0, l5, v5, rfl, hpm.symm.trans h52, fun z hz => least_of h52 HNX.out.isHp.min z (hpm.mem_iff.2 hz), h53, HNX.out.sg.heap h51 h54, HNX.out.oth.then h54 fun i hi e => ?_, ?_⟩
        · rcases e with e | e
          · exact .inl e
          · rcases HNX.out.fr with h8 | h8
            · exact .inr (.inr (by rw [← h8]; exact e))
            · have := h8 i e; omega
        · rw [h55]; exact HNX.out.fr
      clear h51 h52 h53 h54 h55
      go_wp2
      refine HQR.out _ _ ?_
      go_ret2
      exact HEN.out
  | cons x buf' =>
    have hch' : 0 < (fi.nV (x :: buf')).toArray.size := by rw [List.size_toArray, fi.nV_len]; simp
    refine cn.SN_recv (c := C) (z := .int .i64 0) rfl rfl (by go_simp; rfl) hch hch' ?_
    have hg0 : (fi.nV (x :: buf')).toArray.getD 0 undef = .int .i64 (x : Int) := by simp [fi.nV]
    have hg1 : (fi.nV (x :: buf')).toArray.extract 1 (fi.nV (x :: buf')).toArray.size = (fi.nV buf').toArray := by
      simp [fi.nV]
      exact List.take_of_length_le (by simp)
    rw [hg0, hg1]
    obtain ⟨h1, h2⟩ := HNX.out.recv s (r + 1)
    obtain ⟨W1, hW1⟩ : ∃ W, wr.setChan C n (fi.nV buf').toArray false s (r + 1) false = W := ⟨_, rfl⟩
    have hs1 : wr.heap.size ≤ W1.heap.size := by rw [← hW1, Go.Conc.size_setChan]; exact Nat.le_refl _
    rw [hW1] at h1 h2 ⊢
    clear hW1 hg0 hg1 hch hch'
    refine cn.SN_val (.int .i64 0) W1 rfl rfl (by go_simp) ?_
    refine cn.SN_val (.bool true) W1 rfl rfl (by go_simp) ?_
    refine cn.SN_nil ?_
    simp only [aP, Exit.then]
    refine cn.wpN_block ?_
    refine cn.wpN_cond rfl ?_
    simp only [if_true]
    refine cn.wpN_of ?_
    show Code.wp _ _ _ ({ tmps := #[.pointer (some ⟨S, 0, none⟩), undef, .int .i64 0, .bool false, u4, .pointer (some ⟨S, 0, none⟩), .pointer (some ⟨S, 0, none⟩), .pointer (some ⟨S, 3, none⟩), .chan (some C), .tuple #[goInt 0, .bool true, .int .i64 (x : Int)], .int .i64 0, .bool true, u12, u13, u14, u15, u16, u17, u18, u19, u20, u21, u22, u23], defers := [] } : Act) W1
    have HPU := Lib.hid (push_any M S _ v' hp' x W1 h1.ho HNX.out.isHp (by simp at hln; omega))
    have HNP := Lib.hid fun (hp2 : List Nat) (v2 : Value) (w2 : World) a b c d e => HNX.out.push (hp2 := hp2) (v2 := v2) (w2 := w2) h1 h2 hs1 a b c d e
    clear h1 h2 hs1 HQR
    go_wp2_with (go_at_call 88; refine HPU.out.mono ?_; rintro e w5 ⟨rfl, v5, l5, h51, h52, h53, h54, h55⟩; refine Hid.out ?_)
    refine Lib.hid ?_
    have HN5 := Lib.hid (HNP.out l5 v5 w5 h51 h52 h53 h54 h55)
    have HZ5 := Lib.hid HN5.out.sg.sz
    clear h51 h52 h53 h54 h55
    go_wp2
    refine HQN.out _ _ ⟨_, _, _, _, _, _, _, _, _, _, _, _, _, _, _, _, _, _, _, _, buf', l5, v5, rfl, HN5.out⟩ ?_
    rw [HSZ.out, HZ5.out]
    simp
end Go.Proofs.Ytdddplhfhpghkaa.hp
