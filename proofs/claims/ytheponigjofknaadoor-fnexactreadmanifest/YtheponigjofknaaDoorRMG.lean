import Derived.Test.YtheponigjofknaaDoorRMF
namespace Go.Proofs.YtheponigjofknaaDoor.mt
open Go.ChangeShapes Go.WideShapes Go.ChangeAt Go.RowKit Go.Deep
set_option linter.unusedVariables false
set_option linter.unusedSimpArgs false

/-! ### (*impl.Manifest).take -/

/-- The program's row of refs: the empty one at b1, or one of its own from B on. -/
def Rw (B b1 : Nat) (W : World) (v : Value) (l : List ByteArray) : Prop := (v = .slice (some ⟨b1, 0, none⟩) 0 0 ∧ l = []) ∨ (W.ownsRow B 9 1 v l.length (l.map Value.string) ∧ v ≠ .slice none 0 0)
theorem Rw.shape {B b1 : Nat} {W : World} {v : Value} {l : List ByteArray} (h : Rw B b1 W v l) : ∃ a cap, v = .slice a l.length cap := by
  rcases h with ⟨rfl, rfl⟩ | ⟨h, _⟩
  · exact ⟨_, _, rfl⟩
  · exact own_shape h
theorem Rw.kept {B b1 : Nat} {W W' : World} {v : Value} {l : List ByteArray} (h : Rw B b1 W v l) (hk : ∀ k, B ≤ k → (∃ cs t m, W.heap[k]? = some (.cells cs t m)) → W'.heap[k]? = W.heap[k]?) : Rw B b1 W' v l := by
  rcases h with h | ⟨⟨e0, h'⟩, h2⟩
  · exact .inl h
  · refine .inr ⟨⟨e0, ?_⟩, h2⟩
    rcases h' with h' | ⟨g, cap, cur, e, q1, q2, q3⟩
    · exact .inl h'
    · exact .inr ⟨g, cap, cur, e, q1, (hk g q1 ⟨_, _, _, q2⟩).trans q2, q3⟩
theorem Rw.below {B b1 : Nat} {W W' : World} {v : Value} {l : List ByteArray} (h : Rw B b1 W v l) (hb : Below W.heap.size W W') : Rw B b1 W' v l :=
  h.kept (fun k _ ⟨_, _, _, e⟩ => hb.block k (Array.getElem?_eq_some_iff.1 e).1)

/-- An append to it. -/
theorem rw_app {B b1 : Nat} {W : World} {v : Value} {l : List ByteArray} {y : ByteArray} {ad : Addr} (h : Rw B b1 W v l) (hy : W.cell? ad = some (.string y)) (hB : B ≤ W.heap.size) (hl : l.length ≤ 2000000) :
    ∃ a6 c6 W6, (Builtin.append_ #[22, 22] 22 #[v, .slice (some ad) 1 1]).run Tryd.prog W = .ok (.slice a6 (l.length + 1) c6) W6 ∧ Rw B b1 W6 (.slice a6 (l.length + 1) c6) (l ++ [y]) ∧ ∃ row, W.grownBy W6 row ∧ ∀ k, row = some k → B ≤ k ∧ ∃ cs t m, W.heap[k]? = some (.cells cs t m) := by
  obtain ⟨i0, hi, hz0, hz1, hz2⟩ := sr.info_parts sr.info9
  have hnews : ∀ j u, [Value.string y][j]? = some u → W.cell? (ad.add j) = some u := fun j u hj => by
    match j with
    | 0 => simp at hj; subst hj; simpa [Addr.add] using hy
    | j + 1 => simp at hj
  have hone : ∀ u ∈ [Value.string y], u.oneCell' = true := fun u hu => by
    simp only [List.mem_singleton] at hu
    subst hu
    rfl
  rcases h with ⟨rfl, rfl⟩ | ⟨hown, hv⟩
  · obtain ⟨v', w', hr, h1, h2, h3⟩ := run_append_own (P := Tryd.prog) W B 22 22 9 i0 _ 1 16 Tryd.underlying22 hi hz0 hz1 hz2 rfl (by omega) (.slice none 0 0) 0 [] (World.ownsRow_nil W B 9 1) ad 1 1 [.string y] rfl hnews hone (by unfold maxLen; omega) (by omega) hB
    have hn := run_append_nil (P := Tryd.prog) W 22 22 9 i0 _ Tryd.underlying22 hi hz0 ad 1 1 [.string y] (by rw [hz1]; rfl) hnews (by omega) (by omega) (by rw [hz2]; decide)
    have hg := run_append_grow (P := Tryd.prog) W 22 22 9 i0 _ Tryd.underlying22 hi hz0 ⟨b1, 0, none⟩ 0 0 [] (by simp) (by simp) ad 1 1 [.string y] (by rw [hz1]; rfl) hnews (by omega) (by omega) (by rw [hz2]; decide)
    rw [hn] at hr
    simp only [Result.ok.injEq] at hr
    obtain ⟨e1, e2⟩ := hr
    subst e1 e2
    refine ⟨_, _, _, hg.trans ?_, .inr ⟨h1, by simp⟩, none, h2, by simp⟩
    simp
  · obtain ⟨v', w', hr, h1, h2, h3⟩ := run_append_own (P := Tryd.prog) W B 22 22 9 i0 _ 1 16 Tryd.underlying22 hi hz0 hz1 hz2 rfl (by omega) v l.length (l.map Value.string) hown ad 1 1 [.string y] rfl hnews hone (by unfold maxLen; omega) (by omega) hB
    have h1' : w'.ownsRow B 9 1 v' (l ++ [y]).length ((l ++ [y]).map Value.string) := by
      rw [List.length_append, List.map_append]
      exact h1
    obtain ⟨a6, c6, rfl⟩ := own_shape h1
    refine ⟨a6, c6, w', hr, .inr ⟨h1', fun e => hv (h3.1 e).1⟩, v.ownBlock, h2, fun k hk => ⟨(hown.lt k hk).1, ?_⟩⟩
    obtain ⟨e0, h'⟩ := hown
    rcases h' with ⟨rfl, _⟩ | ⟨g, cap, cur, rfl, q1, q2, q3⟩
    · exact absurd rfl hv
    · simp [Value.ownBlock] at hk
      subst hk
      exact ⟨_, _, _, q2⟩

theorem wp_app {o : Oper} {a : Act} {W W6 : World} {v v6 : Value} {ad : Addr} {K : Act → World → Prop} {Q : Exit → Act → World → Prop} (s x : Operand) (ho : o.op = .call { callee := .builtin .append, args := #[s, x], argTypes := #[22, 22] }) (hty : o.type = 22) (hs : a.eval s = v) (hx : a.eval x = .slice (some ad) 1 1)
    (hr : (Builtin.append_ #[22, 22] 22 #[v, .slice (some ad) 1 1]).run Tryd.prog W = .ok v6 W6) (h : K (a.put o.dst v6) W6) : o.wp Tryd.prog a W K Q := by
  unfold Oper.wp execOp
  simp only [ho, hty, resolve, invoke, builtin, Sem.run_bind, Sem.run_pure, Result.andThen_ok, List.map_toArray, List.map_cons, List.map_nil, hs, hx, hr]
  exact h

/-- The manifest behind the pointer. -/
def MP (b B b1 : Nat) (M : Mf) (W : World) : Prop := ∃ vr, SixC W b (.string M.path) (.string M.sum) (.int .i64 M.z) vr (.string M.key) (.int .u64 (M.sig : Int)) ∧ Rw B b1 W vr M.l ∧ ∀ j, W.frozen? ⟨b, j, none⟩ = false
theorem MP.below {b B b1 : Nat} {M : Mf} {W W' : World} (h : MP b B b1 M W) (hb : Below W.heap.size W W') : MP b B b1 M W' := by
  obtain ⟨vr, h6, hr, hf⟩ := h
  exact ⟨vr, h6.belowM hb, hr.below hb, fun j => ((bcell hb).2 _ _ (World.block_lt_of_cell? _ _ h6.1)).trans (hf j)⟩
theorem MP.set {b B b1 k : Nat} {M : Mf} {vr v : Value} {W : World} (hb : b < B) (h6 : SixC (W.setCell ⟨b, k, none⟩ v) b (.string M.path) (.string M.sum) (.int .i64 M.z) vr (.string M.key) (.int .u64 (M.sig : Int))) (hr : Rw B b1 W vr M.l) (hf : ∀ j, W.frozen? ⟨b, j, none⟩ = false) : MP b B b1 M (W.setCell ⟨b, k, none⟩ v) :=
  ⟨vr, h6, hr.kept (fun q hq _ => blk_oth (by omega)), fun j => by rw [World.frozen?_setCell]; exact hf j⟩

/-- What take leaves alone. -/
structure TkK (b B : Nat) (W W' : World) : Prop where
  keeps : KeepsOthers W W'
  os : W'.os = W.os
  tape : W'.tape = W.tape
  output : W'.output = W.output
  block : ∀ k, k < B → k ≠ b → W'.heap[k]? = W.heap[k]?
theorem keeps_below {W W' : World} (h : Below W.heap.size W W') : KeepsOthers W W' := ⟨h.size, fun k o hk _ => (h.block k (Array.getElem?_eq_some_iff.1 hk).1).trans hk⟩
theorem TkK.of_below {b B : Nat} {W W' : World} (h : Below W.heap.size W W') (hB : B ≤ W.heap.size) : TkK b B W W' := ⟨keeps_below h, h.os, h.tape, h.output, fun k hk _ => h.block k (by omega)⟩
theorem TkK.set {b B k : Nat} {W W' : World} {v : Value} (h : TkK b B W W') : TkK b B W (W'.setCell ⟨b, k, none⟩ v) :=
  ⟨h.keeps.trans (KeepsOthers.setCell _ _ _), h.os, h.tape, h.output, fun q hq hne => (blk_oth hne).trans (h.block q hq hne)⟩
theorem TkK.grown {b B : Nat} {W W1 W' : World} {row : Option Nat} (h : TkK b B W W1) (hB : B ≤ W1.heap.size) (hg : W1.grownBy W' row) (hr : ∀ k, row = some k → B ≤ k ∧ ∃ cs t m, W1.heap[k]? = some (.cells cs t m)) : TkK b B W W' :=
  ⟨h.keeps.trans (KeepsOthers.of_grownBy hg (fun j o e ho => by obtain ⟨_, cs, t, m, hc⟩ := hr j e; rw [hc] at ho; cases ho; rfl)), hg.os.trans h.os, hg.tape.trans h.tape, hg.output.trans h.output, fun q hq hne => (hg.block q (by omega) (fun e => by have := (hr q e.symm).1; omega)).trans (h.block q hq hne)⟩

def TkR (b B b1 : Nat) (M : Mf) (W W' : World) (e : Ending) : Prop := (∃ v, e = .returned v) ∧ MP b B b1 M W' ∧ TkK b B W W'

set_option maxRecDepth 100000 in
set_option maxHeartbeats 4000000 in
theorem take_any (b B b1 : Nat) (x : List UInt8) (hx : x.length ≤ 1048576) (M : Mf) (w : World) (hb : b < B) (hB : B ≤ w.heap.size) (hM : MP b B b1 M w) (hl : M.l.length ≤ 2000000) (hE : EC w) (hT : wd.TabB w) :
    Calls Tryd.prog 39 #[.pointer (some ⟨b, 0, none⟩), .string (BA (cutW x)), .string (BA (cutR x))] w fun e w' => TkR b B b1 (tk pI M x) w w' e := by
  have hrz : (BA (cutR x)).size ≤ 1048576 := by rw [BA_size]; exact Nat.le_trans (cutR_len x) hx
  obtain ⟨y, hy⟩ : ∃ y, (wd.rwX (BA (cutR x))).toNat = y := ⟨_, rfl⟩
  have HY : Hid ((wd.rwX (BA (cutR x))).toNat = y) := hy
  have HCL : Hid (∀ W, Calls Tryd.prog 52 #[.string (BA (cutR x))] W fun e w' => e = .returned (.string (BA (cutR x))) ∧ Below W.heap.size W w') := fun W => cl.clone_any _ W (by omega)
  have HPI : Hid (Calls Tryd.prog 63 #[.string (BA (cutR x)), .int .i64 10, .int .i64 64] w fun e w' => (∃ ev, e = .returned (.tuple #[.int .i64 (pI (cutR x)), ev])) ∧ Below w.heap.size w w') := pint_any (BA (cutR x)) hrz w hE
  have HRW : Hid (Calls Tryd.prog 44 #[.string (BA (cutR x))] w fun e w' => e = .returned (.tuple #[.int .u64 (y : Int), .bool (wd.rwB (BA (cutR x)))]) ∧ Below w.heap.size w w') := by
    have := wd.rimpl_any (BA (cutR x)) hrz w hT
    rw [← (rwX_rng _).1, hy] at this
    exact this
  have HM := Lib.hid hM
  have HB := Lib.hid hB
  have HBB := Lib.hid hb
  have HLL := Lib.hid hl
  obtain ⟨W, hW⟩ : ∃ W, BA (cutW x) = W := ⟨_, rfl⟩
  rw [hW]
  clear hrz hy hE hT hM hB hb hl
  by_cases h0 : cutW x = wPath
  · have HT : Hid (tk pI M x = { M with path := BA (cutR x) }) := by show _ = _; unfold tk; rw [if_pos h0]
    have hwe : W = ⟨#[112, 97, 116, 104]⟩ := by rw [← hW, h0]; rfl
    subst hwe
    clear hW h0
    go_enter Tryd.func39, Tryd.ntmps39
    go_wp2_with (first | (go_at_call 52; refine (HCL.out _).mono ?_; rintro e w2 ⟨rfl, hb2⟩; refine Hid.out ?_) | go_in)
    refine Lib.hid ?_
    obtain ⟨vr, h6, hrw, hff⟩ := HM.out.below hb2
    have HS6 := Lib.hid h6
    have HRW3 := Lib.hid hrw
    have HFF := Lib.hid hff
    have q := hff 0
    obtain ⟨c0, c1, c2, c3, c4, c5⟩ := h6
    have HTK : Hid (TkK b B w w2) := TkK.of_below hb2 HB.out
    clear hrw hff hb2
    go_wp2
    go_end0
    exact ⟨⟨_, rfl⟩, by rw [HT.out]; exact MP.set (M := { M with path := BA (cutR x) }) HBB.out (six_set0 HS6.out) HRW3.out HFF.out, HTK.out.set⟩
  by_cases h1 : cutW x = wSum
  · have HT : Hid (tk pI M x = { M with sum := BA (cutR x) }) := by show _ = _; unfold tk; rw [if_neg h0, if_pos h1]
    have hwe : W = ⟨#[115, 117, 109]⟩ := by rw [← hW, h1]; rfl
    subst hwe
    clear hW h1
    go_enter Tryd.func39, Tryd.ntmps39
    go_wp2_with (first | (go_at_call 52; refine (HCL.out _).mono ?_; rintro e w2 ⟨rfl, hb2⟩; refine Hid.out ?_) | go_in)
    refine Lib.hid ?_
    obtain ⟨vr, h6, hrw, hff⟩ := HM.out.below hb2
    have HS6 := Lib.hid h6
    have HRW3 := Lib.hid hrw
    have HFF := Lib.hid hff
    have q := hff 1
    obtain ⟨c0, c1, c2, c3, c4, c5⟩ := h6
    have HTK : Hid (TkK b B w w2) := TkK.of_below hb2 HB.out
    clear hrw hff hb2
    go_wp2
    go_end0
    exact ⟨⟨_, rfl⟩, by rw [HT.out]; exact MP.set (M := { M with sum := BA (cutR x) }) HBB.out (six_set1 HS6.out) HRW3.out HFF.out, HTK.out.set⟩
  by_cases h2 : cutW x = wSize
  · have HT : Hid (tk pI M x = { M with z := pI (cutR x) }) := by show _ = _; unfold tk; rw [if_neg h0, if_neg h1, if_pos h2]
    have hwe : W = ⟨#[115, 105, 122, 101]⟩ := by rw [← hW, h2]; rfl
    subst hwe
    clear hW h2
    go_enter Tryd.func39, Tryd.ntmps39
    go_wp2_with (first | (go_at_call 63; refine HPI.out.mono ?_; rintro e w2 ⟨⟨ev, rfl⟩, hb2⟩; refine Hid.out ?_) | go_in)
    refine Lib.hid ?_
    obtain ⟨vr, h6, hrw, hff⟩ := HM.out.below hb2
    have HS6 := Lib.hid h6
    have HRW3 := Lib.hid hrw
    have HFF := Lib.hid hff
    have q := hff 2
    obtain ⟨c0, c1, c2, c3, c4, c5⟩ := h6
    have HTK : Hid (TkK b B w w2) := TkK.of_below hb2 HB.out
    clear hrw hff hb2
    go_wp2
    go_end0
    exact ⟨⟨_, rfl⟩, by rw [HT.out]; exact MP.set (M := { M with z := pI (cutR x) }) HBB.out (six_set2 HS6.out) HRW3.out HFF.out, HTK.out.set⟩
  by_cases h3 : cutW x = wRef
  · have HT : Hid (tk pI M x = { M with l := M.l ++ [BA (cutR x)] }) := by show _ = _; unfold tk; rw [if_neg h0, if_neg h1, if_neg h2, if_pos h3]
    have hwe : W = ⟨#[114, 101, 102]⟩ := by rw [← hW, h3]; rfl
    subst hwe
    clear hW h3
    go_enter Tryd.func39, Tryd.ntmps39
    go_wp2_with fail
    obtain ⟨vr, h6, hrw, hff⟩ := HM.out
    have HS6 := Lib.hid h6
    have HRW3 := Lib.hid hrw
    have HFF := Lib.hid hff
    have HL0 : Hid (∀ Z, Below w.heap.size w Z → Z.cell? ⟨b, 3, none⟩ = some vr) := fun Z h => (h6.belowM h).2.2.2.1
    obtain ⟨ar, cr, hvr⟩ := hrw.shape
    subst hvr
    have C0 : Below w.heap.size w w.drew := (Below.refl _ _).drew
    have hc0 := HL0.out _ C0
    clear h6 hrw hff
    refine wp_region_held_drew (S := fun _ => True) (by kernel_rfl) (trivial) (fun hHeld => ?_)
    refine wpAnyH_take (i := 0) (oi := ⟨some 33, .move (.tmp 0), 80, "l16_cache.go:86", #[], none⟩) (v := ?v1) rfl (by kernel_rfl) (by kernel_rfl) (by kernel_rfl) (fun _ _ _ h => h) (Or.inl ⟨by rfl, ?hy1⟩) (by assumption) ?r1
    case hy1 => (intro w hSw; (try dsimp only at hSw); go_simp; try with_reducible rfl)
    try simp only [Act.put, List.setIfInBounds_toArray, List.set_cons_zero, List.set_cons_succ]
    refine wpAnyH_take (i := 1) (oi := ⟨some 34, .move (.tmp 0), 80, "l16_cache.go:86", #[], none⟩) (v := ?v2) rfl (by kernel_rfl) (by kernel_rfl) (by kernel_rfl) (fun _ _ _ h => h) (Or.inl ⟨by rfl, ?hy2⟩) (by assumption) ?r2
    case hy2 => (intro w hSw; (try dsimp only at hSw); go_simp; try with_reducible rfl)
    try simp only [Act.put, List.setIfInBounds_toArray, List.set_cons_zero, List.set_cons_succ]
    refine wpAnyH_take (i := 2) (oi := ⟨some 35, .nilCheck (.tmp 34), 0, "l16_cache.go:86", #[⟨1, .data⟩], none⟩) (v := ?v3) rfl (by kernel_rfl) (by kernel_rfl) (by kernel_rfl) (fun _ _ _ h => h) (Or.inl ⟨by rfl, ?hy3⟩) (by assumption) ?r3
    case hy3 => (intro w hSw; (try dsimp only at hSw); go_simp; try with_reducible rfl)
    try simp only [Act.put, List.setIfInBounds_toArray, List.set_cons_zero, List.set_cons_succ]
    refine wpAnyH_take (i := 3) (oi := ⟨some 36, .fieldAddr 28 (.tmp 35) 3, 0, "l16_cache.go:86", #[⟨2, .data⟩], none⟩) (v := ?v4) rfl (by kernel_rfl) (by kernel_rfl) (by kernel_rfl) (fun _ _ _ h => h) (Or.inl ⟨by rfl, ?hy4⟩) (by assumption) ?r4
    case hy4 => (intro w hSw; (try dsimp only at hSw); go_simp; try with_reducible rfl)
    try simp only [Act.put, List.setIfInBounds_toArray, List.set_cons_zero, List.set_cons_succ]
    refine wpAnyH_take (i := 5) (oi := ⟨some 38, .move (.tmp 2), 9, "l16_cache.go:86", #[], none⟩) (v := ?v5) rfl (by kernel_rfl) (by kernel_rfl) (by kernel_rfl) (fun _ _ _ h => h) (Or.inl ⟨by rfl, ?hy5⟩) (by assumption) ?r5
    case hy5 => (intro w hSw; (try dsimp only at hSw); go_simp; try with_reducible rfl)
    try simp only [Act.put, List.setIfInBounds_toArray, List.set_cons_zero, List.set_cons_succ]
    refine wpAnyH_ready (rs := [4, 6]) (by kernel_rfl) (by simp) ?_
    refine AllReadyH.cons (o := ⟨some 37, .load 22 (.tmp 36), 22, "l16_cache.go:86", #[⟨3, .data⟩], none⟩) rfl (fun K hK => ?_) (AllReadyH.cons (o := ⟨some 39, .call { callee := .value (.func 52), args := #[.tmp 38], argTypes := #[9] }, 9, "l16_cache.go:86", #[⟨5, .data⟩], none⟩) rfl (fun K hK => ?_) AllReadyH.nil)
    · go_simp
      skip
      try go_wp2_with fail
      refine hK.out _ _ trivial (fun hHeld => ?_)
      clear hK K
      try simp only [Act.put, List.setIfInBounds_toArray, List.set_cons_zero, List.set_cons_succ]
      refine wpAnyH_ready (rs := [6]) (by kernel_rfl) (by simp) ?_
      refine AllReadyH.cons (o := ⟨some 39, .call { callee := .value (.func 52), args := #[.tmp 38], argTypes := #[9] }, 9, "l16_cache.go:86", #[⟨5, .data⟩], none⟩) rfl (fun K hK => ?_) AllReadyH.nil
      go_simp
      go_at_call 52
      refine (HCL.out _).mono ?_
      rintro e w2 ⟨rfl, hb2⟩
      have C2 := C0.trans (hb2.mono C0.size)
      have C3 : Below w.heap.size w (w2.alloc (.cells #[.string (BA (cutR x))] 9)) := C2.alloc C2.size _
      have hyc : (w2.alloc (.cells #[.string (BA (cutR x))] 9)).cell? ⟨w2.heap.size, 0, none⟩ = some (.string (BA (cutR x))) := by rw [World.cell?_alloc_new]; rfl
      have hB3 : B ≤ (w2.alloc (.cells #[.string (BA (cutR x))] 9)).heap.size := Nat.le_trans HB.out C3.size
      obtain ⟨a6, c6, w6, hap, hrw6, row, hg6, hrow⟩ := rw_app (HRW3.out.below C3) hyc hB3 HLL.out
      have hbk6 : w6.heap[b]? = (w2.alloc (.cells #[.string (BA (cutR x))] 9)).heap[b]? := hg6.block b (Nat.lt_of_lt_of_le HBB.out hB3) (fun e => by have := (hrow b e.symm).1; have := HBB.out; omega)
      have HS7 := Lib.hid ((HS6.out.belowM C3).kept hbk6)
      have HF7 : Hid (∀ j, w6.frozen? ⟨b, j, none⟩ = false) := fun j => (World.frozen?_of_block (a := ⟨b, j, none⟩) hbk6).trans (((bcell C3).2 _ _ (World.block_lt_of_cell? _ _ HS6.out.1)).trans (HFF.out j))
      have HTK : Hid (TkK b B w w6) := (TkK.of_below (b := b) C3 HB.out).grown hB3 hg6 hrow
      have HR6 := Lib.hid hrw6
      have q7 := HF7.out 3
      have c7 := HS7.out.2.2.2.1
      have hc2 := HL0.out _ C2
      have hc3 := HL0.out _ C3
      clear hyc hbk6 hrw6 hg6 hrow hB3
      try go_wp2_with fail
      refine hK.out _ _ (trivial) (fun hHeld => ?_)
      clear hK K
      try simp only [Act.put, List.setIfInBounds_toArray, List.set_cons_zero, List.set_cons_succ]
      refine wpAnyH_ready (rs := [7]) (by kernel_rfl) (by simp) ?_
      refine AllReadyH.cons (o := ⟨some 40, .buildSlice 22 1 #[(0, .tmp 39)], 22, "l16_cache.go:86", #[⟨6, .data⟩], none⟩) rfl (fun K hK => ?_) AllReadyH.nil
      go_simp
      skip
      try go_wp2_with fail
      refine hK.out _ _ (trivial) (fun hHeld => ?_)
      clear hK K
      try simp only [Act.put, List.setIfInBounds_toArray, List.set_cons_zero, List.set_cons_succ]
      refine wpAnyH_ready (rs := [8]) (by kernel_rfl) (by simp) ?_
      refine AllReadyH.cons (o := ⟨some 41, .call { callee := .builtin .append, args := #[.tmp 37, .tmp 40], argTypes := #[22, 22] }, 22, "l16_cache.go:86", #[⟨4, .data⟩, ⟨7, .data⟩, ⟨6, .chain⟩], none⟩) rfl (fun K hK => ?_) AllReadyH.nil
      refine wp_app _ _ rfl rfl rfl rfl hap ?_
      try go_wp2_with fail
      refine hK.out _ _ (trivial) (fun hHeld => ?_)
      clear hK K
      try simp only [Act.put, List.setIfInBounds_toArray, List.set_cons_zero, List.set_cons_succ]
      refine wpAnyH_take (i := 9) (oi := ⟨some 42, .nilCheck (.tmp 33), 0, "l16_cache.go:86", #[⟨0, .data⟩, ⟨0, .phase⟩, ⟨1, .phase⟩, ⟨2, .phase⟩, ⟨3, .phase⟩, ⟨4, .phase⟩, ⟨5, .phase⟩, ⟨6, .phase⟩, ⟨7, .phase⟩, ⟨8, .phase⟩], none⟩) (v := ?v6) rfl (by kernel_rfl) (by kernel_rfl) (by kernel_rfl) (fun _ _ _ h => h) (Or.inl ⟨by rfl, ?hy6⟩) (by assumption) ?r6
      case hy6 => (intro w hSw; (try dsimp only at hSw); go_simp; try with_reducible rfl)
      try simp only [Act.put, List.setIfInBounds_toArray, List.set_cons_zero, List.set_cons_succ]
      refine wpAnyH_take (i := 10) (oi := ⟨some 43, .fieldAddr 28 (.tmp 42) 3, 0, "l16_cache.go:86", #[⟨9, .data⟩, ⟨0, .phase⟩, ⟨1, .phase⟩, ⟨2, .phase⟩, ⟨3, .phase⟩, ⟨4, .phase⟩, ⟨5, .phase⟩, ⟨6, .phase⟩, ⟨7, .phase⟩, ⟨8, .phase⟩], none⟩) (v := ?v7) rfl (by kernel_rfl) (by kernel_rfl) (by kernel_rfl) (fun _ _ _ h => h) (Or.inl ⟨by rfl, ?hy7⟩) (by assumption) ?r7
      case hy7 => (intro w hSw; (try dsimp only at hSw); go_simp; try with_reducible rfl)
      try simp only [Act.put, List.setIfInBounds_toArray, List.set_cons_zero, List.set_cons_succ]
      refine wpAnyH_ready (rs := [11]) (by kernel_rfl) (by simp) ?_
      refine AllReadyH.cons (o := ⟨none, .store 22 (.tmp 43) (.tmp 41), 0, "l16_cache.go:86", #[⟨10, .data⟩, ⟨8, .data⟩, ⟨8, .chain⟩, ⟨0, .phase⟩, ⟨1, .phase⟩, ⟨2, .phase⟩, ⟨3, .phase⟩, ⟨4, .phase⟩, ⟨5, .phase⟩, ⟨6, .phase⟩, ⟨7, .phase⟩, ⟨8, .phase⟩], none⟩) rfl (fun K hK => ?_) AllReadyH.nil
      go_simp
      skip
      try go_wp2_with fail
      refine hK.out _ _ (trivial) (fun hHeld => ?_)
      clear hK K
      try simp only [Act.put, List.setIfInBounds_toArray, List.set_cons_zero, List.set_cons_succ]
      refine wpAnyH_done (by kernel_rfl) ?_ _
      go_wp2
      go_end0
      exact ⟨⟨_, rfl⟩, by rw [HT.out]; exact MP.set (M := { M with l := M.l ++ [BA (cutR x)] }) HBB.out (six_set3 HS7.out) HR6.out HF7.out, HTK.out.set⟩
    · go_simp
      go_at_call 52
      refine (HCL.out _).mono ?_
      rintro e w2 ⟨rfl, hb2⟩
      have C2 := C0.trans (hb2.mono C0.size)
      have C3 : Below w.heap.size w (w2.alloc (.cells #[.string (BA (cutR x))] 9)) := C2.alloc C2.size _
      have hyc : (w2.alloc (.cells #[.string (BA (cutR x))] 9)).cell? ⟨w2.heap.size, 0, none⟩ = some (.string (BA (cutR x))) := by rw [World.cell?_alloc_new]; rfl
      have hB3 : B ≤ (w2.alloc (.cells #[.string (BA (cutR x))] 9)).heap.size := Nat.le_trans HB.out C3.size
      obtain ⟨a6, c6, w6, hap, hrw6, row, hg6, hrow⟩ := rw_app (HRW3.out.below C3) hyc hB3 HLL.out
      have hbk6 : w6.heap[b]? = (w2.alloc (.cells #[.string (BA (cutR x))] 9)).heap[b]? := hg6.block b (Nat.lt_of_lt_of_le HBB.out hB3) (fun e => by have := (hrow b e.symm).1; have := HBB.out; omega)
      have HS7 := Lib.hid ((HS6.out.belowM C3).kept hbk6)
      have HF7 : Hid (∀ j, w6.frozen? ⟨b, j, none⟩ = false) := fun j => (World.frozen?_of_block (a := ⟨b, j, none⟩) hbk6).trans (((bcell C3).2 _ _ (World.block_lt_of_cell? _ _ HS6.out.1)).trans (HFF.out j))
      have HTK : Hid (TkK b B w w6) := (TkK.of_below (b := b) C3 HB.out).grown hB3 hg6 hrow
      have HR6 := Lib.hid hrw6
      have q7 := HF7.out 3
      have c7 := HS7.out.2.2.2.1
      have hc2 := HL0.out _ C2
      have hc3 := HL0.out _ C3
      clear hyc hbk6 hrw6 hg6 hrow hB3
      try go_wp2_with fail
      refine hK.out _ _ trivial (fun hHeld => ?_)
      clear hK K
      try simp only [Act.put, List.setIfInBounds_toArray, List.set_cons_zero, List.set_cons_succ]
      refine wpAnyH_ready (rs := [4, 7]) (by kernel_rfl) (by simp) ?_
      refine AllReadyH.cons (o := ⟨some 37, .load 22 (.tmp 36), 22, "l16_cache.go:86", #[⟨3, .data⟩], none⟩) rfl (fun K hK => ?_) (AllReadyH.cons (o := ⟨some 40, .buildSlice 22 1 #[(0, .tmp 39)], 22, "l16_cache.go:86", #[⟨6, .data⟩], none⟩) rfl (fun K hK => ?_) AllReadyH.nil)
      · go_simp
        skip
        try go_wp2_with fail
        refine hK.out _ _ trivial (fun hHeld => ?_)
        clear hK K
        try simp only [Act.put, List.setIfInBounds_toArray, List.set_cons_zero, List.set_cons_succ]
        refine wpAnyH_ready (rs := [7]) (by kernel_rfl) (by simp) ?_
        refine AllReadyH.cons (o := ⟨some 40, .buildSlice 22 1 #[(0, .tmp 39)], 22, "l16_cache.go:86", #[⟨6, .data⟩], none⟩) rfl (fun K hK => ?_) AllReadyH.nil
        go_simp
        skip
        try go_wp2_with fail
        refine hK.out _ _ (trivial) (fun hHeld => ?_)
        clear hK K
        try simp only [Act.put, List.setIfInBounds_toArray, List.set_cons_zero, List.set_cons_succ]
        refine wpAnyH_ready (rs := [8]) (by kernel_rfl) (by simp) ?_
        refine AllReadyH.cons (o := ⟨some 41, .call { callee := .builtin .append, args := #[.tmp 37, .tmp 40], argTypes := #[22, 22] }, 22, "l16_cache.go:86", #[⟨4, .data⟩, ⟨7, .data⟩, ⟨6, .chain⟩], none⟩) rfl (fun K hK => ?_) AllReadyH.nil
        refine wp_app _ _ rfl rfl rfl rfl hap ?_
        try go_wp2_with fail
        refine hK.out _ _ (trivial) (fun hHeld => ?_)
        clear hK K
        try simp only [Act.put, List.setIfInBounds_toArray, List.set_cons_zero, List.set_cons_succ]
        refine wpAnyH_take (i := 9) (oi := ⟨some 42, .nilCheck (.tmp 33), 0, "l16_cache.go:86", #[⟨0, .data⟩, ⟨0, .phase⟩, ⟨1, .phase⟩, ⟨2, .phase⟩, ⟨3, .phase⟩, ⟨4, .phase⟩, ⟨5, .phase⟩, ⟨6, .phase⟩, ⟨7, .phase⟩, ⟨8, .phase⟩], none⟩) (v := ?v8) rfl (by kernel_rfl) (by kernel_rfl) (by kernel_rfl) (fun _ _ _ h => h) (Or.inl ⟨by rfl, ?hy8⟩) (by assumption) ?r8
        case hy8 => (intro w hSw; (try dsimp only at hSw); go_simp; try with_reducible rfl)
        try simp only [Act.put, List.setIfInBounds_toArray, List.set_cons_zero, List.set_cons_succ]
        refine wpAnyH_take (i := 10) (oi := ⟨some 43, .fieldAddr 28 (.tmp 42) 3, 0, "l16_cache.go:86", #[⟨9, .data⟩, ⟨0, .phase⟩, ⟨1, .phase⟩, ⟨2, .phase⟩, ⟨3, .phase⟩, ⟨4, .phase⟩, ⟨5, .phase⟩, ⟨6, .phase⟩, ⟨7, .phase⟩, ⟨8, .phase⟩], none⟩) (v := ?v9) rfl (by kernel_rfl) (by kernel_rfl) (by kernel_rfl) (fun _ _ _ h => h) (Or.inl ⟨by rfl, ?hy9⟩) (by assumption) ?r9
        case hy9 => (intro w hSw; (try dsimp only at hSw); go_simp; try with_reducible rfl)
        try simp only [Act.put, List.setIfInBounds_toArray, List.set_cons_zero, List.set_cons_succ]
        refine wpAnyH_ready (rs := [11]) (by kernel_rfl) (by simp) ?_
        refine AllReadyH.cons (o := ⟨none, .store 22 (.tmp 43) (.tmp 41), 0, "l16_cache.go:86", #[⟨10, .data⟩, ⟨8, .data⟩, ⟨8, .chain⟩, ⟨0, .phase⟩, ⟨1, .phase⟩, ⟨2, .phase⟩, ⟨3, .phase⟩, ⟨4, .phase⟩, ⟨5, .phase⟩, ⟨6, .phase⟩, ⟨7, .phase⟩, ⟨8, .phase⟩], none⟩) rfl (fun K hK => ?_) AllReadyH.nil
        go_simp
        skip
        try go_wp2_with fail
        refine hK.out _ _ (trivial) (fun hHeld => ?_)
        clear hK K
        try simp only [Act.put, List.setIfInBounds_toArray, List.set_cons_zero, List.set_cons_succ]
        refine wpAnyH_done (by kernel_rfl) ?_ _
        go_wp2
        go_end0
        exact ⟨⟨_, rfl⟩, by rw [HT.out]; exact MP.set (M := { M with l := M.l ++ [BA (cutR x)] }) HBB.out (six_set3 HS7.out) HR6.out HF7.out, HTK.out.set⟩
      · go_simp
        skip
        try go_wp2_with fail
        refine hK.out _ _ trivial (fun hHeld => ?_)
        clear hK K
        try simp only [Act.put, List.setIfInBounds_toArray, List.set_cons_zero, List.set_cons_succ]
        refine wpAnyH_ready (rs := [4]) (by kernel_rfl) (by simp) ?_
        refine AllReadyH.cons (o := ⟨some 37, .load 22 (.tmp 36), 22, "l16_cache.go:86", #[⟨3, .data⟩], none⟩) rfl (fun K hK => ?_) AllReadyH.nil
        go_simp
        skip
        try go_wp2_with fail
        refine hK.out _ _ (trivial) (fun hHeld => ?_)
        clear hK K
        try simp only [Act.put, List.setIfInBounds_toArray, List.set_cons_zero, List.set_cons_succ]
        refine wpAnyH_ready (rs := [8]) (by kernel_rfl) (by simp) ?_
        refine AllReadyH.cons (o := ⟨some 41, .call { callee := .builtin .append, args := #[.tmp 37, .tmp 40], argTypes := #[22, 22] }, 22, "l16_cache.go:86", #[⟨4, .data⟩, ⟨7, .data⟩, ⟨6, .chain⟩], none⟩) rfl (fun K hK => ?_) AllReadyH.nil
        refine wp_app _ _ rfl rfl rfl rfl hap ?_
        try go_wp2_with fail
        refine hK.out _ _ (trivial) (fun hHeld => ?_)
        clear hK K
        try simp only [Act.put, List.setIfInBounds_toArray, List.set_cons_zero, List.set_cons_succ]
        refine wpAnyH_take (i := 9) (oi := ⟨some 42, .nilCheck (.tmp 33), 0, "l16_cache.go:86", #[⟨0, .data⟩, ⟨0, .phase⟩, ⟨1, .phase⟩, ⟨2, .phase⟩, ⟨3, .phase⟩, ⟨4, .phase⟩, ⟨5, .phase⟩, ⟨6, .phase⟩, ⟨7, .phase⟩, ⟨8, .phase⟩], none⟩) (v := ?v10) rfl (by kernel_rfl) (by kernel_rfl) (by kernel_rfl) (fun _ _ _ h => h) (Or.inl ⟨by rfl, ?hy10⟩) (by assumption) ?r10
        case hy10 => (intro w hSw; (try dsimp only at hSw); go_simp; try with_reducible rfl)
        try simp only [Act.put, List.setIfInBounds_toArray, List.set_cons_zero, List.set_cons_succ]
        refine wpAnyH_take (i := 10) (oi := ⟨some 43, .fieldAddr 28 (.tmp 42) 3, 0, "l16_cache.go:86", #[⟨9, .data⟩, ⟨0, .phase⟩, ⟨1, .phase⟩, ⟨2, .phase⟩, ⟨3, .phase⟩, ⟨4, .phase⟩, ⟨5, .phase⟩, ⟨6, .phase⟩, ⟨7, .phase⟩, ⟨8, .phase⟩], none⟩) (v := ?v11) rfl (by kernel_rfl) (by kernel_rfl) (by kernel_rfl) (fun _ _ _ h => h) (Or.inl ⟨by rfl, ?hy11⟩) (by assumption) ?r11
        case hy11 => (intro w hSw; (try dsimp only at hSw); go_simp; try with_reducible rfl)
        try simp only [Act.put, List.setIfInBounds_toArray, List.set_cons_zero, List.set_cons_succ]
        refine wpAnyH_ready (rs := [11]) (by kernel_rfl) (by simp) ?_
        refine AllReadyH.cons (o := ⟨none, .store 22 (.tmp 43) (.tmp 41), 0, "l16_cache.go:86", #[⟨10, .data⟩, ⟨8, .data⟩, ⟨8, .chain⟩, ⟨0, .phase⟩, ⟨1, .phase⟩, ⟨2, .phase⟩, ⟨3, .phase⟩, ⟨4, .phase⟩, ⟨5, .phase⟩, ⟨6, .phase⟩, ⟨7, .phase⟩, ⟨8, .phase⟩], none⟩) rfl (fun K hK => ?_) AllReadyH.nil
        go_simp
        skip
        try go_wp2_with fail
        refine hK.out _ _ (trivial) (fun hHeld => ?_)
        clear hK K
        try simp only [Act.put, List.setIfInBounds_toArray, List.set_cons_zero, List.set_cons_succ]
        refine wpAnyH_done (by kernel_rfl) ?_ _
        go_wp2
        go_end0
        exact ⟨⟨_, rfl⟩, by rw [HT.out]; exact MP.set (M := { M with l := M.l ++ [BA (cutR x)] }) HBB.out (six_set3 HS7.out) HR6.out HF7.out, HTK.out.set⟩
  by_cases h4 : cutW x = wKey
  · have HT : Hid (tk pI M x = { M with key := BA (cutR x) }) := by show _ = _; unfold tk; rw [if_neg h0, if_neg h1, if_neg h2, if_neg h3, if_pos h4]
    have hwe : W = ⟨#[107, 101, 121]⟩ := by rw [← hW, h4]; rfl
    subst hwe
    clear hW h4
    go_enter Tryd.func39, Tryd.ntmps39
    go_wp2_with (first | (go_at_call 52; refine (HCL.out _).mono ?_; rintro e w2 ⟨rfl, hb2⟩; refine Hid.out ?_) | go_in)
    refine Lib.hid ?_
    obtain ⟨vr, h6, hrw, hff⟩ := HM.out.below hb2
    have HS6 := Lib.hid h6
    have HRW3 := Lib.hid hrw
    have HFF := Lib.hid hff
    have q := hff 4
    obtain ⟨c0, c1, c2, c3, c4, c5⟩ := h6
    have HTK : Hid (TkK b B w w2) := TkK.of_below hb2 HB.out
    clear hrw hff hb2
    go_wp2
    go_end0
    exact ⟨⟨_, rfl⟩, by rw [HT.out]; exact MP.set (M := { M with key := BA (cutR x) }) HBB.out (six_set4 HS6.out) HRW3.out HFF.out, HTK.out.set⟩
  by_cases h5 : cutW x = wSig
  · have HT : Hid (tk pI M x = { M with sig := y, ok := M.ok && wd.rwB (BA (cutR x)) }) := by show _ = _; unfold tk; rw [if_neg h0, if_neg h1, if_neg h2, if_neg h3, if_neg h4, if_pos h5, HY.out]
    have hwe : W = ⟨#[115, 105, 103]⟩ := by rw [← hW, h5]; rfl
    subst hwe
    clear hW h5
    go_enter Tryd.func39, Tryd.ntmps39
    go_wp2_with (first | (go_at_call 44; refine HRW.out.mono ?_; rintro e w2 ⟨rfl, hb2⟩; refine Hid.out ?_) | go_in)
    refine Lib.hid ?_
    obtain ⟨vr, h6, hrw, hff⟩ := HM.out.below hb2
    have HS6 := Lib.hid h6
    have HRW3 := Lib.hid hrw
    have HFF := Lib.hid hff
    have q := hff 5
    obtain ⟨c0, c1, c2, c3, c4, c5⟩ := h6
    have HTK : Hid (TkK b B w w2) := TkK.of_below hb2 HB.out
    clear hrw hff hb2
    go_wp2
    go_end0
    exact ⟨⟨_, rfl⟩, by rw [HT.out]; exact MP.set (M := { M with sig := y, ok := M.ok && wd.rwB (BA (cutR x)) }) HBB.out (six_set5 HS6.out) HRW3.out HFF.out, HTK.out.set⟩
  have HT : Hid (tk pI M x = { M with ok := false }) := by show _ = _; unfold tk; rw [if_neg h0, if_neg h1, if_neg h2, if_neg h3, if_neg h4, if_neg h5]
  have e0 : (W.toList == [112, 97, 116, 104]) = false := by rw [← hW, ByteArray.toList_eq]; exact beq_eq_false_iff_ne.2 h0
  have n0 : ¬ W.toList = [112, 97, 116, 104] := beq_eq_false_iff_ne.1 e0
  clear h0
  have e1 : (W.toList == [115, 117, 109]) = false := by rw [← hW, ByteArray.toList_eq]; exact beq_eq_false_iff_ne.2 h1
  have n1 : ¬ W.toList = [115, 117, 109] := beq_eq_false_iff_ne.1 e1
  clear h1
  have e2 : (W.toList == [115, 105, 122, 101]) = false := by rw [← hW, ByteArray.toList_eq]; exact beq_eq_false_iff_ne.2 h2
  have n2 : ¬ W.toList = [115, 105, 122, 101] := beq_eq_false_iff_ne.1 e2
  clear h2
  have e3 : (W.toList == [114, 101, 102]) = false := by rw [← hW, ByteArray.toList_eq]; exact beq_eq_false_iff_ne.2 h3
  have n3 : ¬ W.toList = [114, 101, 102] := beq_eq_false_iff_ne.1 e3
  clear h3
  have e4 : (W.toList == [107, 101, 121]) = false := by rw [← hW, ByteArray.toList_eq]; exact beq_eq_false_iff_ne.2 h4
  have n4 : ¬ W.toList = [107, 101, 121] := beq_eq_false_iff_ne.1 e4
  clear h4
  have e5 : (W.toList == [115, 105, 103]) = false := by rw [← hW, ByteArray.toList_eq]; exact beq_eq_false_iff_ne.2 h5
  have n5 : ¬ W.toList = [115, 105, 103] := beq_eq_false_iff_ne.1 e5
  clear h5
  clear hW
  go_enter Tryd.func39, Tryd.ntmps39
  go_wp2
  go_end0
  exact ⟨⟨_, rfl⟩, by rw [HT.out]; exact HM.out, TkK.of_below (Below.refl _ _) HB.out⟩

end Go.Proofs.YtheponigjofknaaDoor.mt
