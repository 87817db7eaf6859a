import Derived.Test.YtnhddnfobcofcaaGreatDoorG08
import Derived.Test.YtnhddnfobcofcaaGreatDoorRows
import Derived.Test.YtnhddnfobcofcaaGreatDoorG01
import Derived.Deep.QuietTactic
import Derived.BigQuiet
import Derived.Deep.RegionWith
import Derived.Lib.Hide
import Derived.Laws.Bits128
import Derived.RangeFuncBox
namespace Go.Proofs.YtnhddnfobcofcaaGreatDoor.cr
open Go.ChangeShapes Go.WideShapes Go.ChangeAt Go.RowKit Go.Deep
open cd (Tr Cn Nd PsO Btw)
set_option linter.unusedVariables false
set_option linter.unusedSimpArgs false

/-! ### impl.Plain -/

theorem fl_nm4 : ∀ t : Tr, TOk t → Nm4 (fl t)
  | .mk k n ps, ht => by
    obtain ⟨hf, hps⟩ := (TOk_eq k n ps).1 ht
    intro c hc
    rw [fl_eq] at hc
    rcases List.mem_cons.1 hc with rfl | hc
    · show n.size ≤ 4000
      rcases fit_leaf hf with ⟨_, _, h3, _⟩ | ⟨h3, _⟩
      · unfold nm.nameB at h3
        simp only [Bool.and_eq_true, decide_eq_true_eq] at h3
        omega
      · rw [h3]; decide
    · unfold flL at hc
      obtain ⟨l, hl, hcl⟩ := List.mem_flatten.1 hc
      obtain ⟨x, hx, rfl⟩ := List.mem_map.1 hl
      exact fl_nm4 x (hps x hx) c hcl
termination_by t => SizeOf.sizeOf t
decreasing_by all_goals (have h := List.sizeOf_lt_of_mem hx; simp only [Tr.mk.sizeOf_spec]; omega)
/-- What Plain answers. -/
def PnR (l : List Cn) (w w' : World) (e : Ending) : Prop := ∃ g c, e = .returned (.slice (some ⟨g, 0, none⟩) l.length c) ∧ OC w.heap.size w' (.slice (some ⟨g, 0, none⟩) l.length c) l
theorem pn_nil {w W : World} (hb : w.heap.size ≤ W.heap.size) : PnR [] w (W.alloc (.cells #[] 31)) (.returned (.slice (some ⟨W.heap.size, 0, none⟩) 0 0)) := ⟨_, _, rfl, (OC.nil W).mono hb⟩

set_option maxRecDepth 100000 in
set_option maxHeartbeats 2000000 in
theorem iplain_any (l : List Cn) (g c : Nat) (w : World) (hl : LC w g c l) (hn : l.length ≤ 100000) (hm : Nm4 l) : Calls Tryz.prog 10 #[.slice (some ⟨g, 0, none⟩) l.length c] w fun e w' => PnR (plO l) w w' e ∧ Below w.heap.size w w' := by
  have HT := Lib.hid (cd.condTree_any (cnE l) g l.length c ⟨hl.2.1, Nat.le_trans hl.2.2 (by unfold maxLen; omega)⟩ (by omega) hm.at w hl.1)
  obtain ⟨n, hnn⟩ : ∃ n, l.length = n := ⟨_, rfl⟩
  rw [hnn] at HT ⊢
  have HNN := Lib.hid hnn
  clear hl hn hnn
  cases hk : okL l with
  | false =>
    have HE : Hid (plO l = []) := by show _ = _; unfold plO; rw [hk]; rfl
    have HK : Hid (cd.okAll (cnE l) n = false) := by show _ = _; rw [← HNN.out]; exact hk
    clear hk
    go_enter Tryz.func10, Tryz.ntmps10
    go_wp2_with (go_at_call 19; refine HT.out.mono ?_; rintro e w1 ⟨hti, hl1⟩; obtain rfl : e = .returned (.pointer none) := (by rcases hti with ⟨_, h⟩ | ⟨h, _⟩; exact h; exact absurd h (by rw [HK.out]; simp)); clear hti; have HL1 := Lib.hid hl1; clear hl1)
    go_ret
    rw [HE.out]
    exact ⟨pn_nil HL1.out.size, HL1.out.alloc HL1.out.size _⟩
  | true =>
    have HK : Hid (cd.okAll (cnE l) n = true) := by show _ = _; rw [← HNN.out]; exact hk
    obtain ⟨h1, h2, h3, h4, h5⟩ := okL_tree hk
    have HLF := Lib.hid (lf_le l hk)
    have HTK := Lib.hid h2
    have HPO : Hid (plO l = plB l) := by show _ = _; unfold plO; rw [hk]; rfl
    clear hk h1 h2 h3 h4 h5
    go_enter Tryz.func10, Tryz.ntmps10
    go_wp2_with (go_at_call 19; refine HT.out.mono ?_; rintro e w1 ⟨hti, hl1⟩; obtain ⟨g1, rfl, hnd⟩ : ∃ g1, e = .returned (.pointer (some ⟨g1, 0, none⟩)) ∧ Nd w1 (Btw w.heap.size w1.heap.size) 61 (.pointer (some ⟨g1, 0, none⟩)) (cd.treeP (cnE l) 61 0) := (by rcases hti with ⟨h, _⟩ | ⟨_, g1, h, hh⟩; exact absurd h (by rw [HK.out]; simp); exact ⟨g1, h, hh⟩); clear hti; refine Hid.out ?_)
    refine Lib.hid ?_
    have HL1 := Lib.hid hl1
    have HSH := Lib.hid ((plain_all (Btw w.heap.size w1.heap.size) 61).1 (cd.treeP (cnE l) 61 0) (.pointer (some ⟨g1, 0, none⟩)) w1 HTK.out (Nat.le_trans HLF.out (by decide)) hnd (fun bb h => h.2))
    have HPT : Hid (TOk (plT l)) := pt_ok _ false HTK.out
    have HPL : Hid ((fl (plT l)).length ≤ 1000) := by
      have := pt_len _ false HTK.out
      have := HLF.out
      show (fl (pt false _)).length ≤ _
      omega
    have HPB : Hid (plB l = if (fl (plT l)).length ≤ 300 then fl (plT l) else []) := rfl
    rw [show pt false (cd.treeP (cnE l) 61 0) = plT l from rfl] at HSH
    obtain ⟨T, hTT⟩ : ∃ T, plT l = T := ⟨_, rfl⟩
    rw [hTT] at HSH HPT HPL HPB
    clear hnd hl1 hTT
    go_wp2_with (go_at_call 25; refine HSH.out.mono ?_; rintro e w2 ⟨g2, rfl, hnd2, hb2⟩; refine Hid.out ?_)
    refine Lib.hid ?_
    have HB2 : Hid (Below w.heap.size w w2) := HL1.out.trans (hb2.mono HL1.out.size)
    have hsz2 := HB2.out.size
    have HB3 : Hid (Below w.heap.size w (w2.alloc (.cells #[] 31))) := HB2.out.alloc hsz2 _
    have hobs : ∀ bb, Ob (Btw w.heap.size w1.heap.size) w1.heap.size w2.heap.size bb → bb < w2.heap.size := fun bb hb => by
      have := hb2.size
      rcases hb with ⟨a, b⟩ | ⟨a, b⟩ <;> omega
    have HA := Lib.hid (app_any w2.heap.size (Ob (Btw w.heap.size w1.heap.size) w1.heap.size w2.heap.size) 62 T (.pointer (some ⟨g2, 0, none⟩)) (.slice (some ⟨w2.heap.size, 0, none⟩) 0 0) [] (w2.alloc (.cells #[] 31)) (Nd.kept (fun bb hb => Below.heap_alloc w2 _ bb (hobs bb hb)) (fun _ h => h) 62 hnd2) (fun bb hb => ⟨by simp; have := hobs bb hb; omega, by simp only [Value.ownBlock]; intro e; have := Option.some.inj e; have := hobs bb hb; omega⟩) (OC.nil w2) (by simp) (by have := HPL.out; simp; omega) (fl_nm4 T HPT.out))
    rw [List.nil_append] at HA
    clear hnd2 hb2 hobs
    go_wp2_with (go_at_call 24; refine HA.out.mono ?_; rintro e w4 ⟨v4, rfl, hoc4, hak4⟩; refine Hid.out ?_)
    refine Lib.hid ?_
    have HB4 : Hid (Below w.heap.size w w4) := HB3.out.grown hak4.gr HB3.out.size (fun k hk => by simp [Value.ownBlock] at hk; omega)
    obtain ⟨g4, c4, rfl⟩ := hoc4.at_ (fl_pos T)
    have HO4 := Lib.hid (hoc4.mono hsz2)
    by_cases hT4 : (fl T).length ≤ 300
    · have HE : Hid (plO l = fl T) := by show _ = _; rw [HPO.out, HPB.out, if_pos hT4]
      have HF : Hid (PnR (plO l) w w4 (.returned (.slice (some ⟨g4, 0, none⟩) (fl T).length c4))) := by show PnR _ _ _ _; rw [HE.out]; exact ⟨_, _, rfl, HO4.out⟩
      obtain ⟨m, hm⟩ : ∃ m, (fl T).length = m := ⟨_, rfl⟩
      rw [hm] at hT4 HF ⊢
      have h4 : ¬ (300 : Int) < (m : Int) := by omega
      clear hoc4 hak4 HO4 hm HE
      go_wp2
      go_ret
      exact ⟨HF.out, HB4.out⟩
    · have HE : Hid (plO l = []) := by show _ = _; rw [HPO.out, HPB.out, if_neg hT4]
      obtain ⟨m, hm⟩ : ∃ m, (fl T).length = m := ⟨_, rfl⟩
      rw [hm] at hT4 ⊢
      have h4 : (300 : Int) < (m : Int) := by omega
      clear hoc4 hak4 HO4 hm
      go_wp2
      go_ret
      rw [HE.out]
      exact ⟨pn_nil HB4.out.size, HB4.out.alloc HB4.out.size _⟩
end Go.Proofs.YtnhddnfobcofcaaGreatDoor.cr

namespace Go.Proofs.YtnhddnfobcofcaaGreatDoor.cr
open cd (Tr Cn)
set_option linter.unusedVariables false
set_option linter.unusedSimpArgs false

/-! ### FnCondBack, plain: no more leaves than words -/

/-- How many words (runs of a name's bytes) stand in a text. -/
def rn : Bool → List UInt8 → Nat
  | _, [] => 0
  | pv, c :: q => (if nb c = true ∧ pv = false then 1 else 0) + rn (nb c) q
theorem rn_cons (pv : Bool) (c : UInt8) (q : List UInt8) : rn pv (c :: q) = (if nb c = true ∧ pv = false then 1 else 0) + rn (nb c) q := rfl
theorem rn_le : ∀ l, rn true l ≤ rn false l
  | [] => Nat.le_refl _
  | c :: q => by rw [rn_cons, rn_cons]; simp
theorem rn_app : ∀ (a b : List UInt8) (pv : Bool), rn pv (a ++ b) ≤ rn pv a + rn false b
  | [], b, pv => by
    cases pv with
    | false => simp [rn]
    | true => have := rn_le b; simp [rn]; exact this
  | c :: a, b, pv => by
    rw [List.cons_append, rn_cons, rn_cons]
    have := rn_app a b (nb c)
    omega
theorem rn_sign {c : UInt8} {q : List UInt8} (h : nb c = false) (pv : Bool) : rn pv (c :: q) = rn false q := by
  rw [rn_cons, h]
  simp
theorem rn_skip (l : List UInt8) : rn false (skip l) = rn false l := by
  unfold skip
  induction l with
  | nil => rfl
  | cons a l ih =>
    rw [List.dropWhile_cons]
    split
    · rename_i h
      have ha : a = 32 := by simpa using h
      rw [ih, rn_sign (by rw [ha]; decide)]
    · rfl
theorem rn_true {r : List UInt8} (h : ∀ c q, r = c :: q → nb c = false) : rn true r = rn false r := by
  cases r with
  | nil => rfl
  | cons c q => rw [rn_sign (h c q rfl), rn_sign (h c q rfl)]
theorem rn_word : ∀ (l : List UInt8), 0 < (l.takeWhile nb).length → 1 + rn false (l.dropWhile nb) ≤ rn false l := by
  have key : ∀ l : List UInt8, rn true l = rn false (l.dropWhile nb) := fun l => by
    induction l with
    | nil => rfl
    | cons c q ih =>
      cases hc : nb c with
      | true =>
        rw [List.dropWhile_cons, hc, if_pos rfl]
        rw [rn_cons, hc]
        simpa using ih
      | false =>
        rw [List.dropWhile_cons, hc, if_neg (by decide), rn_sign hc, rn_sign hc]
  intro l h
  cases l with
  | nil => simp at h
  | cons c q =>
    cases hc : nb c with
    | false => rw [List.takeWhile_cons, hc] at h; simp at h
    | true =>
      rw [List.dropWhile_cons, hc, if_pos rfl]
      rw [rn_cons, hc, key q]
      simp
def Rn (p : Pz) : Prop := ∀ l t r, p l = some (t, r) → lfC (fl t) + rn false r ≤ rn false l
theorem lfC_leaf (k : Int) (n : ByteArray) : lfC (fl (.mk k n [])) ≤ 1 := by
  rw [fl_eq]
  unfold lfC
  exact Nat.le_trans List.countP_le_length (by simp [flL])
theorem lfC_node {k : Int} (hk : k = 4 ∨ k = 5 ∨ k = 6) (n : ByteArray) (ps : List Tr) : lfC (fl (.mk k n ps)) = lfC (flL ps) := by
  rw [fl_eq]
  unfold lfC
  rw [List.countP_cons]
  have : ¬ (k = 1 ∨ k = 2 ∨ k = 3) := by omega
  simp [this]
theorem lfC_app (a b : List Cn) : lfC (a ++ b) = lfC a + lfC b := by unfold lfC; rw [List.countP_append]
theorem wd_rn : Rn wd := fun l t r h => by
  unfold wd at h
  simp only at h
  split at h
  · rename_i h1
    cases h
    have := lfC_leaf 2 (bA [])
    have := rn_word l (by rw [h1]; decide)
    omega
  · split at h
    · rename_i h1
      cases h
      have := lfC_leaf 3 (bA [])
      have := rn_word l (by rw [h1]; decide)
      omega
    · split at h
      · rename_i h1
        cases h
        have := lfC_leaf 1 (bA (l.takeWhile nb))
        have := rn_word l (by
          unfold nm.nameB at h1
          simp only [Bool.and_eq_true, decide_eq_true_eq] at h1
          have := h1.1.1.1
          rw [bA_size] at this
          omega)
        omega
      · cases h
theorem rowL_rn {sign : UInt8} (hsg : nb sign = false) {p : Pz} (hp : Rn p) : ∀ k l ts r, rowL sign p k l = some (ts, r) → lfC (flL ts) + rn false r ≤ rn false l
  | 0, l, ts, r, h => by simp [rowL] at h
  | k + 1, l, ts, r, h => by
    unfold rowL at h
    cases hq : p l with
    | none => rw [hq] at h; simp at h
    | some x =>
      obtain ⟨t, r1⟩ := x
      have h1 := hp l t r1 hq
      have h2 := rn_skip r1
      rw [hq] at h
      simp only at h
      cases hs : skip r1 with
      | nil =>
        rw [hs] at h h2
        simp at h
        obtain ⟨rfl, rfl⟩ := h
        rw [flL_one]
        omega
      | cons c q =>
        rw [hs] at h h2
        simp only at h
        split at h
        · rename_i hc
          rw [Option.map_eq_some_iff] at h
          obtain ⟨y, hy, e⟩ := h
          cases e
          have a1 := rowL_rn hsg hp k q y.1 y.2 hy
          rw [rn_sign (by rw [hc]; exact hsg)] at h2
          rw [flL_cons, lfC_app]
          omega
        · cases h
          rw [flL_one]
          omega
theorem one_rn {p0 p2 : Pz} (h0 : Rn p0) (h2 : Rn p2) : Rn (oneP p0 p2) := fun l t r h => by
  have hl := rn_skip l
  unfold oneP at h
  cases hs : skip l with
  | nil =>
    rw [hs] at h hl
    have := wd_rn [] t r h
    omega
  | cons c q =>
    rw [hs] at h hl
    simp only at h
    split at h
    · rename_i hc
      rw [Option.map_eq_some_iff] at h
      obtain ⟨x, hx, e⟩ := h
      cases e
      have a1 := h0 q x.1 x.2 hx
      rw [lfC_node (.inl rfl), flL_one]
      rw [rn_sign (by rw [hc]; decide)] at hl
      omega
    · split at h
      · rename_i hc
        rw [rn_sign (by rw [hc]; decide)] at hl
        cases hp : p2 q with
        | none => rw [hp] at h; simp at h
        | some x =>
          obtain ⟨t1, r1⟩ := x
          have a1 := h2 q t1 r1 hp
          have h3 := rn_skip r1
          rw [hp] at h
          simp only at h
          cases hs2 : skip r1 with
          | nil => rw [hs2] at h; simp at h
          | cons d s =>
            rw [hs2] at h h3
            simp only at h
            split at h
            · rename_i hd
              cases h
              rw [rn_sign (by rw [hd]; decide)] at h3
              omega
            · cases h
      · have := wd_rn (c :: q) t r h
        omega
theorem row_rn {kind : Int} (hk : kind = 5 ∨ kind = 6) {sign : UInt8} (hsg : nb sign = false) {p : Pz} (h0 : Rn p) : Rn (rowP kind sign p) := fun l t r h => by
  unfold rowP at h
  rw [Option.map_eq_some_iff] at h
  obtain ⟨x, hx, e⟩ := h
  cases e
  have a1 := rowL_rn hsg h0 _ l x.1 x.2 hx
  match hxx : x.1 with
  | [] => rw [hxx] at a1; show lfC (fl (.mk kind (bA []) [])) + _ ≤ _; rw [lfC_node (.inr hk)]; exact a1
  | [y] => rw [hxx, flL_one] at a1; exact a1
  | y :: z :: ys => rw [hxx] at a1; show lfC (fl (.mk kind (bA []) (y :: z :: ys))) + _ ≤ _; rw [lfC_node (.inr hk)]; exact a1
theorem P_rn : ∀ f lv, Rn (P f lv)
  | 0, lv => fun l t r h => by simp [P] at h
  | f + 1, lv => fun l t r h => by
    unfold P at h
    split at h
    · exact one_rn (P_rn f 0) (P_rn f 2) l t r h
    · split at h
      · exact row_rn (.inl rfl) (by decide) (P_rn f 0) l t r h
      · exact row_rn (.inr rfl) (by decide) (P_rn f 1) l t r h
end Go.Proofs.YtnhddnfobcofcaaGreatDoor.cr

namespace Go.Proofs.YtnhddnfobcofcaaGreatDoor.dr
open Go.ChangeShapes Go.WideShapes Go.ChangeAt Go.RowKit Go.Deep
set_option linter.unusedVariables false
set_option linter.unusedSimpArgs false

/-- The bytes that are drawn from can be read. -/
def CodeB (w : World) (a : Option Addr) (n : Nat) : Prop :=
  n = 0 ∨ ∃ b off, a = some ⟨b, off, none⟩ ∧ ∀ i, i < n → ∃ x : Nat, x < 256 ∧ w.cell? ⟨b, off + i, none⟩ = some (.int .u8 (x : Int))

/-- The cursor. -/
def CurC (a : Option Addr) (n cap i : Nat) (h : Int) (j : Nat) : Value := if j = 0 then .slice a n cap else if j = 1 then .int .i64 (i : Int) else .int .i64 h

set_option maxHeartbeats 1000000 in
theorem new_any (a : Option Addr) (n cap : Nat) (w : World) (hb : CodeB w a n) (hn : n ≤ 1048576) :
    Calls Tryz.prog 16 #[.slice a n cap] w fun e w' => e = .returned (.pointer (some ⟨w.heap.size, 0, none⟩)) ∧ ∃ h : Int, w' = w.alloc (.cells #[.slice a n cap, .int .i64 0, .int .i64 h] 59) := by
  go_enter Tryz.func16, Tryz.ntmps16
  go_wp2
  go_loop [3, 4] (fun x i => ∃ (k : Nat) (h : Int), k ≤ n ∧ i = .int .i64 k ∧ x = .int .i64 h) (fun _ i => n - (intOf i).toNat)
  case atStart => exact ⟨0, _, Nat.zero_le _, rfl, rfl⟩
  case round =>
    obtain ⟨k, h, hk, rfl, rfl⟩ := hrel
    by_cases hlt : k < n
    · rcases hb with rfl | ⟨b, off, rfl, hc⟩
      · omega
      obtain ⟨x, hx, hck⟩ := hc k hlt
      have hlt' : (k : Int) < (n : Int) := by omega
      go_wp2
      go_round
      case rel => exact ⟨k + 1, _, by omega, by go_num, rfl⟩
      case measure => simp [intOf]; omega
    · have hlt' : ¬ (k : Int) < (n : Int) := by omega
      go_wp2
      go_ret
      exact ⟨rfl, _, rfl⟩

theorem i64_and255 (n : Int) : bits .and .i64 n 255 = n % 256 := by
  have h255 : (BitVec.ofInt 64 255).toNat = 2 ^ 8 - 1 := by decide
  have key : (BitVec.ofInt 64 n &&& BitVec.ofInt 64 255).toNat = (n % ((2 ^ 64 : Nat) : Int)).toNat % 2 ^ 8 := by
    rw [BitVec.toNat_and, BitVec.toNat_ofInt, h255, Nat.and_two_pow_sub_one_eq_mod]
  show IntKind.i64.wrap ((BitVec.ofInt 64 n &&& BitVec.ofInt 64 255).toNat : Nat) = n % 256
  rw [key, IntKind.wrap_i64]
  omega

def Cur (w : World) (c : Nat) (a : Option Addr) (n cap : Nat) : Prop := ∃ (i : Nat) (h : Int), w.rowIs c 59 3 (CurC a n cap i h) ∧ i ≤ n

theorem grown_set (W : World) (b o : Nat) (v : Value) : W.grownBy (W.setCell ⟨b, o, none⟩ v) (some b) :=
  ⟨rfl, rfl, rfl, by simp, fun k _ hk => blk_setCell_other _ _ _ _ (fun e => hk (by rw [e]))⟩
theorem grown_trans {A B C : World} {c : Nat} (h : A.grownBy B (some c)) (k : B.grownBy C (some c)) : A.grownBy C (some c) :=
  ⟨k.os.trans h.os, k.tape.trans h.tape, k.output.trans h.output, Nat.le_trans h.size k.size, fun j hj hne => (k.block j (Nat.lt_of_lt_of_le hj h.size) hne).trans (h.block j hj hne)⟩
theorem grown_refl (A : World) (c : Nat) : A.grownBy A (some c) := ⟨rfl, rfl, rfl, Nat.le_refl _, fun _ _ _ => rfl⟩
theorem grown_drewN {A B : World} {c q : Nat} (h : A.grownBy B (some c)) : A.grownBy (B.drewN q) (some c) := ⟨h.os, h.tape, h.output, h.size, h.block⟩

theorem row_drewN {w : World} {b n : Nat} {t : TypeId} {f : Nat → Value} (h : w.rowIs b t n f) (q : Nat) : (w.drewN q).rowIs b t n f := h

theorem byte_fin {v : Int} {e : Ending} {w w' : World} {c n cap : Nat} {a : Option Addr} (he : e = .returned (.int .i64 (bits .and .i64 v 255))) (hc : Cur w' c a n cap) (hg : w.grownBy w' (some c)) :
    ∃ x : Nat, e = .returned (.int .i64 (x : Int)) ∧ x < 256 ∧ Cur w' c a n cap ∧ w.grownBy w' (some c) := by
  refine ⟨(v % 256).toNat, ?_, by omega, hc, hg⟩
  rw [he, i64_and255]
  congr 2
  omega

theorem cur_set2 {w : World} {c n cap i : Nat} {a : Option Addr} {h : Int} (hr : w.rowIs c 59 3 (CurC a n cap i h)) (h' : Int) : (w.setCell ⟨c, 2, none⟩ (.int .i64 h')).rowIs c 59 3 (CurC a n cap i h') :=
  (hr.set 2 _).congr fun j hj => by
    match j, hj with
    | 0, _ => rfl
    | 1, _ => rfl
    | 2, _ => rfl
theorem cur_set1 {w : World} {c n cap i : Nat} {a : Option Addr} {h : Int} (hr : w.rowIs c 59 3 (CurC a n cap i h)) {v : Int} (e : v = ((i + 1 : Nat) : Int)) : (w.setCell ⟨c, 1, none⟩ (.int .i64 v)).rowIs c 59 3 (CurC a n cap (i + 1) h) :=
  (hr.set 1 _).congr fun j hj => by
    match j, hj with
    | 0, _ => rfl
    | 1, _ => subst e; rfl
    | 2, _ => rfl

set_option maxHeartbeats 1000000 in
theorem byte_any (a : Option Addr) (n cap c : Nat) (w : World) (hb : CodeB w a n) (hc : Cur w c a n cap) (hn : n ≤ 1048576) (hne : ∀ x, a = some x → 0 < n → x.block ≠ c) :
    Calls Tryz.prog 53 #[.pointer (some ⟨c, 0, none⟩)] w fun e w' => ∃ x : Nat, e = .returned (.int .i64 (x : Int)) ∧ x < 256 ∧ Cur w' c a n cap ∧ w.grownBy w' (some c) := by
  obtain ⟨i, h, hr, hi⟩ := hc
  have g0 : w.cell? ⟨c, 0, none⟩ = some (.slice a n cap) := hr.cell (i := 0) (by decide)
  have g1 : w.cell? ⟨c, 1, none⟩ = some (.int .i64 (i : Int)) := hr.cell (i := 1) (by decide)
  have g2 : w.cell? ⟨c, 2, none⟩ = some (.int .i64 h) := hr.cell (i := 2) (by decide)
  have f1 := hr.frozen 1
  have f2 := hr.frozen 2
  by_cases hlt : i < n
  · have hlt' : (i : Int) < (n : Int) := by omega
    rcases hb with rfl | ⟨b, off, rfl, hcc⟩
    · omega
    obtain ⟨x, hx, hck⟩ := hcc i hlt
    have hbc : b ≠ c := hne _ rfl (by omega)
    go_enter Tryz.func53, Tryz.ntmps53
    go_wp2
    go_quiet (fail)
    go_wp2
    go_quiet (fail)
    go_wp2
    go_quiet (fail)
    go_wp2
    go_ret
    exact byte_fin rfl ⟨i + 1, _, cur_set1 (row_drewN (cur_set2 hr _) _) (by omega), hlt⟩ (grown_trans (grown_drewN (grown_set _ _ _ _)) (grown_set _ _ _ _))
  · have hlt' : ¬ (i : Int) < (n : Int) := by omega
    go_enter Tryz.func53, Tryz.ntmps53
    go_wp2
    go_quiet (fail)
    go_wp2
    go_quiet (fail)
    go_wp2
    go_ret
    exact byte_fin rfl ⟨i, _, row_drewN (row_drewN (cur_set2 hr _) _) _, hi⟩ (grown_drewN (grown_drewN (grown_set _ _ _ _)))

theorem CodeB.grown {w w' : World} {a : Option Addr} {n c : Nat} (h : CodeB w a n) (hg : w.grownBy w' (some c)) (hne : ∀ x, a = some x → 0 < n → x.block ≠ c) : CodeB w' a n := by
  rcases h with h | ⟨b, off, rfl, h⟩
  · exact .inl h
  · exact .inr ⟨b, off, rfl, fun i hi => by
      obtain ⟨x, hx, hc⟩ := h i hi
      exact ⟨x, hx, hg.cell hc (fun e => hne _ rfl (by omega) (by cases e; rfl))⟩⟩

/-- What a draw leaves. -/
structure Draws (w w' : World) (c : Nat) (a : Option Addr) (n cap : Nat) : Prop where
  code : CodeB w' a n
  cur : Cur w' c a n cap
  grown : w.grownBy w' (some c)

/-- What a draw asks. -/
structure Can (w : World) (c : Nat) (a : Option Addr) (n cap : Nat) : Prop where
  code : CodeB w a n
  cur : Cur w c a n cap
  small : n ≤ 1048576
  lt : ∀ x, a = some x → 0 < n → x.block < c

theorem Can.ne {w : World} {c : Nat} {a : Option Addr} {n cap : Nat} (h : Can w c a n cap) : ∀ x, a = some x → 0 < n → x.block ≠ c := fun x e h0 => Nat.ne_of_lt (h.lt x e h0)
theorem Can.draws {w w' : World} {c : Nat} {a : Option Addr} {n cap : Nat} (h : Can w c a n cap) (k : Draws w w' c a n cap) : Can w' c a n cap := ⟨k.code, k.cur, h.small, h.lt⟩
theorem Draws.trans {A B C : World} {c : Nat} {a : Option Addr} {n cap : Nat} (h : Draws A B c a n cap) (k : Draws B C c a n cap) : Draws A C c a n cap := ⟨k.code, k.cur, grown_trans h.grown k.grown⟩
theorem Can.refl {w : World} {c : Nat} {a : Option Addr} {n cap : Nat} (h : Can w c a n cap) : Draws w w c a n cap := ⟨h.code, h.cur, grown_refl _ _⟩

theorem byte_can {w : World} {c : Nat} {a : Option Addr} {n cap : Nat} (h : Can w c a n cap) :
    Calls Tryz.prog 53 #[.pointer (some ⟨c, 0, none⟩)] w fun e w' => ∃ x : Nat, e = .returned (.int .i64 (x : Int)) ∧ x < 256 ∧ Draws w w' c a n cap :=
  (byte_any a n cap c w h.code h.cur h.small h.ne).mono fun e w' ⟨x, he, hx, hc, hg⟩ => ⟨x, he, hx, h.code.grown hg h.ne, hc, hg⟩

set_option maxHeartbeats 1000000 in
theorem below_can {w : World} {c : Nat} {a : Option Addr} {n cap : Nat} (h : Can w c a n cap) (m : Nat) (hm : 1 ≤ m) (hm2 : m ≤ 1000000000) :
    Calls Tryz.prog 35 #[.pointer (some ⟨c, 0, none⟩), .int .i64 (m : Int)] w fun e w' => ∃ x : Nat, e = .returned (.int .i64 (x : Int)) ∧ x < m ∧ Draws w w' c a n cap := by
  have h0 : ¬ (m : Int) ≤ 0 := by omega
  by_cases hs : m ≤ 256
  · have hs' : (m : Int) ≤ 256 := by omega
    go_enter Tryz.func35, Tryz.ntmps35
    go_wp2_with (go_at_call 53; refine (byte_can h).mono ?_; rintro e w1 ⟨x, rfl, hx, d1⟩)
    go_ret
    exact ⟨x % m, ret_int (Int.natCast_emod x m).symm, Nat.mod_lt _ (by omega), d1⟩
  · have hs' : ¬ (m : Int) ≤ 256 := by omega
    go_enter Tryz.func35, Tryz.ntmps35
    go_wp2_with (go_at_call 53; refine (byte_can h).mono ?_; rintro e w1 ⟨x, rfl, hx, d1⟩)
    go_wp2_with (go_at_call 53; refine (byte_can (h.draws d1)).mono ?_; rintro e w2 ⟨y, rfl, hy, d2⟩)
    go_wp2_with (go_at_call 53; refine (byte_can ((h.draws d1).draws d2)).mono ?_; rintro e w3 ⟨z, rfl, hz, d3⟩)
    go_wp2_with (go_at_call 53; refine (byte_can (((h.draws d1).draws d2).draws d3)).mono ?_; rintro e w4 ⟨u, rfl, hu, d4⟩)
    go_ret
    refine ⟨(x * 16777216 + y * 65536 + z * 256 + u) % m, ret_int ?_, Nat.mod_lt _ (by omega), ((d1.trans d2).trans d3).trans d4⟩
    rw [Int.natCast_emod]
    congr 1

theorem once_can {w : World} {c : Nat} {a : Option Addr} {n cap : Nat} (h : Can w c a n cap) (m : Nat) (hm : 1 ≤ m) (hm2 : m ≤ 1000000000) :
    Calls Tryz.prog 34 #[.pointer (some ⟨c, 0, none⟩), .int .i64 (m : Int)] w fun e w' => ∃ x : Bool, e = .returned (.bool x) ∧ Draws w w' c a n cap := by
  go_enter Tryz.func34, Tryz.ntmps34
  go_wp2_with (go_at_call 35; refine (below_can h m hm hm2).mono ?_; rintro e w1 ⟨x, rfl, hx, d1⟩)
  go_ret
  exact ⟨_, rfl, d1⟩

theorem Can.below {w w' : World} {c : Nat} {a : Option Addr} {n cap : Nat} (h : Can w c a n cap) (hb : Below (c + 1) w w') : Can w' c a n cap := by
  refine ⟨?_, ?_, h.small, h.lt⟩
  · rcases h.code with h' | ⟨b, off, rfl, h'⟩
    · exact .inl h'
    · refine .inr ⟨b, off, rfl, fun i hi => ?_⟩
      obtain ⟨x, hx, hc⟩ := h' i hi
      have := h.lt _ rfl (by omega)
      exact ⟨x, hx, (hb.cell (p := ⟨b, _, none⟩) (by show b < c + 1; simp at this; omega)).trans hc⟩
  · obtain ⟨i, g, hr, hi⟩ := h.cur
    exact ⟨i, g, hr.of_block (hb.block _ (by omega)), hi⟩

theorem below_of_grown {w w' : World} {c B : Nat} (h : w.grownBy w' (some c)) (hB : B ≤ c) (hs : B ≤ w.heap.size) : Below B w w' :=
  (Below.refl B w).grown h hs (fun k e => by cases e; exact hB)

/-- An append to a row that is new since w. -/
theorem grown_app {w wr wr' : World} {c : Nat} {e : TypeId} {size k : Nat} {v : Value} {xs : List Value} (h : w.grownBy wr (some c)) (ho : wr.ownsRow w.heap.size e size v k xs) (hg : wr.grownBy wr' v.ownBlock) : w.grownBy wr' (some c) :=
  ⟨hg.os.trans h.os, hg.tape.trans h.tape, hg.output.trans h.output, Nat.le_trans h.size hg.size, fun j hj hne => (hg.block j (Nat.lt_of_lt_of_le hj h.size) (fun e => by have := (ho.lt j e.symm).1; omega)).trans (h.block j hj hne)⟩
theorem grown_alloc {w wr : World} {c : Nat} (h : w.grownBy wr (some c)) (o : Obj) : w.grownBy (wr.alloc o) (some c) :=
  ⟨h.os, h.tape, h.output, by simp; have := h.size; omega, fun j hj hne => (Below.heap_alloc wr o j (Nat.lt_of_lt_of_le hj h.size)).trans (h.block j hj hne)⟩
/-- A row that is new since w is not the cursor. -/
theorem own_draws {wr wr' : World} {c : Nat} {a : Option Addr} {n cap : Nat} {e : TypeId} {size k B : Nat} {v : Value} {xs : List Value} (ho : wr.ownsRow B e size v k xs) (hB : c < B) (hd : Draws wr wr' c a n cap) : wr'.ownsRow B e size v k xs :=
  ho.kept hd.grown (.inr fun e => by have := (ho.lt c e).1; omega)

theorem info5 : (Tryz.prog.info? 5).map (fun i => (i.zero, i.size, i.bytes)) = some (some (.int .u8 0), 1, 1) := by kernel_rfl
theorem own_empty5 (w : World) (b : Nat) (hb : b ≤ w.heap.size) : (w.alloc (.cells #[] 5)).ownsRow b 5 1 (.slice (some ⟨w.heap.size, 0, none⟩) 0 0) 0 (byteCells []) := World.ownsRow_made w #[] 0 hb (by decide) rfl

theorem byte_cell (x : Nat) (hx : x < 256) : [Value.int .u8 (x : Int)] = byteCells [UInt8.ofNat x] := by
  have : (UInt8.ofNat x).toNat = x := by simp [UInt8.toNat_ofNat']; omega
  rw [byteCells_one, this]

end Go.Proofs.YtnhddnfobcofcaaGreatDoor.dr

namespace Go.Proofs.YtnhddnfobcofcaaGreatDoor.dr
open Go.ChangeShapes Go.WideShapes Go.ChangeAt Go.RowKit Go.Deep
set_option linter.unusedVariables false
set_option linter.unusedSimpArgs false

theorem can_app {w1 w2 : World} {c : Nat} {a : Option Addr} {n cap : Nat} {o : Obj} {B size k : Nat} {e : TypeId} {v : Value} {xs : List Value} (h : Can w1 c a n cap) (ho : (w1.alloc o).ownsRow B e size v k xs) (hB : c < B) (hw : B ≤ w1.heap.size) (hg : (w1.alloc o).grownBy w2 v.ownBlock) : Can w2 c a n cap :=
  h.below (((Below.refl (c + 1) w1).alloc (by omega) o).grown hg (by simp; omega) (fun k e => by have := (ho.lt k e).1; omega))

end Go.Proofs.YtnhddnfobcofcaaGreatDoor.dr

namespace Go.Proofs.YtnhddnfobcofcaaGreatDoor.dr
open Go.ChangeShapes Go.WideShapes Go.ChangeAt Go.RowKit Go.Deep
set_option linter.unusedVariables false
set_option linter.unusedSimpArgs false

/-- Between two draws: the cursor was the first block laid since w; a row of bytes of one's own lies behind it. -/
structure St (w wr : World) (a : Option Addr) (n cap : Nat) (v : Value) (k : Nat) : Prop where
  can : Can wr w.heap.size a n cap
  row : ∃ l : List UInt8, wr.ownsRow (w.heap.size + 1) 5 1 v k (byteCells l)
  bel : Below w.heap.size w wr
  sz : w.heap.size + 1 ≤ wr.heap.size

theorem new_can {w : World} {a : Option Addr} {n cap : Nat} (hb : CodeB w a n) (hn : n ≤ 1048576) (hlt : ∀ x, a = some x → 0 < n → x.block < w.heap.size) (h : Int) : Can (w.alloc (.cells #[.slice a n cap, .int .i64 0, .int .i64 h] 59)) w.heap.size a n cap := by
  refine ⟨hb.grown (World.grownBy_alloc w _ (some w.heap.size)) (fun x e h0 => Nat.ne_of_lt (hlt x e h0)), ⟨0, h, ?_, Nat.zero_le _⟩, hn, hlt⟩
  exact World.rowIs_alloc w _ _ _ (fun i hi => by
    match i, hi with
    | 0, _ => rfl
    | 1, _ => rfl
    | 2, _ => rfl)

theorem St.draws {w wr w' : World} {a : Option Addr} {n cap k : Nat} {v : Value} (h : St w wr a n cap v k) (d : Draws wr w' w.heap.size a n cap) : St w w' a n cap v k := by
  obtain ⟨l, hl⟩ := h.row
  have hs := d.grown.size
  exact ⟨h.can.draws d, ⟨l, own_draws hl (by omega) d⟩, h.bel.trans (below_of_grown d.grown (Nat.le_refl _) (by have := h.sz; omega)), by have := h.sz; omega⟩
theorem St.alloc {w wr : World} {a : Option Addr} {n cap k : Nat} {v : Value} (h : St w wr a n cap v k) (o : Obj) : St w (wr.alloc o) a n cap v k := by
  obtain ⟨l, hl⟩ := h.row
  exact ⟨h.can.below ((Below.refl _ wr).alloc h.sz _), ⟨l, hl.alloc _⟩, h.bel.alloc h.bel.size _, by simp; have := h.sz; omega⟩
theorem St.app {w wr w' : World} {a : Option Addr} {n cap k x : Nat} {v v' : Value} {o : Obj} {l : List UInt8} (h : St w wr a n cap v k) (hx : x < 256)
    (ho : wr.ownsRow (w.heap.size + 1) 5 1 v k (byteCells l)) (hown : w'.ownsRow (w.heap.size + 1) 5 1 v' (k + 1) (byteCells l ++ [.int .u8 (x : Int)])) (hg : (wr.alloc o).grownBy w' v.ownBlock) : St w w' a n cap v' (k + 1) := by
  have hs := h.sz
  have hs2 := hg.size
  simp at hs2
  refine ⟨can_app h.can (ho.alloc o) (by omega) h.sz hg, ⟨l ++ [UInt8.ofNat x], ?_⟩, ?_, by omega⟩
  · rw [byteCells_append, ← byte_cell x hx]; exact hown
  · exact (h.bel.alloc h.bel.size o).grown hg (by simp; omega) (fun j e => by have := ((ho.alloc o).lt j e).1; omega)

/-- 'b = append(b, byte)': the arm's premises, of a state. -/
theorem St.at {w wr : World} {a : Option Addr} {n cap k : Nat} {v : Value} (h : St w wr a n cap v k) : ∃ l : List UInt8, wr.ownsRow (w.heap.size + 1) 5 1 v k (byteCells l) := h.row

theorem st_start {w : World} {a : Option Addr} {n cap : Nat} (hb : CodeB w a n) (hn : n ≤ 1048576) (hlt : ∀ x, a = some x → 0 < n → x.block < w.heap.size) (h : Int) :
    St w ((w.alloc (.cells #[.slice a n cap, .int .i64 0, .int .i64 h] 59)).alloc (.cells #[] 5)) a n cap (.slice (some ⟨w.heap.size + 1, 0, none⟩) 0 0) 0 := by
  have h1 := own_empty5 (w.alloc (.cells #[.slice a n cap, .int .i64 0, .int .i64 h] 59)) (w.heap.size + 1) (by simp)
  rw [World.size_alloc] at h1
  exact ⟨(new_can hb hn hlt h).below ((Below.refl _ _).alloc (by simp) _), ⟨[], h1⟩, ((Below.refl _ w).alloc (Nat.le_refl _) _).alloc (by simp) _, by simp⟩

theorem one5 (x : Nat) : ∀ u ∈ [Value.int .u8 (x : Int)], u.oneCell' = true := fun u hu => by
  simp at hu
  subst hu
  rfl

/-- 'b = append(b, byte)', of a state. -/
theorem app_st {w wr : World} {a : Option Addr} {n cap k : Nat} {v : Value} {ops : Array Oper} {rest : List Oper} {o : Oper} {act : Act} {Q : Exit → Act → World → Prop} (hgd : o.guard = none) (s x : Operand)
    (ho : o.op = .call { callee := .builtin .append, args := #[s, x], argTypes := #[22, 22] }) (S : St w wr a n cap v k) (hs : act.eval s = v) (z : Int) (hx : act.eval x = .slice (some ⟨wr.heap.size, 0, none⟩) 1 1) (h0 : 0 ≤ z) (h1 : z < 256) (hk : k ≤ 1000000)
    (h : ∀ v' w', St w w' a n cap v' (k + 1) → wpList Tryz.prog ops Q rest (act.put o.dst v') w') : wpList Tryz.prog ops Q (o :: rest) act (wr.alloc (.cells #[.int .u8 z] 5)) := by
  obtain ⟨y, rfl⟩ : ∃ y : Nat, z = (y : Int) := ⟨z.toNat, by omega⟩
  obtain ⟨l, hl⟩ := S.row
  refine app_own _ hgd s x 22 ho (w.heap.size + 1) 5 (.int .u8 0) 1 Tryz.underlying22 info5 rfl v k (byteCells l) hs (hl.alloc _) ⟨wr.heap.size, 0, none⟩ 1 1 [.int .u8 (y : Int)] hx rfl (one_new _ _ _) (one5 y) (by unfold maxLen; omega) (by omega) (by have := S.sz; simp; omega) ?_
  intro v' w' hown hg
  exact h v' w' (S.app (by omega) hl hown hg)

theorem cell4 {w w' : World} {c x : Nat} (h : (w.alloc (.cells #[.int .u8 10, .int .u8 9, .int .u8 34, .int .u8 92] 5)).grownBy w' (some c)) (hc : c < w.heap.size) (hx : x < 4) : ∃ y : Nat, y < 256 ∧ w'.cell? ⟨w.heap.size, x, none⟩ = some (.int .u8 (y : Int)) := by
  have key : ∀ v, (w.alloc (.cells #[.int .u8 10, .int .u8 9, .int .u8 34, .int .u8 92] 5)).cell? ⟨w.heap.size, x, none⟩ = some v → w'.cell? ⟨w.heap.size, x, none⟩ = some v := fun v hv => h.cell hv (fun e => by have e2 := Option.some.inj e; simp at e2; omega)
  match x, hx with
  | 0, _ => exact ⟨10, by decide, key _ (by simp)⟩
  | 1, _ => exact ⟨9, by decide, key _ (by simp)⟩
  | 2, _ => exact ⟨34, by decide, key _ (by simp)⟩
  | 3, _ => exact ⟨92, by decide, key _ (by simp)⟩

theorem made4 (x : Nat) (hx : x < 2) (w : World) : (Instr.makeSlice 22 (.int .i64 (4000 + (x : Int))) (.int .i64 (4000 + (x : Int)))).run Tryz.prog w = .ok (.slice (some ⟨w.heap.size, 0, none⟩) (4000 + x) (4000 + x)) (w.alloc (.cells (madeCells #[.int .u8 0] (4000 + x)) 5)) := by
  have h := run_make_row' (P := Tryz.prog) 22 5 (.int .u8 0) 1 Tryz.underlying22 info5 rfl .i64 .i64 (4000 + x) (by omega) (by omega) w
  rw [Int.natCast_add] at h
  exact h

theorem a_step {w : World} {b n k : Nat} (h : w.rowIs b 5 n (fun j => .int .u8 (if j < k then 97 else 0))) :
    (w.setCell ⟨b, k, none⟩ (.int .u8 97)).rowIs b 5 n (fun j => .int .u8 (if j < k + 1 then 97 else 0)) :=
  (h.set k _).congr fun i hi => by
    by_cases h : i = k
    · simp [h]
    · have e : (i < k + 1) ↔ (i < k) := by omega
      simp [h, e]

theorem own_of_row {w : World} {b N : Nat} (h : w.rowIs b 5 N (fun _ => .int .u8 97)) (hN : N ≤ maxLen) : w.ownsRow 0 5 1 (.slice (some ⟨b, 0, none⟩) N N) N (byteCells (List.replicate N 97)) := by
  obtain ⟨c, hb, hc, hi⟩ := h
  refine ⟨by simp [byteCells], .inr ⟨b, N, c, rfl, Nat.zero_le _, hb, Nat.le_refl _, hN, by simpa using hc, ?_⟩⟩
  rw [Nat.mul_one, ← hc, ← Array.length_toList, List.take_length]
  apply List.ext_getElem?
  intro i
  rcases Nat.lt_or_ge i N with h | h
  · rw [Array.getElem?_toList, hi i h]
    simp [byteCells, hc, h]
  · rw [Array.getElem?_toList, Array.getElem?_eq_none (by omega)]
    simp [byteCells, hc]
    omega

end Go.Proofs.YtnhddnfobcofcaaGreatDoor.dr

namespace Go.Proofs.YtnhddnfobcofcaaGreatDoor.dr
open Go.ChangeShapes Go.WideShapes Go.ChangeAt Go.RowKit Go.Deep
set_option linter.unusedVariables false
set_option linter.unusedSimpArgs false

theorem size_app (a b : ByteArray) : (a ++ b).size = a.size + b.size := by simp
theorem size_one (b : UInt8) : (⟨#[b]⟩ : ByteArray).size = 1 := rfl

def dg (k : Nat) : UInt8 := UInt8.ofNat (48 + k % 10)
theorem digit_nat (k : Nat) : ((dg k).toNat : Int) = 48 + ((k % 10 : Nat) : Int) := by
  have : (48 + k % 10) % 256 = 48 + k % 10 := Nat.mod_eq_of_lt (by omega)
  simp [dg, UInt8.toNat_ofNat', this]

theorem digit_conv (k : Nat) (wr : World) (z : Int) (hz : z = 48 + ((k % 10 : Nat) : Int)) : (convert 22 9 (.slice (some ⟨wr.heap.size, 0, none⟩) 1 1)).run Tryz.prog (wr.alloc (.cells #[.int .u8 z] 5)) = .ok (.string ⟨[dg k].toArray⟩) (wr.alloc (.cells #[.int .u8 z] 5)) := by
  subst hz
  refine own_string (base := wr.heap.size) (n := 1) Tryz.underlying22 Tryz.underlying5 Tryz.underlying9 ?_
  rw [byteCells_one, digit_nat]
  exact ⟨rfl, .inr ⟨wr.heap.size, 1, #[.int .u8 (48 + ((k % 10 : Nat) : Int))], rfl, Nat.le_refl _, World.alloc_heap_new wr _, by decide, by decide, rfl, rfl⟩⟩

def strOk (v : Value) : Bool := match v with
  | .string y => decide (y.size ≤ 64)
  | _ => false
/-- A table of short texts. -/
def Tab (w : World) (b m : Nat) : Prop := ∀ x, x < m → ∃ y : ByteArray, y.size ≤ 64 ∧ w.cell? ⟨b, x, none⟩ = some (.string y)

theorem tab_new (w : World) (arr : Array Value) (m : Nat) (hm : m = arr.size) (hok : arr.all strOk = true) : Tab (w.alloc (.cells arr 9)) w.heap.size m := by
  subst hm
  intro x hx
  have h := (Array.all_eq_true.1 hok) x hx
  have hc := World.cell?_alloc_new w arr 9 x
  rw [Array.getElem?_eq_getElem hx] at hc
  generalize arr[x] = v at h hc
  cases v <;> simp [strOk] at h
  exact ⟨_, h, hc⟩

theorem Tab.draws {wr w' : World} {b m c : Nat} {a : Option Addr} {n cap : Nat} (h : Tab wr b m) (d : Draws wr w' c a n cap) (hb : b ≠ c) : Tab w' b m := fun x hx => by
  obtain ⟨y, hy, hc⟩ := h x hx
  exact ⟨y, hy, d.grown.cell hc (fun e => hb (by have := Option.some.inj e; simpa using this))⟩
theorem Tab.below {wr w' : World} {b m : Nat} (h : Tab wr b m) (hb : Below wr.heap.size wr w') : Tab w' b m := fun x hx => by
  obtain ⟨y, hy, hc⟩ := h x hx
  exact ⟨y, hy, (hb.cell (p := ⟨b, x, none⟩) (World.block_lt_of_cell? _ _ hc)).trans hc⟩
theorem Draws.alloc {w wr : World} {c : Nat} {a : Option Addr} {n cap : Nat} (h : Draws w wr c a n cap) (hc : Can w c a n cap) (hw : c < w.heap.size) (o : Obj) : Draws w (wr.alloc o) c a n cap := by
  have h1 := (hc.draws h).below ((Below.refl _ wr).alloc (by have := h.grown.size; omega) o)
  exact ⟨h1.code, h1.cur, grown_alloc h.grown o⟩
theorem Draws.below {w wr w' : World} {c : Nat} {a : Option Addr} {n cap : Nat} (h : Draws w wr c a n cap) (hc : Can w c a n cap) (hw : c < w.heap.size) (hb : Below wr.heap.size wr w') : Draws w w' c a n cap := by
  have h1 := (hc.draws h).below (hb.mono (by have := h.grown.size; omega))
  exact ⟨h1.code, h1.cur, ⟨hb.os.trans h.grown.os, hb.tape.trans h.grown.tape, hb.output.trans h.grown.output, Nat.le_trans h.grown.size hb.size, fun j hj hne => (hb.block j (Nat.lt_of_lt_of_le hj h.grown.size)).trans (h.grown.block j hj hne)⟩⟩

end Go.Proofs.YtnhddnfobcofcaaGreatDoor.dr

namespace Go.Proofs.YtnhddnfobcofcaaGreatDoor.cr
open Go.ChangeShapes Go.WideShapes Go.ChangeAt Go.RowKit Go.Deep
open dr (Draws below_can once_can)
set_option linter.unusedVariables false
set_option linter.unusedSimpArgs false

/-! ### FnCondBack: drawn texts -/

/-- A drawn text: so long at most, so many words at most. -/
def DT (d : Nat) (s : ByteArray) : Prop := s.size ≤ 6 * 4 ^ d ∧ rn false s.data.toList ≤ 3 ^ d
theorem rn_cat (a b : ByteArray) : rn false (a ++ b).data.toList ≤ rn false a.data.toList + rn false b.data.toList := by
  have e : (a ++ b).data.toList = a.data.toList ++ b.data.toList := by simp [ByteArray.data_append]
  rw [e]
  exact rn_app _ _ _
theorem sz_cat (a b : ByteArray) : (a ++ b).size = a.size + b.size := ByteArray.size_append
def dtB (v : Value) : Bool := match v with
  | .string y => decide (y.size ≤ 6 ∧ rn false y.data.toList ≤ 1)
  | _ => false
def Tab7 (w : World) (b m : Nat) : Prop := ∀ x, x < m → ∃ y : ByteArray, DT 0 y ∧ w.cell? ⟨b, x, none⟩ = some (.string y)
theorem tab7_new (w : World) (arr : Array Value) (m : Nat) (hm : m = arr.size) (hok : arr.all dtB = true) : Tab7 (w.alloc (.cells arr 9)) w.heap.size m := by
  subst hm
  intro x hx
  have h := (Array.all_eq_true.1 hok) x hx
  have hc := World.cell?_alloc_new w arr 9 x
  rw [Array.getElem?_eq_getElem hx] at hc
  generalize arr[x] = v at h hc
  cases v <;> simp [dtB] at h
  exact ⟨_, h, hc⟩
theorem Tab7.draws {wr w' : World} {b m c : Nat} {a : Option Addr} {n cap : Nat} (h : Tab7 wr b m) (d : Draws wr w' c a n cap) (hb : b ≠ c) : Tab7 w' b m := fun x hx => by
  obtain ⟨y, hy, hc⟩ := h x hx
  exact ⟨y, hy, d.grown.cell hc (fun e => hb (by have := Option.some.inj e; simpa using this))⟩
theorem DT.up {d : Nat} {s : ByteArray} (h : DT 0 s) : DT d s := by
  obtain ⟨h1, h2⟩ := h
  have h3 : 1 ≤ 3 ^ d := Nat.one_le_pow _ _ (by decide)
  have h4 : 1 ≤ 4 ^ d := Nat.one_le_pow _ _ (by decide)
  exact ⟨by omega, by omega⟩
theorem DT.small {d : Nat} {s : ByteArray} (h : DT d s) (hd : d ≤ 3) : s.size ≤ 400 := by
  have h1 := h.1
  have : 4 ^ d ≤ 4 ^ 3 := Nat.pow_le_pow_right (by decide) hd
  omega
theorem dt_of {d : Nat} {s : ByteArray} (P R : Nat) (hs : s.size ≤ P) (hr : rn false s.data.toList ≤ R) (h1 : P ≤ 6 * 4 ^ (d + 1)) (h2 : R ≤ 3 ^ (d + 1)) : DT (d + 1) s := ⟨Nat.le_trans hs h1, Nat.le_trans hr h2⟩
theorem pows (d : Nat) : 4 ^ (d + 1) = 4 * 4 ^ d ∧ 3 ^ (d + 1) = 3 * 3 ^ d ∧ 1 ≤ 4 ^ d ∧ 1 ≤ 3 ^ d := ⟨by rw [Nat.pow_succ]; omega, by rw [Nat.pow_succ]; omega, Nat.one_le_pow _ _ (by decide), Nat.one_le_pow _ _ (by decide)⟩
set_option maxRecDepth 100000 in
set_option maxHeartbeats 4000000 in
theorem dleaf_any {a : Option Addr} {n cap : Nat} {w : World} {c : Nat} (hc : dr.Can w c a n cap) (hcw : c < w.heap.size) :
    Calls Tryz.prog 33 #[.pointer (some ⟨c, 0, none⟩), .int .i64 0] w fun e w' => ∃ s, e = .returned (.string s) ∧ DT 0 s ∧ Draws w w' c a n cap := by
  go_enter Tryz.func33, Tryz.ntmps33
  go_wp2_with (go_at_call 35; refine (below_can (hc.draws (hc.refl.alloc hc hcw _)) 7 (by decide) (by decide)).mono ?_; rintro e w1 ⟨x, rfl, hx, d1⟩; have D1 := (hc.refl.alloc hc hcw _).trans d1; obtain ⟨y, hy, hcy⟩ := (tab7_new w _ 7 rfl (by kernel_rfl)).draws d1 (by omega) x hx; clear d1; have hx' : (x : Int) < 7 := (by omega))
  go_ret
  exact ⟨y, rfl, hy, D1⟩

set_option maxRecDepth 100000 in
set_option maxHeartbeats 8000000 in
theorem dtext_any {a : Option Addr} {n cap : Nat} : ∀ (d : Nat), d ≤ 3 → ∀ {w : World} {c : Nat} (hc : dr.Can w c a n cap) (hcw : c < w.heap.size) (D : Int) (hD : D = (d : Int)),
    Calls Tryz.prog 33 #[.pointer (some ⟨c, 0, none⟩), .int .i64 D] w fun e w' => ∃ s, e = .returned (.string s) ∧ DT d s ∧ Draws w w' c a n cap := by
  intro d
  induction d with
  | zero => intro _ w c hc hcw D hD; subst hD; exact dleaf_any hc hcw
  | succ d ih =>
    intro hd w c hc hcw D hD
    have h0 : ¬ D = 0 := by omega
    have hs1 : IntKind.i64.wrap (D - 1) = (d : Int) := by rw [IntKind.wrap_i64]; omega
    have hs2 : wrap64 (D - 1) = (d : Int) := by unfold wrap64; omega
    have HIH : Hid (∀ {w : World}, dr.Can w c a n cap → c < w.heap.size → Calls Tryz.prog 33 #[.pointer (some ⟨c, 0, none⟩), .int .i64 (d : Int)] w fun e w' => ∃ s, e = .returned (.string s) ∧ DT d s ∧ Draws w w' c a n cap) := fun h1 h2 => ih (by omega) h1 h2 _ rfl
    obtain ⟨E, hE⟩ : ∃ E, (d : Int) = E := ⟨_, rfl⟩
    rw [hE] at hs1 hs2 HIH
    clear hD ih hE
    have HD : Hid (d + 1 ≤ 3) := hd
    clear hd
    go_enter Tryz.func33, Tryz.ntmps33
    go_wp2_with (go_at_call 34; refine (once_can hc 4 (by decide) (by decide)).mono ?_; rintro e w1 ⟨b, rfl, d1⟩; refine Hid.out ?_)
    refine Lib.hid ?_
    have hcw1 : c < w1.heap.size := Nat.lt_of_lt_of_le hcw d1.grown.size
    have hc1 := hc.draws d1
    cases b with
    | true =>
      go_wp2_with (go_at_call 35; refine (below_can (hc1.draws (hc1.refl.alloc hc1 hcw1 _)) 7 (by decide) (by decide)).mono ?_; rintro e w2 ⟨x, rfl, hx, d2⟩; have D2 := d1.trans ((hc1.refl.alloc hc1 hcw1 _).trans d2); obtain ⟨y, hy, hcy⟩ := (tab7_new w1 _ 7 rfl (by kernel_rfl)).draws d2 (by omega) x hx; clear d2; have hx' : (x : Int) < 7 := (by omega))
      go_ret
      exact ⟨y, rfl, hy.up, D2⟩
    | false =>
      have HD1 := Lib.hid d1
      clear d1
      go_wp2_with (go_at_call 33; refine (HIH.out hc1 hcw1).mono ?_; rintro e w2 ⟨p, rfl, hp, d2⟩; refine Hid.out ?_)
      refine Lib.hid ?_
      have hcw2 : c < w2.heap.size := Nat.lt_of_lt_of_le hcw1 d2.grown.size
      have hc2 := hc1.draws d2
      have HD2 := Lib.hid (HD1.out.trans d2)
      clear d2
      go_wp2_with (go_at_call 33; refine (HIH.out hc2 hcw2).mono ?_; rintro e w3 ⟨q, rfl, hq, d3⟩; refine Hid.out ?_)
      refine Lib.hid ?_
      have hcw3 : c < w3.heap.size := Nat.lt_of_lt_of_le hcw2 d3.grown.size
      have hc3 := hc2.draws d3
      have HD3 := Lib.hid (HD2.out.trans d3)
      clear d3
      go_wp2_with (go_at_call 35; refine (below_can hc3 6 (by decide) (by decide)).mono ?_; rintro e w4 ⟨x, rfl, hx, d4⟩; refine Hid.out ?_)
      refine Lib.hid ?_
      have hcw4 : c < w4.heap.size := Nat.lt_of_lt_of_le hcw3 d4.grown.size
      have hc4 := hc3.draws d4
      have HD4 := Lib.hid (HD3.out.trans d4)
      have hps := hp.small (by have := HD.out; omega)
      have hqs := hq.small (by have := HD.out; omega)
      obtain ⟨P, hP⟩ : ∃ P, p.size = P := ⟨_, rfl⟩
      obtain ⟨Q, hQ⟩ : ∃ Q, q.size = Q := ⟨_, rfl⟩
      obtain ⟨hw4, hw3, ho4, ho3⟩ := pows d
      have HP1 : Hid (p.size ≤ 6 * 4 ^ d) := hp.1
      have HQ1 : Hid (q.size ≤ 6 * 4 ^ d) := hq.1
      have HP2 : Hid (rn false p.data.toList ≤ 3 ^ d) := hp.2
      have HQ2 : Hid (rn false q.data.toList ≤ 3 ^ d) := hq.2
      have HW : Hid (4 ^ (d + 1) = 4 * 4 ^ d ∧ 3 ^ (d + 1) = 3 * 3 ^ d ∧ 1 ≤ 4 ^ d ∧ 1 ≤ 3 ^ d) := pows d
      clear d4 hp hq hP hQ hw4 hw3 ho4 ho3
      obtain hx0 | hx0 | hx0 | hx0 | hx0 | hx0 : x = 0 ∨ x = 1 ∨ x = 2 ∨ x = 3 ∨ x = 4 ∨ x = 5 := by omega
      · subst hx0
        have hz1 : ¬ 9223372036854775807 < p.size + 1 := by omega
        have hz2 : ¬ 9223372036854775807 < p.size + 1 + q.size := by omega
        have HF : Hid (DT (d + 1) ((p ++ ⟨#[38]⟩ : ByteArray) ++ q : ByteArray)) := by
          have hr0 := rn_cat p ⟨#[38]⟩
          have hr1 := rn_cat ((p ++ ⟨#[38]⟩ : ByteArray)) q
          have hp1 := HP1.out; have hq1 := HQ1.out; have hp2 := HP2.out; have hq2 := HQ2.out; obtain ⟨e4, e3, o4, o3⟩ := HW.out
          have hk0 : rn false (⟨#[38]⟩ : ByteArray).data.toList = 0 := by decide
          have hl0 : (⟨#[38]⟩ : ByteArray).size = 1 := rfl
          refine ⟨?_, ?_⟩
          · simp only [sz_cat, hl0]; omega
          · omega
        clear HW HP1 HP2 HQ1 HQ2
        go_wp2
        go_ret
        exact ⟨_, rfl, HF.out, HD4.out⟩
      · subst hx0
        have hz1 : ¬ 9223372036854775807 < p.size + 3 := by omega
        have hz2 : ¬ 9223372036854775807 < p.size + 3 + q.size := by omega
        have HF : Hid (DT (d + 1) ((p ++ ⟨#[32, 124, 32]⟩ : ByteArray) ++ q : ByteArray)) := by
          have hr0 := rn_cat p ⟨#[32, 124, 32]⟩
          have hr1 := rn_cat ((p ++ ⟨#[32, 124, 32]⟩ : ByteArray)) q
          have hp1 := HP1.out; have hq1 := HQ1.out; have hp2 := HP2.out; have hq2 := HQ2.out; obtain ⟨e4, e3, o4, o3⟩ := HW.out
          have hk0 : rn false (⟨#[32, 124, 32]⟩ : ByteArray).data.toList = 0 := by decide
          have hl0 : (⟨#[32, 124, 32]⟩ : ByteArray).size = 3 := rfl
          refine ⟨?_, ?_⟩
          · simp only [sz_cat, hl0]; omega
          · omega
        clear HW HP1 HP2 HQ1 HQ2
        go_wp2
        go_ret
        exact ⟨_, rfl, HF.out, HD4.out⟩
      · subst hx0
        have hz1 : ¬ 9223372036854775807 < 2 + p.size := by omega
        have hz2 : ¬ 9223372036854775807 < 2 + p.size + 1 := by omega
        have HF : Hid (DT (d + 1) ((⟨#[33, 40]⟩ ++ p : ByteArray) ++ ⟨#[41]⟩ : ByteArray)) := by
          have hr0 := rn_cat ⟨#[33, 40]⟩ p
          have hr1 := rn_cat ((⟨#[33, 40]⟩ ++ p : ByteArray)) ⟨#[41]⟩
          have hp1 := HP1.out; have hq1 := HQ1.out; have hp2 := HP2.out; have hq2 := HQ2.out; obtain ⟨e4, e3, o4, o3⟩ := HW.out
          have hk0 : rn false (⟨#[33, 40]⟩ : ByteArray).data.toList = 0 := by decide
          have hl0 : (⟨#[33, 40]⟩ : ByteArray).size = 2 := rfl
          have hk1 : rn false (⟨#[41]⟩ : ByteArray).data.toList = 0 := by decide
          have hl1 : (⟨#[41]⟩ : ByteArray).size = 1 := rfl
          refine ⟨?_, ?_⟩
          · simp only [sz_cat, hl0, hl1]; omega
          · omega
        clear HW HP1 HP2 HQ1 HQ2
        go_wp2
        go_ret
        exact ⟨_, rfl, HF.out, HD4.out⟩
      · subst hx0
        have hz1 : ¬ 9223372036854775807 < 1 + p.size := by omega
        have hz2 : ¬ 9223372036854775807 < 1 + p.size + 1 := by omega
        have hz3 : ¬ 9223372036854775807 < 1 + p.size + 1 + q.size := by omega
        have hz4 : ¬ 9223372036854775807 < 1 + p.size + 1 + q.size + 2 := by omega
        go_wp2_with (go_at_call 33; refine (HIH.out hc4 hcw4).mono ?_; rintro e w5 ⟨r, rfl, hr, d5⟩; refine Hid.out ?_)
        refine Lib.hid ?_
        have hrs : r.size ≤ 400 := hr.small (by have := HD.out; omega)
        have HD5 := Lib.hid (HD4.out.trans d5)
        have HR1 : Hid (r.size ≤ 6 * 4 ^ d) := hr.1
        have HR2 : Hid (rn false r.data.toList ≤ 3 ^ d) := hr.2
        clear hr d5
        have hz1 : ¬ 9223372036854775807 < 1 + p.size := by omega
        have hz2 : ¬ 9223372036854775807 < 1 + p.size + 1 := by omega
        have hz3 : ¬ 9223372036854775807 < 1 + p.size + 1 + q.size := by omega
        have hz4 : ¬ 9223372036854775807 < 1 + p.size + 1 + q.size + 2 := by omega
        have hz5 : ¬ 9223372036854775807 < 1 + p.size + 1 + q.size + 2 + r.size := by omega
        have HF : Hid (DT (d + 1) (((((⟨#[40]⟩ ++ p : ByteArray) ++ ⟨#[124]⟩ : ByteArray) ++ q : ByteArray) ++ ⟨#[41, 38]⟩ : ByteArray) ++ r : ByteArray)) := by
          have hr0 := rn_cat ⟨#[40]⟩ p
          have hr1 := rn_cat ((⟨#[40]⟩ ++ p : ByteArray)) ⟨#[124]⟩
          have hr2 := rn_cat (((⟨#[40]⟩ ++ p : ByteArray) ++ ⟨#[124]⟩ : ByteArray)) q
          have hr3 := rn_cat ((((⟨#[40]⟩ ++ p : ByteArray) ++ ⟨#[124]⟩ : ByteArray) ++ q : ByteArray)) ⟨#[41, 38]⟩
          have hr4 := rn_cat (((((⟨#[40]⟩ ++ p : ByteArray) ++ ⟨#[124]⟩ : ByteArray) ++ q : ByteArray) ++ ⟨#[41, 38]⟩ : ByteArray)) r
          have hp1 := HP1.out; have hq1 := HQ1.out; have hp2 := HP2.out; have hq2 := HQ2.out; obtain ⟨e4, e3, o4, o3⟩ := HW.out
          have hr1' := HR1.out; have hr2' := HR2.out
          have hk0 : rn false (⟨#[40]⟩ : ByteArray).data.toList = 0 := by decide
          have hl0 : (⟨#[40]⟩ : ByteArray).size = 1 := rfl
          have hk1 : rn false (⟨#[124]⟩ : ByteArray).data.toList = 0 := by decide
          have hl1 : (⟨#[124]⟩ : ByteArray).size = 1 := rfl
          have hk2 : rn false (⟨#[41, 38]⟩ : ByteArray).data.toList = 0 := by decide
          have hl2 : (⟨#[41, 38]⟩ : ByteArray).size = 2 := rfl
          refine ⟨?_, ?_⟩
          · simp only [sz_cat, hl0, hl1, hl2]; omega
          · omega
        clear HW HP1 HP2 HQ1 HQ2
        go_wp2
        go_ret
        exact ⟨_, rfl, HF.out, HD5.out⟩
      · subst hx0
        have hz1 : ¬ 9223372036854775807 < 1 + p.size := by omega
        have hz2 : ¬ 9223372036854775807 < 1 + p.size + 1 := by omega
        have HF : Hid (DT (d + 1) ((⟨#[40]⟩ ++ p : ByteArray) ++ ⟨#[41]⟩ : ByteArray)) := by
          have hr0 := rn_cat ⟨#[40]⟩ p
          have hr1 := rn_cat ((⟨#[40]⟩ ++ p : ByteArray)) ⟨#[41]⟩
          have hp1 := HP1.out; have hq1 := HQ1.out; have hp2 := HP2.out; have hq2 := HQ2.out; obtain ⟨e4, e3, o4, o3⟩ := HW.out
          have hk0 : rn false (⟨#[40]⟩ : ByteArray).data.toList = 0 := by decide
          have hl0 : (⟨#[40]⟩ : ByteArray).size = 1 := rfl
          have hk1 : rn false (⟨#[41]⟩ : ByteArray).data.toList = 0 := by decide
          have hl1 : (⟨#[41]⟩ : ByteArray).size = 1 := rfl
          refine ⟨?_, ?_⟩
          · simp only [sz_cat, hl0, hl1]; omega
          · omega
        clear HW HP1 HP2 HQ1 HQ2
        go_wp2
        go_ret
        exact ⟨_, rfl, HF.out, HD4.out⟩
      · subst hx0
        go_wp2_with (go_at_call 33; refine (dleaf_any hc4 hcw4).mono ?_; rintro e w5 ⟨r, rfl, hr, d5⟩; refine Hid.out ?_)
        refine Lib.hid ?_
        have hrs : r.size ≤ 400 := hr.small (by have := HD.out; omega)
        have HD5 := Lib.hid (HD4.out.trans d5)
        have HR1 : Hid (r.size ≤ 6 * 4 ^ 0) := hr.1
        have HR2 : Hid (rn false r.data.toList ≤ 3 ^ 0) := hr.2
        clear hr d5
        have hz1 : ¬ 9223372036854775807 < 2 + r.size := by omega
        have hz2 : ¬ 9223372036854775807 < 2 + r.size + 2 := by omega
        have hz3 : ¬ 9223372036854775807 < 2 + r.size + 2 + p.size := by omega
        have hz4 : ¬ 9223372036854775807 < 2 + r.size + 2 + p.size + 1 := by omega
        have hz5 : ¬ 9223372036854775807 < 2 + r.size + 2 + p.size + 1 + q.size := by omega
        have hz6 : ¬ 9223372036854775807 < 2 + r.size + 2 + p.size + 1 + q.size + 1 := by omega
        have HF : Hid (DT (d + 1) ((((((⟨#[33, 33]⟩ ++ r : ByteArray) ++ ⟨#[38, 40]⟩ : ByteArray) ++ p : ByteArray) ++ ⟨#[38]⟩ : ByteArray) ++ q : ByteArray) ++ ⟨#[41]⟩ : ByteArray)) := by
          have hr0 := rn_cat ⟨#[33, 33]⟩ r
          have hr1 := rn_cat ((⟨#[33, 33]⟩ ++ r : ByteArray)) ⟨#[38, 40]⟩
          have hr2 := rn_cat (((⟨#[33, 33]⟩ ++ r : ByteArray) ++ ⟨#[38, 40]⟩ : ByteArray)) p
          have hr3 := rn_cat ((((⟨#[33, 33]⟩ ++ r : ByteArray) ++ ⟨#[38, 40]⟩ : ByteArray) ++ p : ByteArray)) ⟨#[38]⟩
          have hr4 := rn_cat (((((⟨#[33, 33]⟩ ++ r : ByteArray) ++ ⟨#[38, 40]⟩ : ByteArray) ++ p : ByteArray) ++ ⟨#[38]⟩ : ByteArray)) q
          have hr5 := rn_cat ((((((⟨#[33, 33]⟩ ++ r : ByteArray) ++ ⟨#[38, 40]⟩ : ByteArray) ++ p : ByteArray) ++ ⟨#[38]⟩ : ByteArray) ++ q : ByteArray)) ⟨#[41]⟩
          have hp1 := HP1.out; have hq1 := HQ1.out; have hp2 := HP2.out; have hq2 := HQ2.out; obtain ⟨e4, e3, o4, o3⟩ := HW.out
          have hr1' := HR1.out; have hr2' := HR2.out
          have hk0 : rn false (⟨#[33, 33]⟩ : ByteArray).data.toList = 0 := by decide
          have hl0 : (⟨#[33, 33]⟩ : ByteArray).size = 2 := rfl
          have hk1 : rn false (⟨#[38, 40]⟩ : ByteArray).data.toList = 0 := by decide
          have hl1 : (⟨#[38, 40]⟩ : ByteArray).size = 2 := rfl
          have hk2 : rn false (⟨#[38]⟩ : ByteArray).data.toList = 0 := by decide
          have hl2 : (⟨#[38]⟩ : ByteArray).size = 1 := rfl
          have hk3 : rn false (⟨#[41]⟩ : ByteArray).data.toList = 0 := by decide
          have hl3 : (⟨#[41]⟩ : ByteArray).size = 1 := rfl
          refine ⟨?_, ?_⟩
          · simp only [sz_cat, hl0, hl1, hl2, hl3]; omega
          · omega
        clear HW HP1 HP2 HQ1 HQ2
        go_wp2
        go_ret
        exact ⟨_, rfl, HF.out, HD5.out⟩
end Go.Proofs.YtnhddnfobcofcaaGreatDoor.cr
