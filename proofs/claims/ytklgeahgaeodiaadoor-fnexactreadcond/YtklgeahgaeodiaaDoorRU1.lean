import Derived.Test.YtklgeahgaeodiaaDoorRT1
import Derived.Test.YtklgeahgaeodiaaDoorRE1
import Derived.Deep.LoopGhost
namespace Go.Proofs.YtklgeahgaeodiaaDoor.cr
open Go.ChangeShapes Go.WideShapes Go.ChangeAt Go.RowKit Go.Deep
open cd (Tr Cn infoE)
set_option linter.unusedVariables false
set_option linter.unusedSimpArgs false

/-! ### The specification's reader: rows -/

/-- As read, or cut where it is too long anyway. -/
def Ex (L X : List Cn) : Prop := L = X ∨ (301 ≤ L.length ∧ 300 < X.length)
theorem Ex.app {L X M Y : List Cn} (h : Ex L X) (k : Ex M Y) : Ex (L ++ M) (X ++ Y) := by
  rcases h with rfl | ⟨h1, h2⟩
  · rcases k with rfl | ⟨k1, k2⟩
    · exact .inl rfl
    · exact .inr ⟨by rw [List.length_append]; omega, by rw [List.length_append]; omega⟩
  · exact .inr ⟨by rw [List.length_append]; omega, by rw [List.length_append]; omega⟩
theorem Ex.make {L X : List Cn} (h : Ex L X) (k : Int) : Ex (((⟨k, bA [], (L.length : Int)⟩ : Cn) :: L).take 301) (⟨k, bA [], (X.length : Int)⟩ :: X) := by
  rcases h with rfl | ⟨h1, h2⟩
  · by_cases hl : L.length + 1 ≤ 301
    · exact .inl (List.take_of_length_le (by rw [List.length_cons]; exact hl))
    · exact .inr ⟨by rw [List.length_take, List.length_cons]; omega, by rw [List.length_cons]; omega⟩
  · exact .inr ⟨by rw [List.length_take, List.length_cons]; omega, by rw [List.length_cons]; omega⟩
structure SRes (w w' : World) (rb : Nat) (S : ByteArray) (f : Nat) (m : Option (Tr × List UInt8)) (e : Ending) : Prop where
  gr : w.grownBy w' (some rb)
  rd : ∃ (i : Nat) (b : Bool) (g c : Nat) (L : List Cn), e = .returned (.slice (some ⟨g, 0, none⟩) L.length c) ∧ Sr w' rb S i b ∧ i ≤ S.size + f ∧ OC w.heap.size w' (.slice (some ⟨g, 0, none⟩) L.length c) L ∧ 1 ≤ L.length ∧ L.length ≤ 301 ∧ (∀ c ∈ L, c.name.size ≤ 4000) ∧ (m = none → b = true) ∧ ∀ t r, m = some (t, r) → b = false ∧ S.data.toList.drop i = r ∧ i ≤ S.size ∧ Ex L (fl t)
theorem gr_own {A B C : World} {c : Nat} {q : Option Nat} (h : A.grownBy B (some c)) (k : B.grownBy C q) (hq : ∀ j, q = some j → A.heap.size ≤ j) : A.grownBy C (some c) :=
  ⟨k.os.trans h.os, k.tape.trans h.tape, k.output.trans h.output, Nat.le_trans h.size k.size, fun j hj hne => (k.block j (Nat.lt_of_lt_of_le hj h.size) (fun e => by have := hq j e.symm; omega)).trans (h.block j hj hne)⟩
/-- Where a reader stands, with what it has read. -/
structure Rw (w : World) (rb : Nat) (S : ByteArray) (f : Nat) (wr : World) (i : Nat) (b : Bool) (g c : Nat) (L : List Cn) (n : Nat) : Prop where
  sr : Sr wr rb S i b
  gr : w.grownBy wr (some rb)
  oc : OC w.heap.size wr (.slice (some ⟨g, 0, none⟩) L.length c) L
  lt : rb < w.heap.size
  il : i ≤ S.size + f
  nm : ∀ c ∈ L, c.name.size ≤ 4000
  ll : L.length ≤ 301 * n
  l0 : n ≤ L.length
section
variable {w : World} {rb : Nat} {S : ByteArray} {f : Nat} {wr : World} {i : Nat} {b : Bool} {g c : Nat} {L : List Cn} {n : Nat}
theorem Rw.gb (h : Rw w rb S f wr i b g c L n) : w.heap.size ≤ g ∧ g < wr.heap.size := World.ownsRow.lt h.oc g rfl
theorem Rw.up (h : Rw w rb S f wr i b g c L n) {f' : Nat} (hf : f ≤ f') : Rw w rb S f' wr i b g c L n := ⟨h.sr, h.gr, h.oc, h.lt, by have := h.il; omega, h.nm, h.ll, h.l0⟩
theorem Rw.pre (h : Rw w rb S f wr i b g c L n) {w0 : World} (k : w0.grownBy w (some rb)) (hl : rb < w0.heap.size) : Rw w0 rb S f wr i b g c L n := ⟨h.sr, gr_trans k h.gr, h.oc.mono k.size, hl, h.il, h.nm, h.ll, h.l0⟩
theorem SRes.rw {w' : World} {m : Option (Tr × List UInt8)} {e : Ending} (h : SRes w w' rb S f m e) (hl : rb < w.heap.size) : ∃ (i : Nat) (b : Bool) (g c : Nat) (L : List Cn), e = .returned (.slice (some ⟨g, 0, none⟩) L.length c) ∧ Rw w rb S f w' i b g c L 1 ∧ (m = none → b = true) ∧ ∀ t r, m = some (t, r) → b = false ∧ S.data.toList.drop i = r ∧ i ≤ S.size ∧ Ex L (fl t) := by
  obtain ⟨i, b, g, c, L, h1, h2, h3, h4, h5, h6, h7, h8⟩ := h.rd
  exact ⟨i, b, g, c, L, h1, ⟨h2, h.gr, h4, hl, h3, h7, by omega, h5⟩, h8⟩
theorem Rw.done (h : Rw w rb S f wr i b g c L 1) {m : Option (Tr × List UInt8)} (hm : (b = true → m = none) ∧ (b = false → ∃ t, m = some (t, S.data.toList.drop i) ∧ i ≤ S.size ∧ Ex L (fl t))) : SRes w wr rb S f m (.returned (.slice (some ⟨g, 0, none⟩) L.length c)) := by
  refine ⟨h.gr, i, b, g, c, L, rfl, h.sr, h.il, h.oc, h.l0, by have := h.ll; omega, h.nm, ?_, ?_⟩
  · intro e
    cases b with
    | true => rfl
    | false => obtain ⟨t, h1, _⟩ := hm.2 rfl; rw [h1] at e; cases e
  · intro t r e
    cases b with
    | true => rw [hm.1 rfl] at e; cases e
    | false =>
      obtain ⟨t', h1, h2, h3⟩ := hm.2 rfl
      rw [h1] at e
      cases e
      exact ⟨rfl, rfl, h2, h3⟩
theorem Rw.made (h : Rw w rb S f wr i b g c L n) {k : Int} {w' : World} {e : Ending} (hm : MkR k L wr w' e) (hb : Below wr.heap.size wr w') : ∃ (g' c' : Nat) (L' : List Cn), e = .returned (.slice (some ⟨g', 0, none⟩) L'.length c') ∧ Rw w rb S f w' i b g' c' L' 1 ∧ ∀ X, Ex L X → Ex L' (⟨k, bA [], (X.length : Int)⟩ :: X) := by
  obtain ⟨g', c', e1, h1⟩ := hm
  refine ⟨g', c', _, e1, ⟨h.sr.to (hb.block rb h.sr.lt), gr_below h.gr hb, h1.mono h.gr.size, h.lt, h.il, ?_, by rw [List.length_take]; omega, by rw [List.length_take, List.length_cons]; omega⟩, fun X hX => hX.make k⟩
  intro x hx
  rcases List.mem_cons.1 (List.mem_of_mem_take hx) with rfl | hx
  · rw [bA_size]; simp
  · exact h.nm x hx
theorem Rw.seti (h : Rw w rb S f wr i b g c L n) (k : Nat) (hk : k ≤ S.size + f) : Rw w rb S f (wr.setCell ⟨rb, 1, none⟩ (.int .i64 (k : Int))) k b g c L n :=
  ⟨h.sr.seti k, gr_trans h.gr (gr_set _ _ _ _), h.oc.kept (gr_set wr rb 1 _) (.inr (by have := h.gb; have := h.lt; simp [Value.ownBlock]; omega)), h.lt, hk, h.nm, h.ll, h.l0⟩
theorem Rw.setb (h : Rw w rb S f wr i b g c L n) (b' : Bool) : Rw w rb S f (wr.setCell ⟨rb, 2, none⟩ (.bool b')) i b' g c L n :=
  ⟨h.sr.setb b', gr_trans h.gr (gr_set _ _ _ _), h.oc.kept (gr_set wr rb 2 _) (.inr (by have := h.gb; have := h.lt; simp [Value.ownBlock]; omega)), h.lt, h.il, h.nm, h.ll, h.l0⟩
theorem Rw.peek (h : Rw w rb S f wr i b g c L n) {w' : World} {e : Ending} (hp : PkR S rb i b wr w' e) : e = .returned (.int .u8 (pkN (S.data.toList.drop i) : Int)) ∧ ∃ k, i ≤ k ∧ k ≤ S.size + f ∧ (i ≤ S.size → k ≤ S.size) ∧ S.data.toList.drop k = skip (S.data.toList.drop i) ∧ Rw w rb S f w' k b g c L n := by
  obtain ⟨e1, hg, hsz, k, h1, h2, h3, h4, h5⟩ := hp
  have hk : k ≤ S.size + f := by have := h.il; rcases Nat.lt_or_ge i S.size with q | q; (have := h2 (by omega); omega); (have := h3 q; omega)
  exact ⟨e1, k, h1, hk, h2, h4, h5, gr_trans h.gr hg, h.oc.kept hg (.inr (by have := h.gb; have := h.lt; simp [Value.ownBlock]; omega)), h.lt, hk, h.nm, h.ll, h.l0⟩
theorem Rw.app (h : Rw w rb S f wr i b g c L n) {w4 : World} {i4 g4 c4 : Nat} {b4 : Bool} {L4 : List Cn} (k : Rw wr rb S f w4 i4 b4 g4 c4 L4 1) (hn : n ≤ 4001) : ∃ (g' c' : Nat) (W' : World) (L' : List Cn), (Builtin.append_ #[22, 22] 22 #[.slice (some ⟨g, 0, none⟩) L.length c, .slice (some ⟨g4, 0, none⟩) L4.length c4]).run Tryd.prog w4 = .ok (.slice (some ⟨g', 0, none⟩) L'.length c') W' ∧ Rw w rb S f W' i4 b4 g' c' L' (n + 1) ∧ ∀ X Y, Ex L X → Ex L4 Y → Ex L' (X ++ Y) := by
  have hgb := h.gb
  have hlt := h.lt
  have hll := h.ll
  have kll := k.ll
  have kl0 := k.l0
  have hoc : OC w.heap.size w4 (.slice (some ⟨g, 0, none⟩) L.length c) L := h.oc.kept k.gr (.inr (by simp [Value.ownBlock]; omega))
  obtain ⟨v2, W2, hr2, hoc2, hg2, hloc2, hn2⟩ := run_appC (m := L4) hoc (Nat.le_trans h.gr.size k.gr.size) 22 ⟨g4, 0, none⟩ c4 k.oc.read (by omega)
  obtain ⟨g2, c2, rfl⟩ := oc_at hoc2 (by rw [List.length_append]; omega)
  refine ⟨g2, c2, W2, L ++ L4, hr2, ⟨k.sr.to (hg2.block rb k.sr.lt (by simp [Value.ownBlock]; omega)), gr_own (gr_trans h.gr k.gr) hg2 (fun j hj => by simp [Value.ownBlock] at hj; omega), hoc2, hlt, k.il, fun x hx => ?_, by rw [List.length_append]; omega, by rw [List.length_append]; have := h.l0; omega⟩, fun X Y a b => a.app b⟩
  rcases List.mem_append.1 hx with hx | hx
  · exact h.nm x hx
  · exact k.nm x hx
theorem Rw.fin1 (h : Rw w rb S f wr i b g c L 1) {K : Int} {m : Option (Tr × List UInt8)} (hm : (b = true → m = none) ∧ (b = false → ∃ ts, m = some (mkR K ts, S.data.toList.drop i) ∧ i ≤ S.size ∧ ts.length = 1 ∧ Ex L (flL ts))) : SRes w wr rb S (f + 1) m (.returned (.slice (some ⟨g, 0, none⟩) L.length c)) := by
  refine (h.up (Nat.le_succ f)).done ⟨hm.1, fun hb => ?_⟩
  obtain ⟨ts, h1, h2, h3, h4⟩ := hm.2 hb
  obtain ⟨t, rfl⟩ := List.length_eq_one_iff.1 h3
  rw [flL_one] at h4
  exact ⟨t, h1, h2, h4⟩
theorem Rw.fin2 (h : Rw w rb S f wr i b g c L n) (hn : 2 ≤ n) {K : Int} {m : Option (Tr × List UInt8)} (hm : (b = true → m = none) ∧ (b = false → ∃ ts, m = some (mkR K ts, S.data.toList.drop i) ∧ i ≤ S.size ∧ ts.length = n ∧ Ex L (flL ts))) {w' : World} {e : Ending} (hk : MkR K L wr w' e) (hb : Below wr.heap.size wr w') : SRes w w' rb S (f + 1) m e := by
  obtain ⟨g', c', L', rfl, h1, h2⟩ := h.made hk hb
  refine (h1.up (Nat.le_succ f)).done ⟨hm.1, fun hb => ?_⟩
  obtain ⟨ts, k1, k2, k3, k4⟩ := hm.2 hb
  refine ⟨_, k1, k2, ?_⟩
  rw [mkR_many (by omega), fl_eq]
  exact h2 _ k4
end
theorem pk_tk {c : UInt8} {l : List UInt8} (hc : c ≠ 0) : tkB c l = decide (pkN l = c.toNat) := by
  unfold tkB pkN
  cases skip l with
  | nil => exact (decide_eq_false (fun e => hc (UInt8.toNat_inj.1 (by rw [← e]; rfl)))).symm
  | cons d q => simp only [UInt8.toNat_inj]
theorem pk_drop {S : ByteArray} {k : Nat} {c : UInt8} {r : List UInt8} (h : tkB c r = true) (hk : S.data.toList.drop k = skip r) : S.data.toList.drop (k + 1) = tkR c r ∧ k + 1 ≤ S.size := by
  unfold tkB at h
  unfold tkR
  cases hs : skip r with
  | nil => rw [hs] at h; cases h
  | cons d q =>
    rw [hs] at h hk
    have hd : d = c := of_decide_eq_true h
    simp only [if_pos hd]
    refine ⟨?_, ?_⟩
    · rw [← List.drop_drop, hk]; rfl
    · have := congrArg List.length hk
      rw [List.length_drop, lenS] at this
      simp at this
      omega
theorem drop_len (S : ByteArray) (i : Nat) : (S.data.toList.drop i).length = S.size - i := by rw [List.length_drop, lenS]
def SC1 (f : Nat) : Prop := ∀ (S : ByteArray) (rb i d : Nat) (w : World), Sr w rb S i false → S.size ≤ 4000 → i ≤ S.size → d ≤ i → 3 * (S.size - i) + 0 + 1 ≤ f → f ≤ 20000 → Calls Tryd.prog 25 #[.pointer (some ⟨rb, 0, none⟩), .int .i64 (d : Int)] w fun e w' => SRes w w' rb S f (P f 0 (S.data.toList.drop i)) e
def SC2 (f : Nat) : Prop := ∀ (S : ByteArray) (rb i d : Nat) (w : World), Sr w rb S i false → S.size ≤ 4000 → i ≤ S.size → d ≤ i → 3 * (S.size - i) + 2 + 1 ≤ f → f ≤ 20000 → Calls Tryd.prog 9 #[.pointer (some ⟨rb, 0, none⟩), .int .i64 (d : Int)] w fun e w' => SRes w w' rb S f (P f 2 (S.data.toList.drop i)) e
def SCr (sg : Int) (lv f : Nat) : Prop := ∀ (S : ByteArray) (rb i d : Nat) (w : World), Sr w rb S i false → S.size ≤ 4000 → i ≤ S.size → d ≤ i → 3 * (S.size - i) + lv + 1 ≤ f → f ≤ 20000 → Calls Tryd.prog 18 #[.pointer (some ⟨rb, 0, none⟩), .int .u8 sg, .int .i64 (d : Int)] w fun e w' => SRes w w' rb S f (P f lv (S.data.toList.drop i)) e

set_option maxRecDepth 100000 in
set_option maxHeartbeats 4000000 in
theorem rowA_step (f : Nat) (hP : SC1 f) : SCr 38 1 (f + 1) := fun S rb i d w hsr hs hi hd hf hf2 => by
  rw [P_all]
  have hlt := hsr.lt
  have HP := Lib.hid hP
  have HRP : Hid (rowP 5 38 (P f 0) (S.data.toList.drop i) = (rowL 38 (P f 0) (S.size - i + 1) (S.data.toList.drop i)).map (fun x => (mkR 5 x.1, x.2))) := by show _ = _; unfold rowP; rw [drop_len]
  have HR0 : Hid (Rw w rb S f (w.alloc (.cells #[] 43)) i false w.heap.size 0 [] 0) :=
    ⟨hsr.to (Below.heap_alloc w _ rb hlt), ⟨rfl, rfl, rfl, by simp, fun j hj _ => Below.heap_alloc w _ j hj⟩, OC.nil w, hlt, by omega, (fun x hx => by simp at hx), by simp, Nat.le_refl _⟩
  have HPT : Hid (∀ j, P f 0 (S.data.toList.drop j) = P f 0 (S.data.toList.drop j)) := fun _ => rfl
  generalize rowP 5 38 (P f 0) (S.data.toList.drop i) = PR at *
  clear hP hsr
  go_enter Tryd.func18, Tryd.ntmps18
  go_wp2
  go_loopg [7, 8] (S.size + 1) (fun q v7 v8 wr => ∃ (kk j n g c : Nat) (b : Bool) (L : List Cn), kk ≤ q ∧ n ≤ 4001 ∧ v7 = .slice (some ⟨g, 0, none⟩) L.length c ∧ v8 = .int .i64 (n : Int) ∧ Rw w rb S f wr j b g c L n ∧ (b = true → PR = none ∧ 1 ≤ n) ∧ (b = false → i ≤ j ∧ j ≤ S.size ∧ n ≤ j ∧ S.size - j < kk ∧ ∃ ts : List Tr, ts.length = n ∧ Ex L (flL ts) ∧ rowL 38 (P f 0) (S.size - i + 1) (S.data.toList.drop i) = (rowL 38 (P f 0) kk (S.data.toList.drop j)).map (fun x => (ts ++ x.1, x.2))))
  case atStart => exact ⟨S.size - i + 1, i, 0, w.heap.size, 0, false, [], by omega, by omega, rfl, rfl, HR0.out, (fun e => by cases e), fun _ => ⟨Nat.le_refl _, hi, Nat.zero_le _, by omega, [], rfl, .inl rfl, by simp⟩⟩
  case round =>
    clear HR0
    obtain ⟨kk, j, n, g, c, b, L, hkq, hn, rfl, rfl, hrw, hbt, hbf⟩ := hrel
    have HRO := Lib.hid hrw
    have hc2 := hrw.sr.c2
    have hgb := hrw.gb.2
    have hll := hrw.ll
    clear hrw
    cases b with
    | true =>
      obtain ⟨hE, hn1⟩ := hbt rfl
      have HE := Lib.hid hE
      clear hbt hbf hE
      by_cases hn2 : n < 2
      · have hn2' : (n : Int) < 2 := by omega
        obtain rfl : n = 1 := by omega
        have HF : Hid (SRes w wr rb S (f + 1) PR (.returned (.slice (some ⟨g, 0, none⟩) L.length c))) := HRO.out.fin1 (K := 5) ⟨fun _ => HE.out, fun e => by cases e⟩
        go_wp2
        go_ret
        exact HF.out
      · have hn2' : ¬ (n : Int) < 2 := by omega
        have HMK := Lib.hid (make_any 5 w.heap.size g c L wr HRO.out.oc (by omega) hgb)
        have HF : Hid (∀ e w', MkR 5 L wr w' e → Below wr.heap.size wr w' → SRes w w' rb S (f + 1) PR e) := fun e w' a b => HRO.out.fin2 (by omega) ⟨fun _ => HE.out, fun e => by cases e⟩ a b
        go_wp2_with (go_at_call 26; refine HMK.out.mono ?_; rintro e w9 ⟨hmk, hb⟩; have HFF := Lib.hid (HF.out _ _ hmk hb); have hE : ∃ v, e = .returned v := ⟨_, hmk.choose_spec.choose_spec.1⟩; obtain ⟨v9, rfl⟩ := hE; clear hmk hb)
        go_ret
        exact HFF.out
    | false =>
      obtain ⟨hij, hjS, hnj, hkk, ts, hts, hex, hrow⟩ := hbf rfl
      obtain ⟨k1, rfl⟩ : ∃ k1, kk = k1 + 1 := ⟨kk - 1, by omega⟩
      have HC := Lib.hid (HP.out S rb j d wr HRO.out.sr hs hjS (by omega) (by omega) (by omega))
      have HROW := Lib.hid hrow
      have HEX := Lib.hid hex
      have HTS := Lib.hid hts
      have HLT := Lib.hid HRO.out.sr.lt
      clear hbt hbf hrow hex hts
      obtain ⟨M, hM⟩ : ∃ M, P f 0 (S.data.toList.drop j) = M := ⟨_, rfl⟩
      have HM := Lib.hid hM
      rw [hM] at HC
      clear hM
      go_wp2_with (go_at_call 25; refine HC.out.mono ?_; rintro e w4 hres; obtain ⟨i4, b4, g4, c4, L4, rfl, h41, h42, h43⟩ := hres.rw HLT.out; clear hres; refine Hid.out ?_)
      refine Lib.hid ?_
      obtain ⟨g5, c5, W5, L5, hr5, hrw5, hex5⟩ := HRO.out.app h41 hn
      have HR5 := Lib.hid hrw5
      have HX5 := Lib.hid hex5
      have HPK := Lib.hid (peek_any S rb i4 b4 W5 hrw5.sr hs (by have := hrw5.il; omega))
      have H42 := Lib.hid h42
      have H43 := Lib.hid h43
      clear hrw5 hex5 h41 h42 h43 HC hc2 HLT HRO HP
      go_wp2_with (first
        | (at_builtin; refine wpList_plain rfl fun K hK => ?_; refine wp_appC _ _ rfl rfl rfl hr5 ?_; refine hK _ _ ?_)
        | (go_at_call 10; refine HPK.out.mono ?_; rintro e w6 hpk; obtain ⟨rfl, k6, h61, h62, h63, h64, h65⟩ := HR5.out.peek hpk; clear hpk; refine Hid.out ?_))
      refine Lib.hid ?_
      have HR6 := Lib.hid h65
      have H64 := Lib.hid h64
      obtain ⟨pv, hpv⟩ : ∃ pv, pkN (S.data.toList.drop i4) = pv := ⟨_, rfl⟩
      have HTK : Hid (tkB 38 (S.data.toList.drop i4) = decide (pv = 38)) := by show _ = _; rw [pk_tk (by decide), hpv]; rfl
      rw [hpv]
      have hc1 := h65.sr.c1
      have hf1 := h65.sr.f 1
      have hgb6 := h65.gb.2
      have hll6 := h65.ll
      clear hpv hr5 HPK HR5 h65 h64
      by_cases hps : pv = 38
      · have hps' : (pv : Int) = 38 := by omega
        have htk : tkB 38 (S.data.toList.drop i4) = true := by rw [HTK.out]; exact decide_eq_true hps
        obtain ⟨hdr, hk6⟩ := pk_drop htk H64.out
        have HS6 := Lib.hid (HR6.out.seti (k6 + 1) (by omega))
        have HDR := Lib.hid hdr
        have HTY := Lib.hid (tk_yes htk)
        have hwk : IntKind.i64.wrap ((k6 : Int) + 1) = ((k6 + 1 : Nat) : Int) := by rw [IntKind.wrap_i64]; omega
        clear htk hdr HTK hps
        go_wp2
        try rw [show ((k6 : Int) + 1) = ((k6 + 1 : Nat) : Int) by simp]
        go_roundg k1
        case measure => omega
        case rel =>
          refine ⟨k1, k6 + 1, n + 1, g5, c5, b4, L5, Nat.le_refl _, by omega, rfl, by go_num, HS6.out, fun hb => ⟨?_, by omega⟩, fun hb => ?_⟩
          · cases M with
            | none => rw [HRP.out, HROW.out, row_none HM.out]; rfl
            | some x => have := (H43.out x.1 x.2 rfl).1; rw [hb] at this; cases this
          · cases M with
            | none => have := H42.out rfl; rw [hb] at this; cases this
            | some x =>
              obtain ⟨t, r⟩ := x
              obtain ⟨_, e1, e2, e3⟩ := H43.out t r rfl
              have hl := P_lt f 0 _ t r HM.out
              rw [← e1, drop_len, drop_len] at hl
              refine ⟨by omega, hk6, by omega, by omega, ts ++ [t], by rw [List.length_append, HTS.out]; rfl, by rw [flL_app, flL_one]; exact HX5.out _ _ HEX.out e3, ?_⟩
              rw [HDR.out, HROW.out, HTY.out.2 (P f 0) k1 (S.data.toList.drop j) t (by rw [e1]; exact HM.out), Option.map_map]
              congr 1
              funext x
              simp
      · have hps' : ¬ (pv : Int) = 38 := by omega
        have htk : tkB 38 (S.data.toList.drop i4) = false := by rw [HTK.out]; exact decide_eq_false hps
        have HTN := Lib.hid (tk_no htk)
        have HFM : Hid ((b4 = true → PR = none) ∧ (b4 = false → ∃ ts : List Tr, PR = some (mkR 5 ts, S.data.toList.drop k6) ∧ k6 ≤ S.size ∧ ts.length = n + 1 ∧ Ex L5 (flL ts))) := by
          refine ⟨fun hb => ?_, fun hb => ?_⟩
          · cases M with
            | none => rw [HRP.out, HROW.out, row_none HM.out]; rfl
            | some x => have := (H43.out x.1 x.2 rfl).1; rw [hb] at this; cases this
          · cases M with
            | none => have := H42.out rfl; rw [hb] at this; cases this
            | some x =>
              obtain ⟨t, r⟩ := x
              obtain ⟨_, e1, e2, e3⟩ := H43.out t r rfl
              refine ⟨ts ++ [t], ?_, h63 e2, by rw [List.length_append, HTS.out]; rfl, by rw [flL_app, flL_one]; exact HX5.out _ _ HEX.out e3⟩
              rw [HRP.out, HROW.out, HTN.out.2 (P f 0) k1 (S.data.toList.drop j) t (by rw [e1]; exact HM.out), H64.out]
              rfl
        clear htk HTK hps
        by_cases hn2 : n + 1 < 2
        · have hn2' : (n : Int) + 1 < 2 := by omega
          obtain rfl : n = 0 := by omega
          have HF : Hid (SRes w w6 rb S (f + 1) PR (.returned (.slice (some ⟨g5, 0, none⟩) L5.length c5))) := HR6.out.fin1 (K := 5) HFM.out
          go_wp2
          go_ret
          exact HF.out
        · have hn2' : ¬ (n : Int) + 1 < 2 := by omega
          have HMK := Lib.hid (make_any 5 w.heap.size g5 c5 L5 w6 HR6.out.oc (by omega) hgb6)
          have HF : Hid (∀ e w', MkR 5 L5 w6 w' e → Below w6.heap.size w6 w' → SRes w w' rb S (f + 1) PR e) := fun e w' a b => HR6.out.fin2 (by omega) HFM.out a b
          go_wp2_with (go_at_call 26; refine HMK.out.mono ?_; rintro e w9 ⟨hmk, hb⟩; have HFF := Lib.hid (HF.out _ _ hmk hb); have hE : ∃ v, e = .returned v := ⟨_, hmk.choose_spec.choose_spec.1⟩; obtain ⟨v9, rfl⟩ := hE; clear hmk hb)
          go_ret
          exact HFF.out

set_option maxRecDepth 100000 in
set_option maxHeartbeats 4000000 in
theorem rowO_step (f : Nat) (hP : SCr 38 1 f) : SCr 124 2 (f + 1) := fun S rb i d w hsr hs hi hd hf hf2 => by
  rw [P_any]
  have hlt := hsr.lt
  have HP := Lib.hid hP
  have HRP : Hid (rowP 6 124 (P f 1) (S.data.toList.drop i) = (rowL 124 (P f 1) (S.size - i + 1) (S.data.toList.drop i)).map (fun x => (mkR 6 x.1, x.2))) := by show _ = _; unfold rowP; rw [drop_len]
  have HR0 : Hid (Rw w rb S f (w.alloc (.cells #[] 43)) i false w.heap.size 0 [] 0) :=
    ⟨hsr.to (Below.heap_alloc w _ rb hlt), ⟨rfl, rfl, rfl, by simp, fun j hj _ => Below.heap_alloc w _ j hj⟩, OC.nil w, hlt, by omega, (fun x hx => by simp at hx), by simp, Nat.le_refl _⟩
  have HPT : Hid (∀ j, P f 1 (S.data.toList.drop j) = P f 1 (S.data.toList.drop j)) := fun _ => rfl
  generalize rowP 6 124 (P f 1) (S.data.toList.drop i) = PR at *
  clear hP hsr
  go_enter Tryd.func18, Tryd.ntmps18
  go_wp2
  go_loopg [7, 8] (S.size + 1) (fun q v7 v8 wr => ∃ (kk j n g c : Nat) (b : Bool) (L : List Cn), kk ≤ q ∧ n ≤ 4001 ∧ v7 = .slice (some ⟨g, 0, none⟩) L.length c ∧ v8 = .int .i64 (n : Int) ∧ Rw w rb S f wr j b g c L n ∧ (b = true → PR = none ∧ 1 ≤ n) ∧ (b = false → i ≤ j ∧ j ≤ S.size ∧ n ≤ j ∧ S.size - j < kk ∧ ∃ ts : List Tr, ts.length = n ∧ Ex L (flL ts) ∧ rowL 124 (P f 1) (S.size - i + 1) (S.data.toList.drop i) = (rowL 124 (P f 1) kk (S.data.toList.drop j)).map (fun x => (ts ++ x.1, x.2))))
  case atStart => exact ⟨S.size - i + 1, i, 0, w.heap.size, 0, false, [], by omega, by omega, rfl, rfl, HR0.out, (fun e => by cases e), fun _ => ⟨Nat.le_refl _, hi, Nat.zero_le _, by omega, [], rfl, .inl rfl, by simp⟩⟩
  case round =>
    clear HR0
    obtain ⟨kk, j, n, g, c, b, L, hkq, hn, rfl, rfl, hrw, hbt, hbf⟩ := hrel
    have HRO := Lib.hid hrw
    have hc2 := hrw.sr.c2
    have hgb := hrw.gb.2
    have hll := hrw.ll
    clear hrw
    cases b with
    | true =>
      obtain ⟨hE, hn1⟩ := hbt rfl
      have HE := Lib.hid hE
      clear hbt hbf hE
      by_cases hn2 : n < 2
      · have hn2' : (n : Int) < 2 := by omega
        obtain rfl : n = 1 := by omega
        have HF : Hid (SRes w wr rb S (f + 1) PR (.returned (.slice (some ⟨g, 0, none⟩) L.length c))) := HRO.out.fin1 (K := 6) ⟨fun _ => HE.out, fun e => by cases e⟩
        go_wp2
        go_ret
        exact HF.out
      · have hn2' : ¬ (n : Int) < 2 := by omega
        have HMK := Lib.hid (make_any 6 w.heap.size g c L wr HRO.out.oc (by omega) hgb)
        have HF : Hid (∀ e w', MkR 6 L wr w' e → Below wr.heap.size wr w' → SRes w w' rb S (f + 1) PR e) := fun e w' a b => HRO.out.fin2 (by omega) ⟨fun _ => HE.out, fun e => by cases e⟩ a b
        go_wp2_with (go_at_call 26; refine HMK.out.mono ?_; rintro e w9 ⟨hmk, hb⟩; have HFF := Lib.hid (HF.out _ _ hmk hb); have hE : ∃ v, e = .returned v := ⟨_, hmk.choose_spec.choose_spec.1⟩; obtain ⟨v9, rfl⟩ := hE; clear hmk hb)
        go_ret
        exact HFF.out
    | false =>
      obtain ⟨hij, hjS, hnj, hkk, ts, hts, hex, hrow⟩ := hbf rfl
      obtain ⟨k1, rfl⟩ : ∃ k1, kk = k1 + 1 := ⟨kk - 1, by omega⟩
      have HC := Lib.hid (HP.out S rb j d wr HRO.out.sr hs hjS (by omega) (by omega) (by omega))
      have HROW := Lib.hid hrow
      have HEX := Lib.hid hex
      have HTS := Lib.hid hts
      have HLT := Lib.hid HRO.out.sr.lt
      clear hbt hbf hrow hex hts
      obtain ⟨M, hM⟩ : ∃ M, P f 1 (S.data.toList.drop j) = M := ⟨_, rfl⟩
      have HM := Lib.hid hM
      rw [hM] at HC
      clear hM
      go_wp2_with (go_at_call 18; refine HC.out.mono ?_; rintro e w4 hres; obtain ⟨i4, b4, g4, c4, L4, rfl, h41, h42, h43⟩ := hres.rw HLT.out; clear hres; refine Hid.out ?_)
      refine Lib.hid ?_
      obtain ⟨g5, c5, W5, L5, hr5, hrw5, hex5⟩ := HRO.out.app h41 hn
      have HR5 := Lib.hid hrw5
      have HX5 := Lib.hid hex5
      have HPK := Lib.hid (peek_any S rb i4 b4 W5 hrw5.sr hs (by have := hrw5.il; omega))
      have H42 := Lib.hid h42
      have H43 := Lib.hid h43
      clear hrw5 hex5 h41 h42 h43 HC hc2 HLT HRO HP
      go_wp2_with (first
        | (at_builtin; refine wpList_plain rfl fun K hK => ?_; refine wp_appC _ _ rfl rfl rfl hr5 ?_; refine hK _ _ ?_)
        | (go_at_call 10; refine HPK.out.mono ?_; rintro e w6 hpk; obtain ⟨rfl, k6, h61, h62, h63, h64, h65⟩ := HR5.out.peek hpk; clear hpk; refine Hid.out ?_))
      refine Lib.hid ?_
      have HR6 := Lib.hid h65
      have H64 := Lib.hid h64
      obtain ⟨pv, hpv⟩ : ∃ pv, pkN (S.data.toList.drop i4) = pv := ⟨_, rfl⟩
      have HTK : Hid (tkB 124 (S.data.toList.drop i4) = decide (pv = 124)) := by show _ = _; rw [pk_tk (by decide), hpv]; rfl
      rw [hpv]
      have hc1 := h65.sr.c1
      have hf1 := h65.sr.f 1
      have hgb6 := h65.gb.2
      have hll6 := h65.ll
      clear hpv hr5 HPK HR5 h65 h64
      by_cases hps : pv = 124
      · have hps' : (pv : Int) = 124 := by omega
        have htk : tkB 124 (S.data.toList.drop i4) = true := by rw [HTK.out]; exact decide_eq_true hps
        obtain ⟨hdr, hk6⟩ := pk_drop htk H64.out
        have HS6 := Lib.hid (HR6.out.seti (k6 + 1) (by omega))
        have HDR := Lib.hid hdr
        have HTY := Lib.hid (tk_yes htk)
        have hwk : IntKind.i64.wrap ((k6 : Int) + 1) = ((k6 + 1 : Nat) : Int) := by rw [IntKind.wrap_i64]; omega
        clear htk hdr HTK hps
        go_wp2
        try rw [show ((k6 : Int) + 1) = ((k6 + 1 : Nat) : Int) by simp]
        go_roundg k1
        case measure => omega
        case rel =>
          refine ⟨k1, k6 + 1, n + 1, g5, c5, b4, L5, Nat.le_refl _, by omega, rfl, by go_num, HS6.out, fun hb => ⟨?_, by omega⟩, fun hb => ?_⟩
          · cases M with
            | none => rw [HRP.out, HROW.out, row_none HM.out]; rfl
            | some x => have := (H43.out x.1 x.2 rfl).1; rw [hb] at this; cases this
          · cases M with
            | none => have := H42.out rfl; rw [hb] at this; cases this
            | some x =>
              obtain ⟨t, r⟩ := x
              obtain ⟨_, e1, e2, e3⟩ := H43.out t r rfl
              have hl := P_lt f 1 _ t r HM.out
              rw [← e1, drop_len, drop_len] at hl
              refine ⟨by omega, hk6, by omega, by omega, ts ++ [t], by rw [List.length_append, HTS.out]; rfl, by rw [flL_app, flL_one]; exact HX5.out _ _ HEX.out e3, ?_⟩
              rw [HDR.out, HROW.out, HTY.out.2 (P f 1) k1 (S.data.toList.drop j) t (by rw [e1]; exact HM.out), Option.map_map]
              congr 1
              funext x
              simp
      · have hps' : ¬ (pv : Int) = 124 := by omega
        have htk : tkB 124 (S.data.toList.drop i4) = false := by rw [HTK.out]; exact decide_eq_false hps
        have HTN := Lib.hid (tk_no htk)
        have HFM : Hid ((b4 = true → PR = none) ∧ (b4 = false → ∃ ts : List Tr, PR = some (mkR 6 ts, S.data.toList.drop k6) ∧ k6 ≤ S.size ∧ ts.length = n + 1 ∧ Ex L5 (flL ts))) := by
          refine ⟨fun hb => ?_, fun hb => ?_⟩
          · cases M with
            | none => rw [HRP.out, HROW.out, row_none HM.out]; rfl
            | some x => have := (H43.out x.1 x.2 rfl).1; rw [hb] at this; cases this
          · cases M with
            | none => have := H42.out rfl; rw [hb] at this; cases this
            | some x =>
              obtain ⟨t, r⟩ := x
              obtain ⟨_, e1, e2, e3⟩ := H43.out t r rfl
              refine ⟨ts ++ [t], ?_, h63 e2, by rw [List.length_append, HTS.out]; rfl, by rw [flL_app, flL_one]; exact HX5.out _ _ HEX.out e3⟩
              rw [HRP.out, HROW.out, HTN.out.2 (P f 1) k1 (S.data.toList.drop j) t (by rw [e1]; exact HM.out), H64.out]
              rfl
        clear htk HTK hps
        by_cases hn2 : n + 1 < 2
        · have hn2' : (n : Int) + 1 < 2 := by omega
          obtain rfl : n = 0 := by omega
          have HF : Hid (SRes w w6 rb S (f + 1) PR (.returned (.slice (some ⟨g5, 0, none⟩) L5.length c5))) := HR6.out.fin1 (K := 6) HFM.out
          go_wp2
          go_ret
          exact HF.out
        · have hn2' : ¬ (n : Int) + 1 < 2 := by omega
          have HMK := Lib.hid (make_any 6 w.heap.size g5 c5 L5 w6 HR6.out.oc (by omega) hgb6)
          have HF : Hid (∀ e w', MkR 6 L5 w6 w' e → Below w6.heap.size w6 w' → SRes w w' rb S (f + 1) PR e) := fun e w' a b => HR6.out.fin2 (by omega) HFM.out a b
          go_wp2_with (go_at_call 26; refine HMK.out.mono ?_; rintro e w9 ⟨hmk, hb⟩; have HFF := Lib.hid (HF.out _ _ hmk hb); have hE : ∃ v, e = .returned v := ⟨_, hmk.choose_spec.choose_spec.1⟩; obtain ⟨v9, rfl⟩ := hE; clear hmk hb)
          go_ret
          exact HFF.out

set_option maxRecDepth 100000 in
theorem sany_step (f : Nat) (h : SCr 124 2 f) : SC2 f := fun S rb i d w hsr hs hi hd hf hf2 => by
  have HR := Lib.hid (h S rb i d w hsr hs hi hd hf hf2)
  have hd' : ¬ (4000 : Int) < (d : Int) := by omega
  obtain ⟨M, hM⟩ : ∃ M, P f 2 (S.data.toList.drop i) = M := ⟨_, rfl⟩
  rw [hM] at HR ⊢
  clear h hsr hM
  go_enter Tryd.func9, Tryd.ntmps9
  go_wp2_with (go_at_call 18; refine HR.out.mono ?_; rintro e w1 hres; have hE : ∃ v, e = .returned v := (by obtain ⟨_, _, _, _, _, e1, _⟩ := hres.rd; exact ⟨_, e1⟩); obtain ⟨v, rfl⟩ := hE; have HRS := Lib.hid hres; clear hres)
  go_ret
  exact HRS.out
end Go.Proofs.YtklgeahgaeodiaaDoor.cr
