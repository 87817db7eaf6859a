import Derived.Test.YtnhddnfobcofcaaGreatDoorG01
import Derived.Test.YtnhddnfobcofcaaGreatDoorG03
import Derived.Lib.Hide
namespace Go.Proofs.YtnhddnfobcofcaaGreatDoor.cr
open Go.ChangeShapes Go.WideShapes Go.ChangeAt Go.RowKit Go.Deep
open cd (Tr Cn Nd)
set_option linter.unusedVariables false
set_option linter.unusedSimpArgs false

/-! ### The program's reader: blanks, signs, words -/

theorem lenS (s : ByteArray) : s.data.toList.length = s.size := Array.length_toList
theorem ext_drop (s : ByteArray) (n : Nat) : s.extract n s.size = bA (s.data.toList.drop n) := by
  apply ByteArray.ext
  apply Array.toList_inj.1
  rw [Lib.extract_data]
  show _ = (s.data.toList.drop n).toArray.toList
  rw [List.take_of_length_le (by rw [List.length_drop, lenS]; exact Nat.le_refl _)]
theorem ext_take {s : ByteArray} {n : Nat} (h : n ≤ s.size) : s.extract 0 n = bA (s.data.toList.take n) := by
  apply ByteArray.ext
  apply Array.toList_inj.1
  rw [Lib.extract_data]
  simp [bA]
theorem get_at {s : ByteArray} {n : Nat} {c : UInt8} (h : s.data.toList[n]? = some c) : ∃ hn : n < s.size, s[n] = c := by
  obtain ⟨h1, h2⟩ := List.getElem?_eq_some_iff.1 h
  exact ⟨by rw [← lenS]; exact h1, h2⟩
def strSz : Value → Nat
  | .string s => s.size
  | _ => 0

set_option maxRecDepth 100000 in
theorem trimB_any (S : ByteArray) (hs : S.size ≤ 1000000) (w : World) :
    Calls Tryz.prog 77 #[.string S, .int .u8 32] w fun e w' => e = .returned (.string (bA (skip S.data.toList))) ∧ w' = w := by
  go_enter Tryz.func77, Tryz.ntmps77
  go_wp2
  go_loopw [0] (fun v wr => ∃ T : ByteArray, v = .string T ∧ T.size ≤ 1000000 ∧ skip T.data.toList = skip S.data.toList ∧ wr = w) (fun v _ => strSz v)
  case atStart => exact ⟨S, rfl, hs, rfl, rfl⟩
  case round =>
    obtain ⟨T, rfl, hT, he, hw⟩ := hrel
    have HE := Lib.hid he
    subst hw
    clear he
    cases hL : T.data.toList with
    | nil =>
      have hz : T.size = 0 := by rw [← lenS, hL]; rfl
      have hz' : ¬ 0 < T.size := by omega
      have HR : Hid (T = bA (skip S.data.toList)) := by show _ = _; rw [← HE.out, hL]; show T = bA []; rw [← hL, bA_of]
      clear hL hz
      go_wp2
      go_ret
      exact ⟨ret_str HR.out, rfl⟩
    | cons c q =>
      have hz : T.size = q.length + 1 := by rw [← lenS, hL]; rfl
      have hz2 : 0 < T.size := by omega
      obtain ⟨_, hT0⟩ := get_at (s := T) (n := 0) (c := c) (by rw [hL]; rfl)
      have HDR : Hid ((T.extract 1 T.size).data.toList = q) := by show _ = _; rw [ext_drop, bA_list, hL]; rfl
      by_cases hc : c = 32
      · have hcb : (T[0].toNat : Int) = 32 := by rw [hT0, hc]; rfl
        have HE2 : Hid (skip (T.extract 1 T.size).data.toList = skip S.data.toList) := by
          show _ = _
          rw [HDR.out, ← HE.out, hL]
          unfold skip
          rw [List.dropWhile_cons, if_pos (by rw [hc]; rfl)]
        have hsz : (T.extract 1 T.size).size = q.length := by rw [← lenS, HDR.out]
        have h1 : (1 : Int) ≤ (T.size : Int) := by omega
        have HZ : Hid (T.size = q.length + 1 ∧ (T.extract 1 T.size).size = q.length) := ⟨hz, hsz⟩
        clear hL hT0 hc hz hsz
        go_wp2
        go_roundw
        case rel => exact ⟨_, rfl, by have := HZ.out; omega, HE2.out, by first | trivial | rfl⟩
        case measure => have := HZ.out; simp [strSz]; omega
      · have hcb : ¬ (T[0].toNat : Int) = 32 := by
          rw [hT0]
          intro e
          exact hc (UInt8.toNat_inj.1 (by have : c.toNat = 32 := (by omega); rw [this]; rfl))
        have HR : Hid (T = bA (skip S.data.toList)) := by
          show _ = _
          rw [← HE.out, hL]
          unfold skip
          rw [List.dropWhile_cons, if_neg (by simpa using hc), ← hL, bA_of]
        clear hL hT0 hc
        go_wp2
        go_ret
        exact ⟨ret_str HR.out, rfl⟩

set_option maxRecDepth 100000 in
theorem trim_any (S : ByteArray) (hs : S.size ≤ 1000000) (w : World) :
    Calls Tryz.prog 62 #[.string S, .string ⟨#[32]⟩] w fun e w' => e = .returned (.string (bA (skip S.data.toList))) ∧ w' = w := by
  have HT := Lib.hid (trimB_any S hs w)
  by_cases h0 : S.data.toList = []
  · have he : S.toList = [] := by rw [ByteArray.toList_eq]; exact h0
    have HR : Hid (S = bA (skip S.data.toList)) := by show _ = _; rw [h0]; show S = bA []; rw [← h0, bA_of]
    clear h0
    go_enter Tryz.func62, Tryz.ntmps62
    go_wp2
    go_ret
    exact ⟨ret_str HR.out, rfl⟩
  · have he : S.toList.isEmpty = false := by rw [ByteArray.toList_eq]; simpa using h0
    have he2 : ¬ S.toList = [] := by rw [ByteArray.toList_eq]; exact h0
    clear h0
    go_enter Tryz.func62, Tryz.ntmps62
    go_wp2_with (go_at_call 77; refine HT.out.mono ?_; rintro e w1 ⟨rfl, hw⟩; have hw2 := hw.symm; subst hw2; clear hw)
    go_ret
    exact ⟨rfl, rfl⟩

/-- The reader's box. -/
def Rd (W : World) (rb : Nat) (S : ByteArray) : Prop := W.rowIs rb 49 1 fun _ => .string S
theorem Rd.c {W : World} {rb : Nat} {S : ByteArray} (h : Rd W rb S) : W.cell? ⟨rb, 0, none⟩ = some (.string S) := World.rowIs.cell h (i := 0) (by omega)
theorem Rd.f {W : World} {rb : Nat} {S : ByteArray} (h : Rd W rb S) : W.frozen? ⟨rb, 0, none⟩ = false := World.rowIs.frozen h 0
theorem Rd.lt {W : World} {rb : Nat} {S : ByteArray} (h : Rd W rb S) : rb < W.heap.size := World.rowIs.lt h
theorem Rd.set {W : World} {rb : Nat} {S : ByteArray} (h : Rd W rb S) (T : ByteArray) : Rd (W.setCell ⟨rb, 0, none⟩ (.string T)) rb T := (World.rowIs.set h 0 (.string T)).congr fun i hi => by
  obtain rfl : i = 0 := by omega
  rfl
theorem Rd.to {W W' : World} {rb : Nat} {S : ByteArray} (h : Rd W rb S) (e : W'.heap[rb]? = W.heap[rb]?) : Rd W' rb S := World.rowIs.of_block h e
/-- What a step of reading leaves. -/
structure Ch (w w' : World) (rb : Nat) (T : ByteArray) : Prop where
  rd : Rd w' rb T
  gr : w.grownBy w' (some rb)
  sz : w'.heap.size = w.heap.size
theorem ch_set {w : World} {rb : Nat} {S : ByteArray} (h : Rd w rb S) (T : ByteArray) : Ch w (w.setCell ⟨rb, 0, none⟩ (.string T)) rb T :=
  ⟨h.set T, ⟨rfl, rfl, rfl, by simp, fun k hk hne => blk_setCell_other w ⟨rb, 0, none⟩ _ k (fun e => hne (by rw [e]))⟩, by simp⟩
theorem gr_trans {A B C : World} {c : Nat} (h : A.grownBy B (some c)) (k : B.grownBy C (some c)) : A.grownBy C (some c) :=
  ⟨k.os.trans h.os, k.tape.trans h.tape, k.output.trans h.output, Nat.le_trans h.size k.size, fun j hj hne => (k.block j (Nat.lt_of_lt_of_le hj h.size) hne).trans (h.block j hj hne)⟩
theorem Ch.trans {A B C : World} {rb : Nat} {S T : ByteArray} (h : Ch A B rb S) (k : Ch B C rb T) : Ch A C rb T := ⟨k.rd, gr_trans h.gr k.gr, k.sz.trans h.sz⟩

set_option maxRecDepth 100000 in
theorem pass_any (S : ByteArray) (rb : Nat) (w : World) (h : Rd w rb S) (hs : S.size ≤ 4000) :
    Calls Tryz.prog 43 #[.pointer (some ⟨rb, 0, none⟩)] w fun e w' => e = .returned (.tuple #[]) ∧ Ch w w' rb (bA (skip S.data.toList)) := by
  have HT := Lib.hid (trim_any S (by omega) w)
  have c0 := h.c
  have f0 := h.f
  have HC := Lib.hid (ch_set h (bA (skip S.data.toList)))
  generalize bA (skip S.data.toList) = T at *
  clear h
  go_enter Tryz.func43, Tryz.ntmps43
  go_wp2_with (go_at_call 62; refine HT.out.mono ?_; rintro e w1 ⟨rfl, hw⟩; have hw2 := hw.symm; subst hw2; clear hw)
  go_end0
  exact ⟨rfl, HC.out⟩

/-- Does that sign stand there? -/
def tkB (c : UInt8) (l : List UInt8) : Bool := match skip l with
  | [] => false
  | d :: _ => decide (d = c)
def tkR (c : UInt8) (l : List UInt8) : List UInt8 := match skip l with
  | [] => []
  | d :: q => if d = c then q else d :: q

set_option maxRecDepth 100000 in
set_option maxHeartbeats 2000000 in
theorem takes_any (c : UInt8) (S : ByteArray) (rb : Nat) (w : World) (h : Rd w rb S) (hs : S.size ≤ 4000) :
    Calls Tryz.prog 60 #[.pointer (some ⟨rb, 0, none⟩), .int .u8 (c.toNat : Int)] w fun e w' => e = .returned (.bool (tkB c S.data.toList)) ∧ Ch w w' rb (bA (tkR c S.data.toList)) := by
  have HP := Lib.hid (pass_any S rb w h hs)
  clear h
  cases hL : skip S.data.toList with
  | nil =>
    have HB : Hid (tkB c S.data.toList = false ∧ tkR c S.data.toList = []) := by unfold tkB tkR; rw [hL]; exact ⟨rfl, rfl⟩
    rw [hL] at HP
    rw [HB.out.1, HB.out.2]
    clear hL HB
    go_enter Tryz.func60, Tryz.ntmps60
    go_wp2_with (go_at_call 43; refine HP.out.mono ?_; rintro e w1 ⟨rfl, hch⟩; have c1 : w1.cell? ⟨rb, 0, none⟩ = some (.string ⟨#[]⟩) := hch.rd.c; have HC := Lib.hid hch; clear hch)
    go_ret
    exact ⟨rfl, HC.out⟩
  | cons d q =>
    have hsl : (bA (d :: q)).size = q.length + 1 := by rw [bA_size]; rfl
    have hse : (bA (d :: q)).toList.isEmpty = false := by rw [ByteArray.toList_eq, bA_list]; rfl
    have hse2 : ¬ (bA (d :: q)).toList = [] := by rw [ByteArray.toList_eq, bA_list]; simp
    obtain ⟨h0, hT0⟩ := get_at (s := bA (d :: q)) (n := 0) (c := d) (by rw [bA_list]; rfl)
    have hx1 : (bA (d :: q)).extract 1 (bA (d :: q)).size = bA q := by rw [ext_drop, bA_list]; rfl
    have hq1 : (1 : Int) ≤ ((bA (d :: q)).size : Int) := by omega
    rw [hL] at HP
    by_cases hc : d = c
    · have HB : Hid (tkB c S.data.toList = true ∧ tkR c S.data.toList = q) := by unfold tkB tkR; rw [hL]; exact ⟨decide_eq_true hc, if_pos hc⟩
      have hcc : ((bA (d :: q))[0].toNat : Int) = (c.toNat : Int) := by rw [hT0, hc]
      rw [HB.out.1, HB.out.2]
      clear hL HB hT0 hc hsl
      generalize bA (d :: q) = D at *
      go_enter Tryz.func60, Tryz.ntmps60
      go_wp2_with (go_at_call 43; refine HP.out.mono ?_; rintro e w1 ⟨rfl, hch⟩; have c1 := hch.rd.c; have f1 := hch.rd.f; have HC := Lib.hid (hch.trans (ch_set hch.rd (bA q))); clear hch)
      go_ret
      exact ⟨rfl, HC.out⟩
    · have HB : Hid (tkB c S.data.toList = false ∧ tkR c S.data.toList = d :: q) := by unfold tkB tkR; rw [hL]; exact ⟨decide_eq_false hc, if_neg hc⟩
      have hcc : ¬ ((bA (d :: q))[0].toNat : Int) = (c.toNat : Int) := by rw [hT0]; intro e; exact hc (UInt8.toNat_inj.1 (by omega))
      rw [HB.out.1, HB.out.2]
      clear hL HB hT0 hc hsl
      generalize bA (d :: q) = D at *
      go_enter Tryz.func60, Tryz.ntmps60
      go_wp2_with (go_at_call 43; refine HP.out.mono ?_; rintro e w1 ⟨rfl, hch⟩; have c1 := hch.rd.c; have f1 := hch.rd.f; have HC := Lib.hid hch; clear hch)
      go_ret
      exact ⟨rfl, HC.out⟩

set_option maxRecDepth 100000 in
theorem atEnd_any (S : ByteArray) (rb : Nat) (w : World) (h : Rd w rb S) (hs : S.size ≤ 4000) :
    Calls Tryz.prog 23 #[.pointer (some ⟨rb, 0, none⟩)] w fun e w' => e = .returned (.bool (skip S.data.toList).isEmpty) ∧ w.grownBy w' (some rb) := by
  have HP := Lib.hid (pass_any S rb w h hs)
  have HE : Hid ((bA (skip S.data.toList)).toList.isEmpty = (skip S.data.toList).isEmpty) := by show _ = _; rw [ByteArray.toList_eq, bA_list]
  generalize (skip S.data.toList).isEmpty = b at *
  generalize bA (skip S.data.toList) = D at *
  clear h
  go_enter Tryz.func23, Tryz.ntmps23
  go_wp2_with (go_at_call 43; refine HP.out.mono ?_; rintro e w1 ⟨rfl, hch⟩; have c1 := hch.rd.c; have HC := Lib.hid hch.gr; clear hch)
  go_ret
  exact ⟨ret_bool HE.out, HC.out⟩
end Go.Proofs.YtnhddnfobcofcaaGreatDoor.cr

namespace Go.Proofs.YtnhddnfobcofcaaGreatDoor.cr
open Go.ChangeShapes Go.WideShapes Go.ChangeAt Go.RowKit Go.Deep
open cd (Tr Cn Nd PsO Btw)
set_option linter.unusedVariables false
set_option linter.unusedSimpArgs false

/-! ### The program's reader: a word -/

theorem Nd.up {w : World} {O : Nat → Prop} : ∀ (r : Nat) {v : Value} {t : Tr}, Nd w O r v t → Nd w O (r + 1) v t
  | 0, _, _, h => h.elim
  | r + 1, v, .mk k t ps, h => by
    obtain ⟨g, a, cap, vs, h1, h2, h3, h4, h5, h6⟩ := h
    exact ⟨g, a, cap, vs, h1, h2, h3, h4, h5, fun i x y hx hy => Nd.up r (h6 i x y hx hy)⟩
/-- What a part of the reader leaves and answers. -/
structure Res (w w' : World) (rb d : Nat) (m : Option (Tr × List UInt8)) (e : Ending) : Prop where
  gr : w.grownBy w' (some rb)
  rd : ∃ T, Rd w' rb T ∧ ∀ t r, m = some (t, r) → T.data.toList = r
  no : m = none → e = .returned (.pointer none)
  yes : ∀ t r, m = some (t, r) → ∃ g, e = .returned (.pointer (some ⟨g, 0, none⟩)) ∧ Nd w' (Btw w.heap.size w'.heap.size) d (.pointer (some ⟨g, 0, none⟩)) t
theorem leaf_nd (w : World) (O : Nat → Prop) (g d : Nat) (k : Int) (n : ByteArray) (hO : O g) (h : w.heap[g]? = some (.cells #[.int .i64 k, .string n, .slice none 0 0] 67 (0, 0))) : Nd w O (d + 1) (.pointer (some ⟨g, 0, none⟩)) (.mk k n []) :=
  ⟨g, none, 0, [], rfl, hO, h, rfl, ⟨0, 0, .inl rfl, fun i x hx => by simp at hx⟩, fun i x y hx => by simp at hx⟩
theorem res_leaf {w w1 : World} {rb d : Nat} {T : ByteArray} {r : List UInt8} {k : Int} {n : ByteArray} (h : Ch w w1 rb T) (hT : T.data.toList = r) : Res w (w1.alloc (.cells #[.int .i64 k, .string n, .slice none 0 0] 67)) rb (d + 1) (some (.mk k n [], r)) (.returned (.pointer (some ⟨w1.heap.size, 0, none⟩))) := by
  have hb : Below w1.heap.size w1 (w1.alloc (.cells #[.int .i64 k, .string n, .slice none 0 0] 67)) := (Below.refl _ _).alloc (Nat.le_refl _) _
  refine ⟨⟨hb.os.trans h.gr.os, hb.tape.trans h.gr.tape, hb.output.trans h.gr.output, Nat.le_trans h.gr.size hb.size, fun j hj hne => (hb.block j (by rw [h.sz]; exact hj)).trans (h.gr.block j hj hne)⟩, ⟨T, h.rd.to (hb.block _ h.rd.lt), fun t q e => (by cases e; exact hT)⟩, (fun e => by cases e), fun t q e => ?_⟩
  cases e
  exact ⟨_, rfl, leaf_nd _ _ _ _ _ _ ⟨by rw [h.sz]; exact Nat.le_refl _, by simp⟩ (blk_alloc_new _ _)⟩
theorem res_none {w w1 : World} {rb d : Nat} {T : ByteArray} (h : Rd w1 rb T) (hg : w.grownBy w1 (some rb)) : Res w w1 rb d none (.returned (.pointer none)) :=
  ⟨hg, ⟨T, h, fun t r e => (by cases e)⟩, fun _ => rfl, fun t r e => (by cases e)⟩

theorem w1_any (c : Int) (h0 : 0 ≤ c) (h1 : c ≤ 255) (w : World) : Calls Tryz.prog 91 #[.int .i32 c] w fun e w' => e = .returned (.bool (nm.okB c)) ∧ w' = w := by
  have hw : IntKind.u8.wrap c = c := by rw [IntKind.wrap_u8]; omega
  go_enter Tryz.func91, Tryz.ntmps91
  go_wp2_with (go_at_call 89; refine (nm.inName_any _ h0 h1 _).mono ?_; rintro e w' ⟨rfl, rfl⟩)
  go_ret
  exact ⟨rfl, rfl⟩
theorem tw_len {f : UInt8 → Bool} {s : ByteArray} {k : Nat} (hk : k ≤ s.size) (ha : ∀ c ∈ s.data.toList.take k, f c = true) (hb : ∀ h : k < s.size, f s[k] = false) : (s.data.toList.takeWhile f).length = k := by
  have e : s.data.toList.takeWhile f = s.data.toList.take k := by
    rw [← List.take_append_drop k s.data.toList]
    rw [List.takeWhile_append_of_pos ha]
    have : (s.data.toList.drop k).takeWhile f = [] := by
      by_cases h : k < s.size
      · rw [List.drop_eq_getElem_cons (by rw [lenS]; exact h), List.takeWhile_cons, if_neg (by have := hb h; rw [show s.data.toList[k]'(by rw [lenS]; exact h) = s[k] from rfl, this]; simp)]
      · rw [List.drop_eq_nil_of_le (by rw [lenS]; omega)]; rfl
    rw [this, List.append_nil, List.take_append_drop]
  rw [e, List.length_take, lenS]
  omega

set_option maxRecDepth 100000 in
theorem rowSize_nb (s : ByteArray) (hs : s.size ≤ 1000000) (w : World) :
    Calls Tryz.prog 90 #[.string s, .func (.func 91) #[] #[]] w fun e w' => e = .returned (.int .i64 ((s.data.toList.takeWhile nb).length : Int)) ∧ w' = w := by
  go_enter Tryz.func90, Tryz.ntmps90
  go_wp2
  go_loop [5] (fun i => ∃ k : Nat, k ≤ s.size ∧ i = .int .i64 k ∧ ∀ c ∈ s.data.toList.take k, nb c = true) (fun i => s.size - (intOf i).toNat)
  case atStart => exact ⟨0, Nat.zero_le _, rfl, by simp⟩
  case round =>
    obtain ⟨k, hk, rfl, hok⟩ := hrel
    have HO : Hid (∀ c ∈ s.data.toList.take k, nb c = true) := hok
    clear hok
    by_cases hlt : k < s.size
    · have hb255 : (s[k].toNat : Int) ≤ 255 := by have := s[k].toNat_lt; omega
      have hb0 : (0 : Int) ≤ (s[k].toNat : Int) := by omega
      cases hd : nm.okB (s[k].toNat : Int) with
      | true =>
        have HK : Hid (∀ c ∈ s.data.toList.take (k + 1), nb c = true) := fun c hc => by
          rw [List.take_succ_eq_append_getElem (by rw [lenS]; exact hlt)] at hc
          rcases List.mem_append.1 hc with hc | hc
          · exact HO.out c hc
          · have : c = s[k] := by rw [List.mem_singleton] at hc; exact hc
            rw [this]
            exact hd
        go_wp2_with (go_at_call 91; refine (w1_any _ hb0 hb255 _).mono ?_; rintro e w' ⟨rfl, rfl⟩; rw [hd])
        go_round
        case rel => exact ⟨k + 1, by omega, by go_num, HK.out⟩
        case measure => simp [intOf]; omega
      | false =>
        have HK : Hid ((s.data.toList.takeWhile nb).length = k) := tw_len hk HO.out (fun _ => hd)
        go_wp2_with (go_at_call 91; refine (w1_any _ hb0 hb255 _).mono ?_; rintro e w' ⟨rfl, rfl⟩; rw [hd])
        go_ret
        exact ⟨ret_int (by rw [HK.out]), rfl⟩
    · have HK : Hid ((s.data.toList.takeWhile nb).length = k) := tw_len hk HO.out (fun h => absurd h hlt)
      go_wp2
      go_ret
      exact ⟨ret_int (by rw [HK.out]), rfl⟩

set_option maxRecDepth 100000 in
set_option maxHeartbeats 2000000 in
theorem word_any (S : ByteArray) (rb d : Nat) (w : World) (h : Rd w rb S) (hs : S.size ≤ 4000) :
    Calls Tryz.prog 76 #[.pointer (some ⟨rb, 0, none⟩)] w fun e w' => Res w w' rb (d + 1) (wd (skip S.data.toList)) e := by
  have HP := Lib.hid (pass_any S rb w h hs)
  obtain ⟨L, hL⟩ : ∃ L, skip S.data.toList = L := ⟨_, rfl⟩
  have hLs : L.length ≤ 4000 := by rw [← hL]; have := skip_len S.data.toList; rw [lenS] at this; omega
  rw [hL] at HP ⊢
  obtain ⟨k, hk⟩ : ∃ k, (L.takeWhile nb).length = k := ⟨_, rfl⟩
  have hkL : k ≤ L.length := by rw [← hk]; have := nb_tw (l := L); omega
  have HRS : Hid (∀ W, Calls Tryz.prog 90 #[.string (bA L), .func (.func 91) #[] #[]] W fun e w' => e = .returned (.int .i64 (k : Int)) ∧ w' = W) := fun W => by
    have := rowSize_nb (bA L) (by rw [bA_size]; omega) W
    rw [bA_list, hk] at this
    exact this
  have hx1 : (bA L).extract 0 k = bA (L.takeWhile nb) := by
    rw [ext_take (by rw [bA_size]; exact hkL), bA_list]
    congr 1
    have := List.takeWhile_append_dropWhile (p := nb) (l := L)
    conv => lhs; rw [← this]
    rw [List.take_left' hk]
  have hx2 : (bA L).extract k (bA L).size = bA (L.dropWhile nb) := by
    rw [ext_drop, bA_list]
    congr 1
    have := List.takeWhile_append_dropWhile (p := nb) (l := L)
    conv => lhs; rw [← this]
    rw [List.drop_left' hk]
  have hk1 : (k : Int) ≤ ((bA L).size : Int) := by rw [bA_size]; omega
  have hk0 : (0 : Int) ≤ (k : Int) := by omega
  have htl : (bA (L.takeWhile nb)).toList = L.takeWhile nb := by rw [ByteArray.toList_eq, bA_list]
  have HWD : Hid (wd L = if L.takeWhile nb = cd.tw then some (.mk 2 (bA []) [], L.dropWhile nb) else if L.takeWhile nb = cd.fw then some (.mk 3 (bA []) [], L.dropWhile nb) else if nm.nameB (bA (L.takeWhile nb)) = true then some (.mk 1 (bA (L.takeWhile nb)) [], L.dropWhile nb) else none) := rfl
  have HNM := Lib.hid (fun W => nm.impl_any (bA (L.takeWhile nb)) (by rw [bA_size, hk]; omega) W)
  clear h hL hk hkL
  obtain ⟨tk, htk⟩ : ∃ q, L.takeWhile nb = q := ⟨_, rfl⟩
  obtain ⟨dk, hdk⟩ : ∃ q, L.dropWhile nb = q := ⟨_, rfl⟩
  rw [htk] at hx1 htl HWD HNM
  rw [hdk] at hx2 HWD
  clear htk hdk
  obtain ⟨D, hD⟩ : ∃ D, bA L = D := ⟨_, rfl⟩
  rw [hD] at HP HRS hx1 hx2 hk1
  clear hD
  by_cases ht : tk = cd.tw
  · have HW : Hid (wd L = some (.mk 2 (bA []) [], dk)) := by show _ = _; rw [HWD.out, if_pos ht]
    have hq : (bA tk).toList = [116, 114, 117, 101] := by rw [htl, ht]; rfl
    rw [HW.out]
    clear ht HWD htl
    go_enter Tryz.func76, Tryz.ntmps76
    go_wp2_with (first
      | (go_at_call 43; refine HP.out.mono ?_; rintro e w1 ⟨rfl, hch⟩; have c1 := hch.rd.c; have f1 := hch.rd.f; have HC := Lib.hid (hch.trans (ch_set hch.rd (bA dk))); clear hch)
      | (go_at_call 90; refine (HRS.out _).mono ?_; rintro e w2 ⟨rfl, hw⟩; have hw2 := hw.symm; subst hw2; clear hw))
    go_ret
    have h := res_leaf (d := d) (k := 2) (n := bA []) HC.out (bA_list dk)
    simp only [World.size_setCell] at h
    exact h
  · by_cases hf : tk = cd.fw
    · have HW : Hid (wd L = some (.mk 3 (bA []) [], dk)) := by show _ = _; rw [HWD.out, if_neg ht, if_pos hf]
      have hq : ((bA tk).toList == [116, 114, 117, 101]) = false := by rw [htl, hf]; rfl
      have hq2 : (bA tk).toList = [102, 97, 108, 115, 101] := by rw [htl, hf]; rfl
      rw [HW.out]
      clear ht hf HWD htl
      go_enter Tryz.func76, Tryz.ntmps76
      go_wp2_with (first
        | (go_at_call 43; refine HP.out.mono ?_; rintro e w1 ⟨rfl, hch⟩; have c1 := hch.rd.c; have f1 := hch.rd.f; have HC := Lib.hid (hch.trans (ch_set hch.rd (bA dk))); clear hch)
        | (go_at_call 90; refine (HRS.out _).mono ?_; rintro e w2 ⟨rfl, hw⟩; have hw2 := hw.symm; subst hw2; clear hw))
      go_ret
      have h := res_leaf (d := d) (k := 3) (n := bA []) HC.out (bA_list dk)
      simp only [World.size_setCell] at h
      exact h
    · have hq : ((bA tk).toList == [116, 114, 117, 101]) = false := by rw [htl]; simpa [cd.tw] using ht
      have hq2 : ((bA tk).toList == [102, 97, 108, 115, 101]) = false := by rw [htl]; simpa [cd.fw] using hf
      cases hn : nm.nameB (bA tk) with
      | true =>
        have HW : Hid (wd L = some (.mk 1 (bA tk) [], dk)) := by show _ = _; rw [HWD.out, if_neg ht, if_neg hf, if_pos hn]
        rw [hn] at HNM
        rw [HW.out]
        clear ht hf HWD htl hn
        go_enter Tryz.func76, Tryz.ntmps76
        go_wp2_with (first
          | (go_at_call 43; refine HP.out.mono ?_; rintro e w1 ⟨rfl, hch⟩; have c1 := hch.rd.c; have f1 := hch.rd.f; have HC := Lib.hid (hch.trans (ch_set hch.rd (bA dk))); clear hch)
          | (go_at_call 90; refine (HRS.out _).mono ?_; rintro e w2 ⟨rfl, hw⟩; have hw2 := hw.symm; subst hw2; clear hw)
          | (go_at_call 75; refine (HNM.out _).mono ?_; rintro e w2 ⟨rfl, hw⟩; have hw2 := hw.symm; subst hw2; clear hw))
        go_ret
        have h := res_leaf (d := d) (k := 1) (n := bA tk) HC.out (bA_list dk)
        simp only [World.size_setCell] at h
        exact h
      | false =>
        have HW : Hid (wd L = none) := by show _ = _; rw [HWD.out, if_neg ht, if_neg hf, if_neg (by rw [hn]; decide)]
        rw [hn] at HNM
        rw [HW.out]
        clear ht hf HWD htl hn
        go_enter Tryz.func76, Tryz.ntmps76
        go_wp2_with (first
          | (go_at_call 43; refine HP.out.mono ?_; rintro e w1 ⟨rfl, hch⟩; have c1 := hch.rd.c; have f1 := hch.rd.f; have HC := Lib.hid (hch.trans (ch_set hch.rd (bA dk))); clear hch)
          | (go_at_call 90; refine (HRS.out _).mono ?_; rintro e w2 ⟨rfl, hw⟩; have hw2 := hw.symm; subst hw2; clear hw)
          | (go_at_call 75; refine (HNM.out _).mono ?_; rintro e w2 ⟨rfl, hw⟩; have hw2 := hw.symm; subst hw2; clear hw))
        go_ret
        exact res_none HC.out.rd HC.out.gr
end Go.Proofs.YtnhddnfobcofcaaGreatDoor.cr
