import Derived.Test.YtklgeahgaeodiaaDoorRM
import Derived.Test.YtklgeahgaeodiaaDoorCD
import Derived.Test.YtklgeahgaeodiaaDoorLQ
import Derived.Lib.Hide
namespace Go.Proofs.YtklgeahgaeodiaaDoor.cr
open Go.ChangeShapes Go.WideShapes Go.ChangeAt Go.RowKit Go.Deep
open cd (Tr Cn Nd)
set_option linter.unusedVariables false
set_option linter.unusedSimpArgs false

/-! ### The program's reader: blanks, signs, words -/

theorem lenS (s : ByteArray) : s.data.toList.length = s.size := Array.length_toList
theorem ext_drop (s : ByteArray) (n : Nat) : s.extract n s.size = bA (s.data.toList.drop n) := by
  apply ByteArray.ext
  apply Array.toList_inj.1
  rw [Lib.extract_data]
  show _ = (s.data.toList.drop n).toArray.toList
  rw [List.take_of_length_le (by rw [List.length_drop, lenS]; exact Nat.le_refl _)]
theorem ext_take {s : ByteArray} {n : Nat} (h : n ≤ s.size) : s.extract 0 n = bA (s.data.toList.take n) := by
  apply ByteArray.ext
  apply Array.toList_inj.1
  rw [Lib.extract_data]
  simp [bA]
theorem get_at {s : ByteArray} {n : Nat} {c : UInt8} (h : s.data.toList[n]? = some c) : ∃ hn : n < s.size, s[n] = c := by
  obtain ⟨h1, h2⟩ := List.getElem?_eq_some_iff.1 h
  exact ⟨by rw [← lenS]; exact h1, h2⟩
def strSz : Value → Nat
  | .string s => s.size
  | _ => 0

set_option maxRecDepth 100000 in
theorem trimB_any (S : ByteArray) (hs : S.size ≤ 1000000) (w : World) :
    Calls Tryd.prog 39 #[.string S, .int .u8 32] w fun e w' => e = .returned (.string (bA (skip S.data.toList))) ∧ w' = w := by
  go_enter Tryd.func39, Tryd.ntmps39
  go_wp2
  go_loopw [0] (fun v wr => ∃ T : ByteArray, v = .string T ∧ T.size ≤ 1000000 ∧ skip T.data.toList = skip S.data.toList ∧ wr = w) (fun v _ => strSz v)
  case atStart => exact ⟨S, rfl, hs, rfl, rfl⟩
  case round =>
    obtain ⟨T, rfl, hT, he, hw⟩ := hrel
    have HE := Lib.hid he
    subst hw
    clear he
    cases hL : T.data.toList with
    | nil =>
      have hz : T.size = 0 := by rw [← lenS, hL]; rfl
      have hz' : ¬ 0 < T.size := by omega
      have HR : Hid (T = bA (skip S.data.toList)) := by show _ = _; rw [← HE.out, hL]; show T = bA []; rw [← hL, bA_of]
      clear hL hz
      go_wp2
      go_ret
      exact ⟨ret_str HR.out, rfl⟩
    | cons c q =>
      have hz : T.size = q.length + 1 := by rw [← lenS, hL]; rfl
      have hz2 : 0 < T.size := by omega
      obtain ⟨_, hT0⟩ := get_at (s := T) (n := 0) (c := c) (by rw [hL]; rfl)
      have HDR : Hid ((T.extract 1 T.size).data.toList = q) := by show _ = _; rw [ext_drop, bA_list, hL]; rfl
      by_cases hc : c = 32
      · have hcb : (T[0].toNat : Int) = 32 := by rw [hT0, hc]; rfl
        have HE2 : Hid (skip (T.extract 1 T.size).data.toList = skip S.data.toList) := by
          show _ = _
          rw [HDR.out, ← HE.out, hL]
          unfold skip
          rw [List.dropWhile_cons, if_pos (by rw [hc]; rfl)]
        have hsz : (T.extract 1 T.size).size = q.length := by rw [← lenS, HDR.out]
        have h1 : (1 : Int) ≤ (T.size : Int) := by omega
        have HZ : Hid (T.size = q.length + 1 ∧ (T.extract 1 T.size).size = q.length) := ⟨hz, hsz⟩
        clear hL hT0 hc hz hsz
        go_wp2
        go_roundw
        case rel => exact ⟨_, rfl, by have := HZ.out; omega, HE2.out, by first | trivial | rfl⟩
        case measure => have := HZ.out; simp [strSz]; omega
      · have hcb : ¬ (T[0].toNat : Int) = 32 := by
          rw [hT0]
          intro e
          exact hc (UInt8.toNat_inj.1 (by have : c.toNat = 32 := (by omega); rw [this]; rfl))
        have HR : Hid (T = bA (skip S.data.toList)) := by
          show _ = _
          rw [← HE.out, hL]
          unfold skip
          rw [List.dropWhile_cons, if_neg (by simpa using hc), ← hL, bA_of]
        clear hL hT0 hc
        go_wp2
        go_ret
        exact ⟨ret_str HR.out, rfl⟩

set_option maxRecDepth 100000 in
theorem trim_any (S : ByteArray) (hs : S.size ≤ 1000000) (w : World) :
    Calls Tryd.prog 32 #[.string S, .string ⟨#[32]⟩] w fun e w' => e = .returned (.string (bA (skip S.data.toList))) ∧ w' = w := by
  have HT := Lib.hid (trimB_any S hs w)
  by_cases h0 : S.data.toList = []
  · have he : S.toList = [] := by rw [ByteArray.toList_eq]; exact h0
    have HR : Hid (S = bA (skip S.data.toList)) := by show _ = _; rw [h0]; show S = bA []; rw [← h0, bA_of]
    clear h0
    go_enter Tryd.func32, Tryd.ntmps32
    go_wp2
    go_ret
    exact ⟨ret_str HR.out, rfl⟩
  · have he : S.toList.isEmpty = false := by rw [ByteArray.toList_eq]; simpa using h0
    have he2 : ¬ S.toList = [] := by rw [ByteArray.toList_eq]; exact h0
    clear h0
    go_enter Tryd.func32, Tryd.ntmps32
    go_wp2_with (go_at_call 39; refine HT.out.mono ?_; rintro e w1 ⟨rfl, hw⟩; have hw2 := hw.symm; subst hw2; clear hw)
    go_ret
    exact ⟨rfl, rfl⟩

/-- The reader's box. -/
def Rd (W : World) (rb : Nat) (S : ByteArray) : Prop := W.rowIs rb 36 1 fun _ => .string S
theorem Rd.c {W : World} {rb : Nat} {S : ByteArray} (h : Rd W rb S) : W.cell? ⟨rb, 0, none⟩ = some (.string S) := World.rowIs.cell h (i := 0) (by omega)
theorem Rd.f {W : World} {rb : Nat} {S : ByteArray} (h : Rd W rb S) : W.frozen? ⟨rb, 0, none⟩ = false := World.rowIs.frozen h 0
theorem Rd.lt {W : World} {rb : Nat} {S : ByteArray} (h : Rd W rb S) : rb < W.heap.size := World.rowIs.lt h
theorem Rd.set {W : World} {rb : Nat} {S : ByteArray} (h : Rd W rb S) (T : ByteArray) : Rd (W.setCell ⟨rb, 0, none⟩ (.string T)) rb T := (World.rowIs.set h 0 (.string T)).congr fun i hi => by
  obtain rfl : i = 0 := by omega
  rfl
theorem Rd.to {W W' : World} {rb : Nat} {S : ByteArray} (h : Rd W rb S) (e : W'.heap[rb]? = W.heap[rb]?) : Rd W' rb S := World.rowIs.of_block h e
/-- What a step of reading leaves. -/
structure Ch (w w' : World) (rb : Nat) (T : ByteArray) : Prop where
  rd : Rd w' rb T
  gr : w.grownBy w' (some rb)
  sz : w'.heap.size = w.heap.size
theorem ch_set {w : World} {rb : Nat} {S : ByteArray} (h : Rd w rb S) (T : ByteArray) : Ch w (w.setCell ⟨rb, 0, none⟩ (.string T)) rb T :=
  ⟨h.set T, ⟨rfl, rfl, rfl, by simp, fun k hk hne => blk_setCell_other w ⟨rb, 0, none⟩ _ k (fun e => hne (by rw [e]))⟩, by simp⟩
theorem gr_trans {A B C : World} {c : Nat} (h : A.grownBy B (some c)) (k : B.grownBy C (some c)) : A.grownBy C (some c) :=
  ⟨k.os.trans h.os, k.tape.trans h.tape, k.output.trans h.output, Nat.le_trans h.size k.size, fun j hj hne => (k.block j (Nat.lt_of_lt_of_le hj h.size) hne).trans (h.block j hj hne)⟩
theorem Ch.trans {A B C : World} {rb : Nat} {S T : ByteArray} (h : Ch A B rb S) (k : Ch B C rb T) : Ch A C rb T := ⟨k.rd, gr_trans h.gr k.gr, k.sz.trans h.sz⟩

set_option maxRecDepth 100000 in
theorem pass_any (S : ByteArray) (rb : Nat) (w : World) (h : Rd w rb S) (hs : S.size ≤ 4000) :
    Calls Tryd.prog 22 #[.pointer (some ⟨rb, 0, none⟩)] w fun e w' => e = .returned (.tuple #[]) ∧ Ch w w' rb (bA (skip S.data.toList)) := by
  have HT := Lib.hid (trim_any S (by omega) w)
  have c0 := h.c
  have f0 := h.f
  have HC := Lib.hid (ch_set h (bA (skip S.data.toList)))
  generalize bA (skip S.data.toList) = T at *
  clear h
  go_enter Tryd.func22, Tryd.ntmps22
  go_wp2_with (go_at_call 32; refine HT.out.mono ?_; rintro e w1 ⟨rfl, hw⟩; have hw2 := hw.symm; subst hw2; clear hw)
  go_end0
  exact ⟨rfl, HC.out⟩

/-- Does that sign stand there? -/
def tkB (c : UInt8) (l : List UInt8) : Bool := match skip l with
  | [] => false
  | d :: _ => decide (d = c)
def tkR (c : UInt8) (l : List UInt8) : List UInt8 := match skip l with
  | [] => []
  | d :: q => if d = c then q else d :: q

set_option maxRecDepth 100000 in
set_option maxHeartbeats 2000000 in
theorem takes_any (c : UInt8) (S : ByteArray) (rb : Nat) (w : World) (h : Rd w rb S) (hs : S.size ≤ 4000) :
    Calls Tryd.prog 29 #[.pointer (some ⟨rb, 0, none⟩), .int .u8 (c.toNat : Int)] w fun e w' => e = .returned (.bool (tkB c S.data.toList)) ∧ Ch w w' rb (bA (tkR c S.data.toList)) := by
  have HP := Lib.hid (pass_any S rb w h hs)
  clear h
  cases hL : skip S.data.toList with
  | nil =>
    have HB : Hid (tkB c S.data.toList = false ∧ tkR c S.data.toList = []) := by unfold tkB tkR; rw [hL]; exact ⟨rfl, rfl⟩
    rw [hL] at HP
    rw [HB.out.1, HB.out.2]
    clear hL HB
    go_enter Tryd.func29, Tryd.ntmps29
    go_wp2_with (go_at_call 22; refine HP.out.mono ?_; rintro e w1 ⟨rfl, hch⟩; have c1 : w1.cell? ⟨rb, 0, none⟩ = some (.string ⟨#[]⟩) := hch.rd.c; have HC := Lib.hid hch; clear hch)
    go_ret
    exact ⟨rfl, HC.out⟩
  | cons d q =>
    have hsl : (bA (d :: q)).size = q.length + 1 := by rw [bA_size]; rfl
    have hse : (bA (d :: q)).toList.isEmpty = false := by rw [ByteArray.toList_eq, bA_list]; rfl
    have hse2 : ¬ (bA (d :: q)).toList = [] := by rw [ByteArray.toList_eq, bA_list]; simp
    obtain ⟨h0, hT0⟩ := get_at (s := bA (d :: q)) (n := 0) (c := d) (by rw [bA_list]; rfl)
    have hx1 : (bA (d :: q)).extract 1 (bA (d :: q)).size = bA q := by rw [ext_drop, bA_list]; rfl
    have hq1 : (1 : Int) ≤ ((bA (d :: q)).size : Int) := by omega
    rw [hL] at HP
    by_cases hc : d = c
    · have HB : Hid (tkB c S.data.toList = true ∧ tkR c S.data.toList = q) := by unfold tkB tkR; rw [hL]; exact ⟨decide_eq_true hc, if_pos hc⟩
      have hcc : ((bA (d :: q))[0].toNat : Int) = (c.toNat : Int) := by rw [hT0, hc]
      rw [HB.out.1, HB.out.2]
      clear hL HB hT0 hc hsl
      generalize bA (d :: q) = D at *
      go_enter Tryd.func29, Tryd.ntmps29
      go_wp2_with (go_at_call 22; refine HP.out.mono ?_; rintro e w1 ⟨rfl, hch⟩; have c1 := hch.rd.c; have f1 := hch.rd.f; have HC := Lib.hid (hch.trans (ch_set hch.rd (bA q))); clear hch)
      go_ret
      exact ⟨rfl, HC.out⟩
    · have HB : Hid (tkB c S.data.toList = false ∧ tkR c S.data.toList = d :: q) := by unfold tkB tkR; rw [hL]; exact ⟨decide_eq_false hc, if_neg hc⟩
      have hcc : ¬ ((bA (d :: q))[0].toNat : Int) = (c.toNat : Int) := by rw [hT0]; intro e; exact hc (UInt8.toNat_inj.1 (by omega))
      rw [HB.out.1, HB.out.2]
      clear hL HB hT0 hc hsl
      generalize bA (d :: q) = D at *
      go_enter Tryd.func29, Tryd.ntmps29
      go_wp2_with (go_at_call 22; refine HP.out.mono ?_; rintro e w1 ⟨rfl, hch⟩; have c1 := hch.rd.c; have f1 := hch.rd.f; have HC := Lib.hid hch; clear hch)
      go_ret
      exact ⟨rfl, HC.out⟩

set_option maxRecDepth 100000 in
theorem atEnd_any (S : ByteArray) (rb : Nat) (w : World) (h : Rd w rb S) (hs : S.size ≤ 4000) :
    Calls Tryd.prog 13 #[.pointer (some ⟨rb, 0, none⟩)] w fun e w' => e = .returned (.bool (skip S.data.toList).isEmpty) ∧ w.grownBy w' (some rb) := by
  have HP := Lib.hid (pass_any S rb w h hs)
  have HE : Hid ((bA (skip S.data.toList)).toList.isEmpty = (skip S.data.toList).isEmpty) := by show _ = _; rw [ByteArray.toList_eq, bA_list]
  generalize (skip S.data.toList).isEmpty = b at *
  generalize bA (skip S.data.toList) = D at *
  clear h
  go_enter Tryd.func13, Tryd.ntmps13
  go_wp2_with (go_at_call 22; refine HP.out.mono ?_; rintro e w1 ⟨rfl, hch⟩; have c1 := hch.rd.c; have HC := Lib.hid hch.gr; clear hch)
  go_ret
  exact ⟨ret_bool HE.out, HC.out⟩
end Go.Proofs.YtklgeahgaeodiaaDoor.cr
