import Derived.Test.YtbnmefponeomiaaDoorU
import Derived.Test.YtbnmefponeomiaaDoorA
import Derived.Deep.QuietTactic
import Derived.BigQuiet
namespace Go.Proofs.YtbnmefponeomiaaDoor.lx
open Go.ChangeShapes Go.WideShapes Go.ChangeAt Go.RowKit Go.Deep
set_option linter.unusedVariables false
set_option linter.unusedSimpArgs false

def pcV : Option (UInt8 × Nat) → Value
  | some (b, n) => .tuple #[.int .u8 (b.toNat : Int), .int .i64 (n : Int)]
  | none => .tuple #[.int .u8 0, .int .i64 0]

theorem esc_hit {d : UInt8} {k : Nat} (hk : k < 4) (h0 : ∀ j, j < k → ¬ d = es.shown j) (h : d = es.shown k) : esc d = some (es.meant k, 2) := by
  have h' : k = 0 ∨ k = 1 ∨ k = 2 ∨ k = 3 := by omega
  rcases h' with rfl | rfl | rfl | rfl <;> subst h <;> rfl

theorem esc_miss {d : UInt8} (h0 : ∀ j, j < 4 → ¬ d = es.shown j) : esc d = none := by
  have h1 : ¬ d = 110 := h0 0 (by omega)
  have h2 : ¬ d = 116 := h0 1 (by omega)
  have h3 : ¬ d = 34 := h0 2 (by omega)
  have h4 : ¬ d = 92 := h0 3 (by omega)
  simp [esc, h1, h2, h3, h4]

theorem pc_low {r : ByteArray} (hp : 0 < r.size) (h : r[0].toNat < 32) : pc (suf r 0) = none := by
  rw [suf_cons hp]; simp [pc, h]
theorem pc_plain {r : ByteArray} (hp : 0 < r.size) (h : ¬ r[0].toNat < 32) (h2 : ¬ r[0] = 92) : pc (suf r 0) = some (r[0], 1) := by
  rw [suf_cons hp]; simp [pc, h, h2]
theorem pc_esc {r : ByteArray} (hp : 1 < r.size) (h2 : r[0] = 92) : pc (suf r 0) = esc r[1] := by
  have h32 : ¬ (92 : UInt8).toNat < 32 := by decide
  rw [suf_cons (show 0 < r.size by omega), suf_cons (show 0 + 1 < r.size by omega)]
  simp [pc, h2]
theorem pc_open {r : ByteArray} (hp : r.size = 1) (h2 : r[0] = 92) : pc (suf r 0) = none := by
  rw [suf_cons (show 0 < r.size by omega), suf_end (by omega)]
  simp [pc, h2]

theorem ret_pc {o : Option (UInt8 × Nat)} {v : Value} (h : pcV o = v) : Ending.returned v = .returned (pcV o) := by rw [h]

set_option maxHeartbeats 1000000 in
theorem meant_any (r : ByteArray) (hs : r.size ≤ 20000) (hp : 0 < r.size) (w : World) (hE : es.EscB w) :
    Calls Tryd.prog 60 #[.string r] w fun e w' => e = .returned (pcV (pc (suf r 0))) ∧ Below w.heap.size w w' := by
  have hpi : (0 : Int) < (r.size : Int) := by omega
  by_cases h32 : r[0].toNat < 32
  · have HV : Hid (pcV (pc (suf r 0)) = .tuple #[.int .u8 0, .int .i64 0]) := by show pcV _ = _; rw [pc_low hp h32]; rfl
    have q32 : (r[0].toNat : Int) < 32 := by omega
    clear h32
    go_enter Tryd.func60, Tryd.ntmps60
    go_wp2
    go_ret2
    exact ⟨ret_pc HV.out, Below.refl _ _⟩
  have q32 : ¬ (r[0].toNat : Int) < 32 := by omega
  by_cases h92 : r[0] = 92
  · have q92 : ((r[0].toNat : Int) != 92) = false := by rw [h92]; rfl
    by_cases h1 : 1 < r.size
    · have HP : Hid (pc (suf r 0) = esc r[1]) := pc_esc h1 h92
      have h1i : (1 : Int) < (r.size : Int) := by omega
      clear h92 h32
      obtain ⟨tt, fr, hg1⟩ := hE
      go_enter Tryd.func60, Tryd.ntmps60
      go_wp2_with (refine wpList_load_row rfl 70 _ rfl 1 rfl tt es.ESC fr _ hg1 Tryd.underlying70 rfl (by kernel_rfl) ?_)
      clear hg1
      go_loopw [5, 15] (fun _ i wr => ∃ k : Nat, k ≤ 4 ∧ i = .int .i64 k ∧ (∀ j, j < k → ¬ r[1] = es.shown j) ∧ Below w.heap.size w wr) (fun _ i _ => 4 - (intOf i).toNat)
      case atStart => exact ⟨0, by omega, rfl, fun j hj => by omega, Below.refl _ _⟩
      case round =>
        obtain ⟨k, hk, rfl, hno, hbel⟩ := hrel
        have HN : Hid (∀ j, j < k → ¬ r[1] = es.shown j) := hno
        clear hno
        have hsz := hbel.size
        by_cases hlt : k < 4
        · have hix := es.idx_at k hlt
          by_cases he : r[1] = es.shown k
          · have he' : ((r[1].toNat : Int) == ((es.shown k).toNat : Int)) = true := by rw [he]; simp
            have HV : Hid (pcV (pc (suf r 0)) = .tuple #[.int .u8 ((es.meant k).toNat : Int), .int .i64 2]) := by
              show pcV _ = _
              rw [HP.out, esc_hit hlt HN.out he]; rfl
            clear he
            go_wp2
            go_quiet (fail)
            go_wp2
            go_ret2
            exact ⟨ret_pc HV.out, below_drewN (hbel.alloc hsz _) _⟩
          · have he' : ((r[1].toNat : Int) == ((es.shown k).toNat : Int)) = false := byte_ne he
            go_wp2
            go_quiet (fail)
            go_wp2
            go_roundw
            case rel => exact ⟨k + 1, by omega, by go_num, fun j hj => by
              rcases Nat.lt_or_ge j k with h | h
              · exact HN.out j h
              · obtain rfl : j = k := by omega
                exact he, below_drewN (hbel.alloc hsz _) _⟩
            case measure => simp [intOf]; omega
        · obtain rfl : k = 4 := by omega
          have HV : Hid (pcV (pc (suf r 0)) = .tuple #[.int .u8 0, .int .i64 0]) := by
            show pcV _ = _
            rw [HP.out, esc_miss HN.out]; rfl
          go_wp2
          go_ret2
          exact ⟨ret_pc HV.out, hbel⟩
    · have HV : Hid (pcV (pc (suf r 0)) = .tuple #[.int .u8 0, .int .i64 0]) := by show pcV _ = _; rw [pc_open (by omega) h92]; rfl
      have h1i : decide ((1 : Int) < (r.size : Int)) = false := by simp; omega
      clear h92 h32
      obtain ⟨tt, fr, hg1⟩ := hE
      go_enter Tryd.func60, Tryd.ntmps60
      go_wp2_with (refine wpList_load_row rfl 70 _ rfl 1 rfl tt es.ESC fr _ hg1 Tryd.underlying70 rfl (by kernel_rfl) ?_)
      clear hg1
      go_loopw [5, 15] (fun _ i wr => ∃ k : Nat, k ≤ 4 ∧ i = .int .i64 k ∧ Below w.heap.size w wr) (fun _ i _ => 4 - (intOf i).toNat)
      case atStart => exact ⟨0, by omega, rfl, Below.refl _ _⟩
      case round =>
        obtain ⟨k, hk, rfl, hbel⟩ := hrel
        have hsz := hbel.size
        by_cases hlt : k < 4
        · have hix := es.idx_at k hlt
          go_wp2
          go_quiet (fail)
          go_wp2
          go_roundw
          case rel => exact ⟨k + 1, by omega, by go_num, below_drewN (hbel.alloc hsz _) _⟩
          case measure => simp [intOf]; omega
        · obtain rfl : k = 4 := by omega
          go_wp2
          go_ret2
          exact ⟨ret_pc HV.out, hbel⟩
  · have HV : Hid (pcV (pc (suf r 0)) = .tuple #[.int .u8 (r[0].toNat : Int), .int .i64 1]) := by show pcV _ = _; rw [pc_plain hp h32 h92]; rfl
    have q92 : ((r[0].toNat : Int) != 92) = true := by have := byte_ne h92; simpa [bne] using this
    clear h92 h32
    go_enter Tryd.func60, Tryd.ntmps60
    go_wp2
    go_ret2
    exact ⟨ret_pc HV.out, Below.refl _ _⟩

theorem suf_ext {s : ByteArray} {p : Nat} : suf (s.extract p s.size) 0 = suf s p := by
  unfold suf
  rw [Lib.extract_data, List.drop_zero]
  exact List.take_of_length_le (by simp)

theorem text_noV {l : List UInt8} (h : txt l = none) : optV (text l) = .tuple #[.agg #[.int .i64 0, .string ⟨#[]⟩, .int .i64 0, .int .i64 0], .int .i64 0] := by rw [text, h]; rfl
theorem text_yesV {l acc : List UInt8} {n : Nat} (h : txt l = some (acc, n)) : optV (text l) = .tuple #[.agg #[.int .i64 3, .string ⟨acc.toArray⟩, .int .i64 0, .int .i64 0], .int .i64 (n : Int)] := by rw [text, h]; rfl

theorem st_lenO {l : List UInt8} : ∀ {j o acc}, stTo l j = some (o, acc) → 1 ≤ l.length → o ≤ l.length := by
  intro j
  induction j with
  | zero => intro o acc h hl; cases h; exact hl
  | succ j ih =>
    intro o acc h hl
    unfold stTo at h
    split at h
    · rename_i o' acc' h'
      have h1 := ih h' hl
      split at h
      · rename_i c hc
        split at h
        · cases h; exact h1
        · split at h
          · rename_i b n hpc
            split at h
            · cases h
            · cases h
              have := (pc_pos hpc).2
              have ho : o' < l.length := (List.getElem?_eq_some_iff.1 hc).1
              simp at this
              omega
          · cases h
      · cases h; exact h1
    · cases h

theorem emp_row (w : World) (O : Obj) : ((w.alloc O).alloc (.cells #[] 5)).ownsRow (w.heap.size + 1) 5 1 (.slice (some ⟨w.heap.size + 1, 0, none⟩) 0 0) 0 (byteCells []) := by
  have h := own_empty (w.alloc O)
  have e : (w.alloc O).heap.size = w.heap.size + 1 := by simp
  rw [e] at h
  exact h

set_option maxHeartbeats 1000000 in
theorem textOf_any (r : ByteArray) (hs : r.size ≤ 20000) (hp : 0 < r.size) (w : World) (hE : es.EscB w) :
    Calls Tryd.prog 57 #[.string r] w fun e w' => e = .returned (optV (text (suf r 0))) ∧ Below w.heap.size w w' := by
  have hsl := suf_len r 0
  go_enter Tryd.func57, Tryd.ntmps57
  go_wp2
  go_loopw [4, 5, 6, 7] (fun v i _ _ wr => ∃ (j o : Nat) (acc : List UInt8) (a : Option Addr) (cap : Nat), stTo (suf r 0) j = some (o, acc) ∧ j < o ∧ o ≤ r.size ∧ i = .int .i64 (o : Int) ∧ v = .slice a acc.length cap ∧ wr.ownsRow (w.heap.size + 1) 5 1 (.slice a acc.length cap) acc.length (byteCells acc) ∧ Below (w.alloc (.cells #[.int .i64 0, .string ⟨#[]⟩, .int .i64 0, .int .i64 0] 39)).heap.size (w.alloc (.cells #[.int .i64 0, .string ⟨#[]⟩, .int .i64 0, .int .i64 0] 39)) wr) (fun _ i _ _ _ => r.size - (intOf i).toNat)
  case atStart => exact ⟨0, 1, [], _, _, rfl, by omega, by omega, by go_num, rfl, emp_row w _, (Below.refl _ _).alloc (Nat.le_refl _) _⟩
  case round =>
    obtain ⟨j, o, acc, a, cap, hst, hj, ho, rfl, rfl, hown, hbl⟩ := hrel
    have HS : Hid (stTo (suf r 0) j = some (o, acc)) := hst
    have hal := st_len hst
    clear hst
    have hsz : w.heap.size + 1 ≤ wr.heap.size := by have := hbl.size; simpa using this
    have hbel := bel_lit hbl
    have hso := some4 hbl
    obtain ⟨hc, hfz⟩ := bcell hbl
    by_cases hlt : o < r.size
    · have hjl : j + 1 ≤ (suf r 0).length := by omega
      have HG : Hid ((suf r 0)[o]? = some r[o]) := suf_get0 hlt
      have hlti : (o : Int) < (r.size : Int) := by omega
      by_cases e34 : r[o] = 34
      · have HV : Hid (optV (text (suf r 0)) = .tuple #[.agg #[.int .i64 3, .string ⟨acc.toArray⟩, .int .i64 0, .int .i64 0], .int .i64 ((o + 1 : Nat) : Int)]) := text_yesV (txt_end (by omega) HS.out (by rw [HG.out, e34]))
        have q34 : ((r[o].toNat : Int) != 34) = false := by rw [e34]; rfl
        have hconv := own_string (P := Tryd.prog) Tryd.underlying22 Tryd.underlying5 Tryd.underlying9 hown
        clear e34
        go_wp2
        exact ret_two Tryd.results57 rfl rfl (four_set (hso 0 (by omega)) (hso 1 (by omega)) (hso 2 (by omega)) (hso 3 (by omega))) ⟨congrArg Ending.returned HV.out.symm, below4 hbel (Nat.le_refl _)⟩
      have q34 : ((r[o].toNat : Int) != 34) = true := by have := byte_ne e34; simpa [bne] using this
      have HN0 : Hid (stTo (suf r 0) (j + 1) = match pc ((suf r 0).drop o) with | some (b, n) => if acc.length = 4000 then none else some (o + n, acc ++ [b]) | none => none) := st_step HS.out HG.out e34
      have HD : Hid ((suf r 0).drop o = suf (r.extract o r.size) 0) := by
        show (suf r 0).drop o = _
        rw [suf_drop, Nat.zero_add, suf_ext]
      clear e34
      have hE1 := hE.below hbel
      have HC : Hid (Calls Tryd.prog 60 #[.string (r.extract o r.size)] wr fun e w' => e = .returned (pcV (pc ((suf r 0).drop o))) ∧ Below wr.heap.size wr w') := by
        show Calls _ _ _ _ _
        rw [HD.out]
        exact meant_any _ (by simp; omega) (by simp; omega) wr hE1
      cases hpc : pc ((suf r 0).drop o) with
      | none =>
        have HV : Hid (optV (text (suf r 0)) = .tuple #[.agg #[.int .i64 0, .string ⟨#[]⟩, .int .i64 0, .int .i64 0], .int .i64 0]) := text_noV (txt_fail hjl (by rw [HN0.out, hpc]))
        rw [hpc] at HC
        unfold pcV at HC
        clear hpc
        go_wp2_with (go_at_call 60; refine HC.out.mono ?_; rintro e w1 ⟨rfl, hl1⟩; have hbl1 := hbl.trans (hl1.mono hbl.size); obtain ⟨hc1, hfz1⟩ := bcell hbl1)
        have hso1 := some4 hbl1
        exact ret_two Tryd.results57 rfl rfl (four_set (hso1 0 (by omega)) (hso1 1 (by omega)) (hso1 2 (by omega)) (hso1 3 (by omega))) ⟨congrArg Ending.returned HV.out.symm, below4 (bel_lit hbl1) (Nat.le_refl _)⟩
      | some x =>
        obtain ⟨b, n⟩ := x
        have hn := pc_pos hpc
        have hnl : o + n ≤ r.size := by
          have := hn.2
          simp at this
          omega
        have hn0 : ((n : Int) == 0) = false := by simp; omega
        have HP : Hid (pc ((suf r 0).drop o) = some (b, n)) := hpc
        rw [hpc] at HC
        unfold pcV at HC
        clear hpc
        by_cases h4 : acc.length = 4000
        · have HV : Hid (optV (text (suf r 0)) = .tuple #[.agg #[.int .i64 0, .string ⟨#[]⟩, .int .i64 0, .int .i64 0], .int .i64 0]) := text_noV (txt_fail hjl (by rw [HN0.out, HP.out]; simp [h4]))
          have q4 : ((acc.length : Int) == 4000) = true := by rw [h4]; rfl
          clear h4
          go_wp2_with (go_at_call 60; refine HC.out.mono ?_; rintro e w1 ⟨rfl, hl1⟩; have hbl1 := hbl.trans (hl1.mono hbl.size); obtain ⟨hc1, hfz1⟩ := bcell hbl1)
          have hso1 := some4 hbl1
          exact ret_two Tryd.results57 rfl rfl (four_set (hso1 0 (by omega)) (hso1 1 (by omega)) (hso1 2 (by omega)) (hso1 3 (by omega))) ⟨congrArg Ending.returned HV.out.symm, below4 (bel_lit hbl1) (Nat.le_refl _)⟩
        · have HN : Hid (stTo (suf r 0) (j + 1) = some (o + n, acc ++ [b])) := by
            show stTo _ _ = _
            rw [HN0.out, HP.out]
            simp [h4]
          have q4 : ((acc.length : Int) == 4000) = false := by simp; omega
          clear h4
          go_wp2_with (first
            | (go_at_call 60; refine HC.out.mono ?_; rintro e w1 ⟨rfl, hl1⟩; have hbl1 := hbl.trans (hl1.mono hbl.size))
            | (at_builtin; refine app_own _ rfl _ _ 22 rfl (w.heap.size + 1) 5 (.int .u8 0) 1 Tryd.underlying22 info5 rfl _ _ _ rfl ((own_below hown hl1).alloc _) ⟨w1.heap.size, 0, none⟩ 1 1 (byteCells [b]) rfl rfl ?c1 (byteCells_oneCell _) ?c3 ?c4 ?c5 ?_)
            | go_in)
          case c1 => first | exact one_new _ _ _ | exact fun j u h => h
          case c3 => unfold maxLen; omega
          case c4 => omega
          case c5 => have := hl1.size; first | omega | (simp; omega)
          intro v' w' hown' hg
          have hs1 := hl1.size
          have e1 : (w.alloc (.cells #[.int .i64 0, .string ⟨#[]⟩, .int .i64 0, .int .i64 0] 39)).heap.size = w.heap.size + 1 := by simp
          have hb' := hbl1.alloc (by rw [e1]; omega) (.cells #[.int .u8 (b.toNat : Int)] 5)
          have hb2 := hb'.grown hg (by rw [e1]; simp; omega) (fun k hk => by rw [e1]; exact (((own_below hown hl1).alloc (.cells #[.int .u8 (b.toNat : Int)] 5)).lt k hk).1)
          rw [← byteCells_append] at hown'
          obtain ⟨a', cap', rfl⟩ := own_shape hown'
          clear hb' e1
          go_wp2
          go_roundw
          case rel => exact ⟨j + 1, o + n, acc ++ [b], a', cap', HN.out, by omega, by omega, by go_num, by simp, by rw [List.length_append]; exact hown', hb2⟩
          case measure => simp [intOf]; omega
    · have HV : Hid (optV (text (suf r 0)) = .tuple #[.agg #[.int .i64 0, .string ⟨#[]⟩, .int .i64 0, .int .i64 0], .int .i64 0]) := text_noV (txt_open (by omega) HS.out (by omega))
      have hlti : ¬ (o : Int) < (r.size : Int) := by omega
      go_wp2
      exact ret_two Tryd.results57 rfl rfl (four_set (hso 0 (by omega)) (hso 1 (by omega)) (hso 2 (by omega)) (hso 3 (by omega))) ⟨congrArg Ending.returned HV.out.symm, below4 hbel (Nat.le_refl _)⟩

end Go.Proofs.YtbnmefponeomiaaDoor.lx
