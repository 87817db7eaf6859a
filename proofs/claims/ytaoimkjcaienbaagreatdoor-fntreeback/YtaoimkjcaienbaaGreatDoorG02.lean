import Derived.Test.YtaoimkjcaienbaaGreatDoorRows
import Derived.Test.YtaoimkjcaienbaaGreatDoorG01
import Derived.Lib.ConvBytes
import Derived.ArgAppend
import Derived.Deep.QuietTactic
import Derived.BigQuiet
import Derived.Maps.Own
import Derived.Maps.OwnOps
import Derived.Maps.OwnSet
import Derived.Maps.Views
namespace Go.Proofs.YtaoimkjcaienbaaGreatDoor
open Go.ChangeShapes Go.WideShapes Go.ChangeAt Go.RowKit Go.Deep
set_option linter.unusedVariables false

/-- What '[]byte(S)' leaves: a new row of S's bytes, with room behind it that can be written. -/
structure ConvRow (w W1 : World) (cap : Nat) (S : ByteArray) : Prop where
  below : Below w.heap.size w W1
  size : W1.heap.size = w.heap.size + 1
  cells : ∀ j (h : j < S.size), W1.cell? ⟨w.heap.size, j, none⟩ = some (.int .u8 (S[j].toNat : Int))
  spare : ∀ j, j < cap → (W1.cell? ⟨w.heap.size, j, none⟩).isSome = true ∧ W1.frozen? ⟨w.heap.size, j, none⟩ = false
  le : S.size ≤ cap
  max : cap ≤ maxLen

theorem conv_row {P : Program} (w : World) (src dst e : TypeId) (S : ByteArray) (hS : S.size ≤ 1099511627776) (hs : P.underlying src = some .string) (hd : P.underlying dst = some (.slice e)) (he : P.underlying e = some (.int .u8)) :
    ∃ z cap W1, (convert src dst (.string S)).run P w = .ok (.slice (some ⟨w.heap.size, 0, none⟩) z cap) W1 ∧ z = S.size ∧ ConvRow w W1 cap S := by
  refine ⟨_, _, _, Lib.run_convert_string_bytes w src dst e S hs hd he, rfl, ?_, Lib.bytesWorld_size _ _ _, ?_, ?_, ?_, ?_⟩
  · exact ⟨rfl, rfl, rfl, by rw [Lib.bytesWorld_size]; omega, fun k hk => Lib.bytesWorld_at_old w e S k hk⟩
  · intro j hj
    rw [Lib.bytesWorld_cell w e S j hj]
    have : S.data.toList.getD j 0 = S[j] := by
      rw [List.getD_eq_getElem?_getD, List.getElem?_eq_getElem (by simpa using hj)]; rfl
    rw [this]
  · intro j hj
    have hge := grownCap_ge w S.size 0 e
    have hz : (Lib.bytesCells w e S).size = grownCap w S.size 0 e := by
      simp [Lib.bytesCells]
      omega
    have hb := Lib.bytesWorld_at_new w e S
    refine ⟨?_, ?_⟩
    · simp only [World.cell?, hb]
      rw [Array.getElem?_eq_getElem (by omega)]
      rfl
    · simp only [World.frozen?, hb]
      simp
      omega
  · exact grownCap_ge w S.size 0 e
  · exact grownCap_le_maxLen w S.size 0 e (by unfold maxLen; omega)

theorem app_any {P : Program} (w : World) {ops : Array Oper} {rest : List Oper} {o : Oper} {a : Act} {Q : Exit → Act → World → Prop} (hgd : o.guard = none) (s x : Operand) (t : TypeId)
    (ho : o.op = .call { callee := .builtin .append, args := #[s, x], argTypes := #[t, t] }) (v xv : Value) (hs : a.eval s = v) (hx : a.eval x = xv) (v' : Value) (w' : World)
    (hr : ∀ ty, (Builtin.append_ #[t, t] ty #[v, xv]).run P w = .ok v' w') (h : wpList P ops Q rest (a.put o.dst v') w') : wpList P ops Q (o :: rest) a w :=
  wpList_plain hgd fun _ hK => by
    unfold Oper.wp execOp
    simp only [ho, resolve, invoke, builtin, Sem.run_bind, Sem.run_pure, Result.andThen_ok, List.map_toArray, List.map_cons, List.map_nil, hs, hx, hr]
    exact hK _ _ h

theorem below_setCells {B : Nat} {a : World} {b : Nat} (hb : B ≤ b) : ∀ (vs : List Value) (o : Nat) (w : World), Below B a w → Below B a (w.setCells b o vs)
  | [], _, _, h => h
  | v :: r, o, w, h => below_setCells hb r (o + 1) _ (h.setCell (p := ⟨b, o, none⟩) hb v)

/-- An append of bytes to a row that a conversion has made. -/
theorem conv_app {P : Program} {w W1 : World} {cap : Nat} {S : ByteArray} (hc : ConvRow w W1 cap S) (hS : S.size ≤ 1099511627776) (t e : TypeId) (ht : P.underlying t = some (.slice e))
    (hinfo : (P.info? e).map (fun i => (i.zero, i.size, i.bytes)) = some (some (.int .u8 0), 1, 1))
    (b m c : Nat) (l : List Int) (hm : m ≤ 1099511627776) (hbw : b < w.heap.size) (hl : ∀ i, i < m → w.cell? ⟨b, i, none⟩ = some (.int .u8 (l[i]?.getD 0))) :
    ∃ g' cap' W2, (∀ ty, (Builtin.append_ #[t, t] ty #[.slice (some ⟨w.heap.size, 0, none⟩) S.size cap, .slice (some ⟨b, 0, none⟩) m c]).run P W1 = .ok (.slice (some ⟨g', 0, none⟩) (S.size + m) cap') W2) ∧
      (∀ i (h : i < S.size), W2.cell? ⟨g', i, none⟩ = some (.int .u8 (S[i].toNat : Int))) ∧ (∀ i, i < m → W2.cell? ⟨g', S.size + i, none⟩ = some (.int .u8 (l[i]?.getD 0))) ∧ Below w.heap.size w W2 := by
  obtain ⟨i, hi, hzz⟩ := Option.map_eq_some_iff.1 hinfo
  simp only [Prod.mk.injEq] at hzz
  obtain ⟨hz, hsz, hby⟩ := hzz
  let news : List Value := (List.range m).map fun j => Value.int .u8 (l[j]?.getD 0)
  have hnl : news.length = m := by simp [news]
  have hn : ∀ j u, news[j]? = some u → W1.cell? ((⟨b, 0, none⟩ : Addr).add j) = some u := by
    intro j u hj
    have hjm : j < m := by have := (List.getElem?_eq_some_iff.1 hj).1; omega
    have : u = Value.int .u8 (l[j]?.getD 0) := by simpa [news, hjm] using hj.symm
    rw [addr_add, Nat.zero_add, hc.below.cell (p := ⟨b, j, none⟩) hbw, hl j hjm, this]
  have h1 : ∀ u ∈ news, u.oneCell' = true := by
    intro u hu
    obtain ⟨j, _, rfl⟩ := List.mem_map.1 hu
    rfl
  have hnat : ∀ j (hj : j < news.length), news[j] = Value.int .u8 (l[j]?.getD 0) := by intro j hj; simp [news]
  by_cases hroom : S.size + m ≤ cap
  · have hr := fun ty => run_append_room_cells (P := P) W1 t ty e i ht hi w.heap.size 0 S.size cap ⟨b, 0, none⟩ m c news (by rw [hsz]; omega) hn h1 hroom
      (fun j hj => (hc.spare _ (by rw [hsz]; omega)).1) (fun j hj => (hc.spare _ (by rw [hsz]; omega)).2)
    simp only [hsz, Nat.mul_one, Nat.zero_add] at hr
    refine ⟨_, _, _, hr, ?_, ?_, ?_⟩
    · intro j hj
      rw [World.cell?_setCells_out _ _ _ _ _ (fun _ _ => Or.inl hj)]
      exact hc.cells j hj
    · intro j hj
      rw [World.cell?_setCells_in _ _ _ _ (fun j hj => (hc.spare _ (by omega)).1) j (by omega), hnat]
    · exact below_setCells (Nat.le_refl _) _ _ _ hc.below
  · let olds : List Value := S.data.toList.map fun x => Value.int .u8 (x.toNat : Int)
    have holen : olds.length = S.size := by simp [olds]
    have hol : ∀ j (hj : j < S.size), olds[j]? = some (Value.int .u8 (S[j].toNat : Int)) := by
      intro j hj
      simp only [olds, List.getElem?_map]
      rw [List.getElem?_eq_getElem (by simpa using hj)]
      rfl
    have holds : ∀ j u, olds[j]? = some u → W1.cell? ((⟨w.heap.size, 0, none⟩ : Addr).add j) = some u := by
      intro j u hj
      have hj' : j < S.size := by have := (List.getElem?_eq_some_iff.1 hj).1; omega
      rw [addr_add, Nat.zero_add, hc.cells j hj', ← hj, hol j hj']
    have hr : ∀ ty, (Builtin.append_ #[t, t] ty #[.slice (some ⟨w.heap.size, 0, none⟩) S.size cap, .slice (some ⟨b, 0, none⟩) m c]).run P W1 = _ := fun ty =>
      run_append_grow (P := P) W1 t ty e i (.int .u8 0) ht hi hz ⟨w.heap.size, 0, none⟩ S.size cap olds (by rw [hsz]; omega) holds ⟨b, 0, none⟩ m c news (by rw [hsz]; omega) hn (by omega) (by omega)
        (growslice_fits (by omega) (by rw [hby]; omega))
    have hcell : ∀ j v, (olds ++ news)[j]? = some v → (W1.drew.alloc (.cells (olds.toArray ++ news.toArray ++ Builtin.zeroCells (Value.int .u8 0).cells (grownCap W1 (S.size + m) cap e - (S.size + m))) e)).cell? ⟨W1.heap.size, j, none⟩ = some v := by
      intro j v hj
      have e1 : (W1.drew.alloc (.cells (olds.toArray ++ news.toArray ++ Builtin.zeroCells (Value.int .u8 0).cells (grownCap W1 (S.size + m) cap e - (S.size + m))) e)).cell? ⟨W1.heap.size, j, none⟩ = _ := World.cell?_alloc_new W1.drew _ _ j
      have hjl : j < (olds ++ news).length := (List.getElem?_eq_some_iff.1 hj).1
      rw [e1, Array.getElem?_append_left (by simpa using hjl)]
      simpa using hj
    refine ⟨_, _, _, hr, ?_, ?_, ?_⟩
    · intro j hj
      exact hcell j _ (by rw [List.getElem?_append_left (by omega)]; exact hol j hj)
    · intro j hj
      refine hcell _ _ ?_
      rw [List.getElem?_append_right (by omega), holen, show S.size + j - S.size = j by omega, List.getElem?_eq_getElem (by omega), hnat]
    · exact (hc.below.drew).alloc (by have := hc.size; show _ ≤ W1.heap.size; omega) _

end Go.Proofs.YtaoimkjcaienbaaGreatDoor

namespace Go.Proofs.YtaoimkjcaienbaaGreatDoor.nm
open Go.ChangeShapes Go.WideShapes Go.ChangeAt Go.RowKit Go.Deep
set_option linter.unusedVariables false

def letB (c : Int) : Bool := decide (97 ≤ c ∧ c ≤ 122 ∨ 65 ≤ c ∧ c ≤ 90)
def digB (c : Int) : Bool := decide (48 ≤ c ∧ c ≤ 57)
def okB (c : Int) : Bool := letB c || digB c || (c == 45) || (c == 95) || (c == 46) || (c == 43)

theorem letter_any (c : Int) (w : World) :
    Calls Tryz.prog 131 #[.int .u8 c] w fun e w' => e = .returned (.bool (letB c)) ∧ w' = w := by
  go_enter Tryz.func131, Tryz.ntmps131
  go_wp2
  all_goals go_ret
  all_goals refine ⟨ret_bool ?_, rfl⟩
  all_goals (rw [Bool.eq_iff_iff]; simp [letB]; omega)

theorem digit_any (c : Int) (w : World) :
    Calls Tryz.prog 132 #[.int .u8 c] w fun e w' => e = .returned (.bool (digB c)) ∧ w' = w := by
  go_enter Tryz.func132, Tryz.ntmps132
  go_wp2
  all_goals go_ret
  all_goals refine ⟨ret_bool ?_, rfl⟩
  all_goals (rw [Bool.eq_iff_iff]; simp [digB]; omega)

theorem isLetter_any (c : Int) (w : World) :
    Calls Tryz.prog 176 #[.int .i32 c] w fun e w' => e = .returned (.bool (letB c)) ∧ w' = w := by
  go_enter Tryz.func176, Tryz.ntmps176
  go_wp2
  all_goals go_ret
  all_goals refine ⟨ret_bool ?_, rfl⟩
  all_goals (rw [Bool.eq_iff_iff]; simp [letB]; omega)

theorem isDigit_any (c : Int) (w : World) :
    Calls Tryz.prog 177 #[.int .i32 c] w fun e w' => e = .returned (.bool (digB c)) ∧ w' = w := by
  go_enter Tryz.func177, Tryz.ntmps177
  go_wp2
  all_goals go_ret
  all_goals refine ⟨ret_bool ?_, rfl⟩
  all_goals (rw [Bool.eq_iff_iff]; simp [digB]; omega)

theorem inName_any (c : Int) (h0 : 0 ≤ c) (h1 : c ≤ 255) (w : World) :
    Calls Tryz.prog 160 #[.int .u8 c] w fun e w' => e = .returned (.bool (okB c)) ∧ w' = w := by
  go_enter Tryz.func160, Tryz.ntmps160
  go_wp2_with (first
    | (go_at_call 176; refine (isLetter_any _ _).mono ?_; rintro e w' ⟨rfl, rfl⟩)
    | (go_at_call 177; refine (isDigit_any _ _).mono ?_; rintro e w' ⟨rfl, rfl⟩))
  all_goals go_ret
  all_goals refine ⟨ret_bool ?_, rfl⟩
  all_goals simp [okB, *]

def allOk (s : ByteArray) (k : Nat) : Bool := (s.data.toList.take k).all fun c => okB (c.toNat : Int)
def nameB (s : ByteArray) : Bool := decide (1 ≤ s.size) && decide (s.size ≤ 60) && !(((s.data.toList[0]?.getD 0).toNat : Int) == 46) && allOk s s.size

theorem take_snoc (s : ByteArray) (k : Nat) (h : k < s.size) : s.data.toList.take (k + 1) = s.data.toList.take k ++ [s[k]] := by
  rw [List.take_succ_eq_append_getElem (by simpa using h)]; rfl

theorem allOk_succ (s : ByteArray) (k : Nat) (h : k < s.size) : allOk s (k + 1) = (allOk s k && okB (s[k].toNat : Int)) := by
  unfold allOk
  rw [take_snoc s k h, List.all_append]
  simp

theorem allOk_false {s : ByteArray} {k : Nat} (h : k < s.size) (ho : okB (s[k].toNat : Int) = false) : allOk s s.size = false := by
  rw [Bool.eq_false_iff]
  intro hall
  unfold allOk at hall
  rw [List.all_eq_true] at hall
  have := hall s[k] (by rw [List.take_of_length_le (by simp)]; exact List.getElem_mem (l := s.data.toList) (by simpa using h))
  rw [ho] at this
  cases this

theorem get0 {s : ByteArray} (h : 0 < s.size) : s.data.toList[0]?.getD 0 = s[0] := by
  rw [List.getElem?_eq_getElem (by simpa using h)]; rfl

theorem name_dot {s : ByteArray} (h0 : 0 < s.size) (h3 : ((s[0].toNat : Int) == 46) = true) : nameB s = false := by
  unfold nameB
  rw [get0 h0, h3]
  simp

theorem impl_any (s : ByteArray) (hs : s.size ≤ 1048576) (w : World) :
    Calls Tryz.prog 124 #[.string s] w fun e w' => e = .returned (.bool (nameB s)) ∧ w' = w := by
  by_cases h1 : s.size < 1
  · go_enter Tryz.func124, Tryz.ntmps124
    go_wp2
    go_ret
    exact ⟨ret_bool (by simp [nameB]; omega), rfl⟩
  by_cases h2 : 60 < s.size
  · go_enter Tryz.func124, Tryz.ntmps124
    go_wp2
    go_ret
    exact ⟨ret_bool (by simp [nameB]; omega), rfl⟩
  have h0 : 0 < s.size := by omega
  by_cases h3 : ((s[0].toNat : Int) == 46) = true
  · go_enter Tryz.func124, Tryz.ntmps124
    go_wp2
    go_ret
    exact ⟨ret_bool (name_dot h0 h3).symm, rfl⟩
  have h3' : ((s[0].toNat : Int) == 46) = false := by simpa using h3
  have hn : Hid (nameB s = allOk s s.size) := by
    show nameB s = allOk s s.size
    unfold nameB
    rw [get0 h0, h3']
    simp
    omega
  clear h3
  go_enter Tryz.func124, Tryz.ntmps124
  go_wp2
  go_loop [3, 19] (fun x i => ∃ k : Nat, k ≤ s.size ∧ i = .int .i64 k ∧ allOk s k = true) (fun _ i => s.size - (intOf i).toNat)
  case atStart => exact ⟨0, Nat.zero_le _, rfl, by simp [allOk]⟩
  case round =>
    obtain ⟨k, hk, rfl, hok⟩ := hrel
    by_cases hlt : k < s.size
    · have hsn : Hid (allOk s (k + 1) = (allOk s k && okB (s[k].toNat : Int))) := allOk_succ s k hlt
      have hb : (0 : Int) ≤ (s[k].toNat : Int) ∧ (s[k].toNat : Int) ≤ 255 := ⟨by omega, by have := s[k].toNat_lt; omega⟩
      by_cases ho : okB (s[k].toNat : Int) = true
      · go_wp2_with (go_at_call 160; refine (inName_any _ hb.1 hb.2 _).mono ?_; rintro e w' ⟨rfl, rfl⟩)
        go_round
        case rel => exact ⟨k + 1, by omega, by go_num, by rw [hsn.out, hok, ho]; rfl⟩
        case measure => simp [intOf]; omega
      · have ho' : okB (s[k].toNat : Int) = false := by simpa using ho
        have hF : Hid (allOk s s.size = false) := allOk_false hlt ho'
        go_wp2_with (go_at_call 160; refine (inName_any _ hb.1 hb.2 _).mono ?_; rintro e w' ⟨rfl, rfl⟩)
        go_ret
        exact ⟨ret_bool (by rw [hn.out, hF.out]), rfl⟩
    · obtain rfl : k = s.size := by omega
      go_wp2
      go_ret
      exact ⟨ret_bool (by rw [hn.out, hok]), rfl⟩

theorem spec_any (s : ByteArray) (hs : s.size ≤ 1048576) (w : World) :
    Calls Tryz.prog 100 #[.string s] w fun e w' => e = .returned (.bool (nameB s)) ∧ w' = w := by
  by_cases h1 : s.size < 1
  · go_enter Tryz.func100, Tryz.ntmps100
    go_wp2
    go_ret
    exact ⟨ret_bool (by simp [nameB]; omega), rfl⟩
  by_cases h2 : 60 < s.size
  · go_enter Tryz.func100, Tryz.ntmps100
    go_wp2
    go_ret
    exact ⟨ret_bool (by simp [nameB]; omega), rfl⟩
  have h0 : 0 < s.size := by omega
  by_cases h3 : ((s[0].toNat : Int) == 46) = true
  · go_enter Tryz.func100, Tryz.ntmps100
    go_wp2
    go_ret
    exact ⟨ret_bool (name_dot h0 h3).symm, rfl⟩
  have h3' : ((s[0].toNat : Int) == 46) = false := by simpa using h3
  have hn : Hid (nameB s = allOk s s.size) := by
    show nameB s = allOk s s.size
    unfold nameB
    rw [get0 h0, h3']
    simp
    omega
  clear h3
  go_enter Tryz.func100, Tryz.ntmps100
  go_wp2
  go_loop [3, 4] (fun i x => ∃ k : Nat, k ≤ s.size ∧ i = .int .i64 k ∧ allOk s k = true) (fun i _ => s.size - (intOf i).toNat)
  case atStart => exact ⟨0, Nat.zero_le _, rfl, by simp [allOk]⟩
  case round =>
    obtain ⟨k, hk, rfl, hok⟩ := hrel
    by_cases hlt : k < s.size
    · have hsn : Hid (allOk s (k + 1) = (allOk s k && okB (s[k].toNat : Int))) := allOk_succ s k hlt
      have hb : (0 : Int) ≤ (s[k].toNat : Int) ∧ (s[k].toNat : Int) ≤ 255 := ⟨by omega, by have := s[k].toNat_lt; omega⟩
      go_wp2_with (first | (go_at_call 131; refine (letter_any _ _).mono ?_; rintro e w' ⟨rfl, rfl⟩) | (go_at_call 132; refine (digit_any _ _).mono ?_; rintro e w' ⟨rfl, rfl⟩))
      all_goals first
        | (go_round
           case rel => exact ⟨k + 1, by omega, by go_num, by rw [hsn.out, hok]; simp [okB, *] <;> (rename_i h; simp at h; omega)⟩
           case measure => simp [intOf]; omega)
        | (go_ret
           exact ⟨ret_bool (by rw [hn.out, allOk_false hlt (by simp [okB, *] <;> (rename_i h; simp at h; omega))]), rfl⟩)
    · obtain rfl : k = s.size := by omega
      go_wp2
      go_ret
      exact ⟨ret_bool (by rw [hn.out, hok]), rfl⟩

end Go.Proofs.YtaoimkjcaienbaaGreatDoor.nm

namespace Go.Proofs.YtaoimkjcaienbaaGreatDoor.wd
open Go.ChangeShapes Go.WideShapes Go.ChangeAt Go.RowKit Go.Deep
set_option linter.unusedVariables false

/-- What is put ahead of the content. -/
def pre (k n : ByteArray) : ByteArray := k ++ ⟨#[58]⟩ ++ n ++ ⟨#[58]⟩
def ints (s : ByteArray) : List Int := s.data.toList.map fun x => (x.toNat : Int)

theorem ints_at {s : ByteArray} {i : Nat} (h : i < s.size) : (ints s)[i]?.getD 0 = (s[i].toNat : Int) := by
  unfold ints
  rw [List.getElem?_map, List.getElem?_eq_getElem (by simpa using h)]
  rfl

theorem ints_len (s : ByteArray) : (ints s).length = s.size := by simp [ints]

theorem sumS_congr {l l' : List Int} (h : Int) : ∀ n, (∀ i, i < n → l[i]?.getD 0 = l'[i]?.getD 0) → sm.sumS l h n = sm.sumS l' h n := by
  intro n
  induction n with
  | zero => intro _; rfl
  | succ n ih =>
    intro hl
    simp only [sm.sumS, sm.stepS]
    rw [ih (fun i hi => hl i (by omega)), hl n (by omega)]

theorem sumS_add (l l2 : List Int) (h : Int) (z : Nat) (hz : l.length = z) : ∀ m, sm.sumS (l ++ l2) h (z + m) = sm.sumS l2 (sm.sumS l h z) m := by
  intro m
  induction m with
  | zero =>
    show sm.sumS (l ++ l2) h z = sm.sumS l h z
    exact sumS_congr h z (fun i hi => by rw [List.getElem?_append_left (by omega)])
  | succ m ih =>
    rw [← Nat.add_assoc]
    simp only [sm.sumS, sm.stepS]
    rw [ih, List.getElem?_append_right (by omega), show z + m - l.length = m by omega]

/-- The sum of what stands ahead and of the content. -/
def addrX (k n : ByteArray) (l : List Int) (m : Nat) : Int := sm.lastS (sm.sumS l (sm.sumS (ints (pre k n)) 14695981039346656037 (pre k n).size) m)
def addrA (k n : ByteArray) (l : List Int) (m : Nat) : ByteArray := wordA (addrX k n l m).toNat ++ ⟨#[45]⟩ ++ n

theorem addrX_wf (k n : ByteArray) (l : List Int) (m : Nat) : 0 ≤ addrX k n l m ∧ addrX k n l m ≤ 18446744073709551615 := by
  have h := wf_bits BinOp.xor .u64 (sm.turnS (sm.sumS l (sm.sumS (ints (pre k n)) 14695981039346656037 (pre k n).size) m) 3) (sm.turnS (sm.sumS l (sm.sumS (ints (pre k n)) 14695981039346656037 (pre k n).size) m) 3 / 4294967296)
  have e : addrX k n l m = bits BinOp.xor .u64 (sm.turnS (sm.sumS l (sm.sumS (ints (pre k n)) 14695981039346656037 (pre k n).size) m) 3) (sm.turnS (sm.sumS l (sm.sumS (ints (pre k n)) 14695981039346656037 (pre k n).size) m) 3 / 4294967296) := rfl
  rw [← e] at h
  simpa [Lit.wf, IntKind.min, IntKind.max, IntKind.signed, IntKind.bits] using h

theorem wspec {x : Int} (h : 0 ≤ x ∧ x ≤ 18446744073709551615) (w : World) :
    Calls Tryz.prog 121 #[.int .u64 x] w fun e w' => e = .returned (.string (wordA x.toNat)) ∧ Below w.heap.size w w' := by
  obtain ⟨X, rfl⟩ := Int.eq_ofNat_of_zero_le h.1
  exact spec_any X (by omega) w

theorem wimpl {x : Int} (h : 0 ≤ x ∧ x ≤ 18446744073709551615) (w : World) (hT : Tab w) :
    Calls Tryz.prog 12 #[.int .u64 x] w fun e w' => e = .returned (.string (wordA x.toNat)) ∧ Below w.heap.size w w' := by
  obtain ⟨X, rfl⟩ := Int.eq_ofNat_of_zero_le h.1
  exact impl_any X (by omega) w hT

theorem Bs_conv {w W1 : World} {cap : Nat} {S : ByteArray} (h : ConvRow w W1 cap S) : sm.Bs W1 (some ⟨w.heap.size, 0, none⟩) S.size (ints S) :=
  .inr ⟨w.heap.size, 0, rfl, fun i hi => by rw [Nat.zero_add, h.cells i hi, ints_at hi]⟩

theorem pre_size (k n : ByteArray) : (pre k n).size = k.size + 1 + n.size + 1 := by
  simp [pre, ByteArray.size_append]
  rfl

theorem laddr_any (k n : ByteArray) (hk : k.size ≤ 1048576) (hn : n.size ≤ 1048576) (b m c : Nat) (l : List Int) (hm : m ≤ 1048576) (w : World) (hb : b < w.heap.size) (hl : ∀ i, i < m → w.cell? ⟨b, i, none⟩ = some (.int .u8 (l[i]?.getD 0))) :
    Calls Tryz.prog 95 #[.string k, .string n, .slice (some ⟨b, 0, none⟩) m c] w fun e w' => e = .returned (.string (addrA k n l m)) ∧ Below w.heap.size w w' := by
  have hps := pre_size k n
  obtain ⟨z, cap, W1, hconv, hz, hC⟩ := conv_row (P := Tryz.prog) w 9 22 5 (pre k n) (by omega) Tryz.underlying9 Tryz.underlying22 Tryz.underlying5
  obtain ⟨g, cap2, W2, hrun, h1, h2, hB⟩ := conv_app hC (by omega) 22 5 Tryz.underlying22 info5 b m c l (by omega) hb hl
  rw [← hz] at hrun
  have hbs : Hid (sm.Bs W2 (some ⟨g, 0, none⟩) (z + m) (ints (pre k n) ++ l)) := by
    refine .inr ⟨g, 0, rfl, fun i hi => ?_⟩
    rw [Nat.zero_add]
    by_cases hi' : i < (pre k n).size
    · rw [h1 i hi', List.getElem?_append_left (by rw [ints_len]; exact hi'), ints_at hi']
    · obtain ⟨j, rfl⟩ : ∃ j, i = (pre k n).size + j := ⟨i - (pre k n).size, by omega⟩
      rw [h2 j (by omega), List.getElem?_append_right (by rw [ints_len]; omega), ints_len, show (pre k n).size + j - (pre k n).size = j by omega]
  have hX : Hid (sm.lastS (sm.sumS (ints (pre k n) ++ l) 14695981039346656037 (z + m)) = addrX k n l m) := by
    show _ = addrX k n l m
    rw [sumS_add _ _ _ z (by rw [ints_len, hz])]
    unfold addrX
    rw [hz]
  have hzb : z + m ≤ 1099511627776 := by omega
  have hsum : ∀ (c : Nat), Calls Tryz.prog 122 #[.slice (some ⟨g, 0, none⟩) (z + m) c] W2 fun e w' => e = .returned (.int .u64 (addrX k n l m)) ∧ w' = W2 := fun c =>
    (sm.spec_any _ (z + m) c _ W2 hbs.out hzb).mono fun e w' ⟨he, hw⟩ => ⟨he.trans (ret_int hX.out), hw⟩
  have HS : Hid (∀ (c : Nat), Calls Tryz.prog 122 #[.slice (some ⟨g, 0, none⟩) (z + m) c] W2 fun e w' => e = .returned (.int .u64 (addrX k n l m)) ∧ w' = W2) := hsum
  have HR : Hid (∀ ty, (Builtin.append_ #[22, 22] ty #[.slice (some ⟨w.heap.size, 0, none⟩) z cap, .slice (some ⟨b, 0, none⟩) m c]).run Tryz.prog W1 = .ok (.slice (some ⟨g, 0, none⟩) (z + m) cap2) W2) := hrun
  have hsz := hB.size
  have hW := addrX_wf k n l m
  have HW : Hid (0 ≤ addrX k n l m ∧ addrX k n l m ≤ 18446744073709551615) := hW
  have hws := wordA_size (addrX k n l m).toNat
  unfold pre at hconv
  clear hz hps h1 h2 hsum hrun hC hzb hW
  go_enter Tryz.func95, Tryz.ntmps95
  go_wp2_with (first
    | (at_builtin; refine app_any _ rfl _ _ 22 rfl _ _ rfl rfl _ _ HR.out ?_)
    | (go_at_call 122; refine (HS.out _).mono ?_; rintro e w' ⟨rfl, rfl⟩)
    | (go_at_call 121; refine (wspec HW.out _).mono ?_; rintro e w3 ⟨rfl, hl3⟩)
    | go_in)
  go_ret
  exact ⟨rfl, hB.trans (hl3.mono hsz)⟩

theorem nspec_h {s : ByteArray} (hs : Hid (s.size ≤ 1048576)) {b : Bool} (h : Hid (nm.nameB s = b)) (w : World) :
    Calls Tryz.prog 100 #[.string s] w fun e w' => e = .returned (.bool b) ∧ w' = w :=
  (nm.spec_any s hs.out w).mono fun e w' ⟨he, hw⟩ => ⟨he.trans (ret_bool h.out), hw⟩

theorem nimpl_h {s : ByteArray} (hs : Hid (s.size ≤ 1048576)) {b : Bool} (h : Hid (nm.nameB s = b)) (w : World) :
    Calls Tryz.prog 124 #[.string s] w fun e w' => e = .returned (.bool b) ∧ w' = w :=
  (nm.impl_any s hs.out w).mono fun e w' ⟨he, hw⟩ => ⟨he.trans (ret_bool h.out), hw⟩

/-- What Address answers. -/
def adrB (k n : ByteArray) (l : List Int) (m : Nat) : ByteArray := if (nm.nameB k && nm.nameB n) = true then addrA k n l m else ⟨#[]⟩

end Go.Proofs.YtaoimkjcaienbaaGreatDoor.wd

namespace Go.Proofs.YtaoimkjcaienbaaGreatDoor.wd
open Go.ChangeShapes Go.WideShapes Go.ChangeAt Go.RowKit Go.Deep Go.Maps
set_option linter.unusedVariables false

def LETC : Array Value := (LET.map fun b => Value.int .u8 (b.toNat : Int)).toArray

/-- The table's own block. -/
def TabB (w : World) : Prop := ∃ t fr, w.heap[0]? = some (.cells LETC t fr)

theorem TabB.below {w w' : World} (h : TabB w) (hb : Below w.heap.size w w') : TabB w' := by
  obtain ⟨t, fr, h⟩ := h
  exact ⟨t, fr, by rw [hb.block 0 (Array.getElem?_eq_some_iff.1 h).1]; exact h⟩

theorem idx0 (w : World) : (Instr.index 67 (.agg LETC) (.int .i64 0)).run Tryz.prog w = .ok (.int .u8 ((letU 0).toNat : Int)) w := by kernel_rfl
theorem idx1 (w : World) : (Instr.index 67 (.agg LETC) (.int .i64 1)).run Tryz.prog w = .ok (.int .u8 ((letU 1).toNat : Int)) w := by kernel_rfl
theorem idx2 (w : World) : (Instr.index 67 (.agg LETC) (.int .i64 2)).run Tryz.prog w = .ok (.int .u8 ((letU 2).toNat : Int)) w := by kernel_rfl
theorem idx3 (w : World) : (Instr.index 67 (.agg LETC) (.int .i64 3)).run Tryz.prog w = .ok (.int .u8 ((letU 3).toNat : Int)) w := by kernel_rfl
theorem idx4 (w : World) : (Instr.index 67 (.agg LETC) (.int .i64 4)).run Tryz.prog w = .ok (.int .u8 ((letU 4).toNat : Int)) w := by kernel_rfl
theorem idx5 (w : World) : (Instr.index 67 (.agg LETC) (.int .i64 5)).run Tryz.prog w = .ok (.int .u8 ((letU 5).toNat : Int)) w := by kernel_rfl
theorem idx6 (w : World) : (Instr.index 67 (.agg LETC) (.int .i64 6)).run Tryz.prog w = .ok (.int .u8 ((letU 6).toNat : Int)) w := by kernel_rfl
theorem idx7 (w : World) : (Instr.index 67 (.agg LETC) (.int .i64 7)).run Tryz.prog w = .ok (.int .u8 ((letU 7).toNat : Int)) w := by kernel_rfl
theorem idx8 (w : World) : (Instr.index 67 (.agg LETC) (.int .i64 8)).run Tryz.prog w = .ok (.int .u8 ((letU 8).toNat : Int)) w := by kernel_rfl
theorem idx9 (w : World) : (Instr.index 67 (.agg LETC) (.int .i64 9)).run Tryz.prog w = .ok (.int .u8 ((letU 9).toNat : Int)) w := by kernel_rfl
theorem idx10 (w : World) : (Instr.index 67 (.agg LETC) (.int .i64 10)).run Tryz.prog w = .ok (.int .u8 ((letU 10).toNat : Int)) w := by kernel_rfl
theorem idx11 (w : World) : (Instr.index 67 (.agg LETC) (.int .i64 11)).run Tryz.prog w = .ok (.int .u8 ((letU 11).toNat : Int)) w := by kernel_rfl
theorem idx12 (w : World) : (Instr.index 67 (.agg LETC) (.int .i64 12)).run Tryz.prog w = .ok (.int .u8 ((letU 12).toNat : Int)) w := by kernel_rfl
theorem idx13 (w : World) : (Instr.index 67 (.agg LETC) (.int .i64 13)).run Tryz.prog w = .ok (.int .u8 ((letU 13).toNat : Int)) w := by kernel_rfl
theorem idx14 (w : World) : (Instr.index 67 (.agg LETC) (.int .i64 14)).run Tryz.prog w = .ok (.int .u8 ((letU 14).toNat : Int)) w := by kernel_rfl
theorem idx15 (w : World) : (Instr.index 67 (.agg LETC) (.int .i64 15)).run Tryz.prog w = .ok (.int .u8 ((letU 15).toNat : Int)) w := by kernel_rfl
theorem idx16 (w : World) : (Instr.index 67 (.agg LETC) (.int .i64 16)).run Tryz.prog w = .ok (.int .u8 ((letU 16).toNat : Int)) w := by kernel_rfl
theorem idx17 (w : World) : (Instr.index 67 (.agg LETC) (.int .i64 17)).run Tryz.prog w = .ok (.int .u8 ((letU 17).toNat : Int)) w := by kernel_rfl
theorem idx18 (w : World) : (Instr.index 67 (.agg LETC) (.int .i64 18)).run Tryz.prog w = .ok (.int .u8 ((letU 18).toNat : Int)) w := by kernel_rfl
theorem idx19 (w : World) : (Instr.index 67 (.agg LETC) (.int .i64 19)).run Tryz.prog w = .ok (.int .u8 ((letU 19).toNat : Int)) w := by kernel_rfl
theorem idx20 (w : World) : (Instr.index 67 (.agg LETC) (.int .i64 20)).run Tryz.prog w = .ok (.int .u8 ((letU 20).toNat : Int)) w := by kernel_rfl
theorem idx21 (w : World) : (Instr.index 67 (.agg LETC) (.int .i64 21)).run Tryz.prog w = .ok (.int .u8 ((letU 21).toNat : Int)) w := by kernel_rfl
theorem idx22 (w : World) : (Instr.index 67 (.agg LETC) (.int .i64 22)).run Tryz.prog w = .ok (.int .u8 ((letU 22).toNat : Int)) w := by kernel_rfl
theorem idx23 (w : World) : (Instr.index 67 (.agg LETC) (.int .i64 23)).run Tryz.prog w = .ok (.int .u8 ((letU 23).toNat : Int)) w := by kernel_rfl
theorem idx24 (w : World) : (Instr.index 67 (.agg LETC) (.int .i64 24)).run Tryz.prog w = .ok (.int .u8 ((letU 24).toNat : Int)) w := by kernel_rfl
theorem idx25 (w : World) : (Instr.index 67 (.agg LETC) (.int .i64 25)).run Tryz.prog w = .ok (.int .u8 ((letU 25).toNat : Int)) w := by kernel_rfl
theorem idx26 (w : World) : (Instr.index 67 (.agg LETC) (.int .i64 26)).run Tryz.prog w = .ok (.int .u8 ((letU 26).toNat : Int)) w := by kernel_rfl
theorem idx27 (w : World) : (Instr.index 67 (.agg LETC) (.int .i64 27)).run Tryz.prog w = .ok (.int .u8 ((letU 27).toNat : Int)) w := by kernel_rfl
theorem idx28 (w : World) : (Instr.index 67 (.agg LETC) (.int .i64 28)).run Tryz.prog w = .ok (.int .u8 ((letU 28).toNat : Int)) w := by kernel_rfl
theorem idx29 (w : World) : (Instr.index 67 (.agg LETC) (.int .i64 29)).run Tryz.prog w = .ok (.int .u8 ((letU 29).toNat : Int)) w := by kernel_rfl
theorem idx30 (w : World) : (Instr.index 67 (.agg LETC) (.int .i64 30)).run Tryz.prog w = .ok (.int .u8 ((letU 30).toNat : Int)) w := by kernel_rfl
theorem idx31 (w : World) : (Instr.index 67 (.agg LETC) (.int .i64 31)).run Tryz.prog w = .ok (.int .u8 ((letU 31).toNat : Int)) w := by kernel_rfl
theorem idx_at (k : Nat) (hk : k < 32) (w : World) : (Instr.index 67 (.agg LETC) (.int .i64 ((k : Nat) : Int))).run Tryz.prog w = .ok (.int .u8 ((letU k).toNat : Int)) w := by
  have h : k = 0 ∨ k = 1 ∨ k = 2 ∨ k = 3 ∨ k = 4 ∨ k = 5 ∨ k = 6 ∨ k = 7 ∨ k = 8 ∨ k = 9 ∨ k = 10 ∨ k = 11 ∨ k = 12 ∨ k = 13 ∨ k = 14 ∨ k = 15 ∨ k = 16 ∨ k = 17 ∨ k = 18 ∨ k = 19 ∨ k = 20 ∨ k = 21 ∨ k = 22 ∨ k = 23 ∨ k = 24 ∨ k = 25 ∨ k = 26 ∨ k = 27 ∨ k = 28 ∨ k = 29 ∨ k = 30 ∨ k = 31 := by omega
  rcases h with rfl | rfl | rfl | rfl | rfl | rfl | rfl | rfl | rfl | rfl | rfl | rfl | rfl | rfl | rfl | rfl | rfl | rfl | rfl | rfl | rfl | rfl | rfl | rfl | rfl | rfl | rfl | rfl | rfl | rfl | rfl | rfl
  · exact idx0 w
  · exact idx1 w
  · exact idx2 w
  · exact idx3 w
  · exact idx4 w
  · exact idx5 w
  · exact idx6 w
  · exact idx7 w
  · exact idx8 w
  · exact idx9 w
  · exact idx10 w
  · exact idx11 w
  · exact idx12 w
  · exact idx13 w
  · exact idx14 w
  · exact idx15 w
  · exact idx16 w
  · exact idx17 w
  · exact idx18 w
  · exact idx19 w
  · exact idx20 w
  · exact idx21 w
  · exact idx22 w
  · exact idx23 w
  · exact idx24 w
  · exact idx25 w
  · exact idx26 w
  · exact idx27 w
  · exact idx28 w
  · exact idx29 w
  · exact idx30 w
  · exact idx31 w

theorem law5 : Keyed Tryz.prog 5 := int_keyed Tryz.underlying5
theorem zero22 (w : World) : (zeroValue 36).run Tryz.prog w = .ok (.int .u64 0) w := by kernel_rfl
theorem mk37 (w : World) : (Instr.makeMap 126 (some (.int .i64 32))).run Tryz.prog w = .ok (.map (some w.heap.size)) (w.alloc (.map #[] 0)) := by kernel_rfl

def lit8 (c : UInt8) : Lit := .int .u8 (c.toNat : Int)
def lvD : Nat → DataW Unit
  | 0 => .map []
  | k + 1 => (lvD k).put (lit8 (letU k)) (.lit (.int .u64 (k : Int)))

theorem wf8 (c : UInt8) : (Lit.int .u8 (c.toNat : Int)).wf = true := by
  have := c.toNat_lt
  simp [Lit.wf, IntKind.min, IntKind.max, IntKind.signed, IntKind.bits]; omega

set_option maxRecDepth 100000 in
theorem lv_any (w : World) (hT : TabB w) :
    Calls Tryz.prog 97 #[] w fun e w' => e = .returned (.map (some w.heap.size)) ∧ w'.ownsMap Tryz.prog 5 (plainElem Tryz.prog 36) w.heap.size 32 (lvD 32) ∧ Below w.heap.size w w' := by
  have hmk := mk37
  have hbel0 : Below w.heap.size w (w.alloc (.map #[] 0)) := (Below.refl _ _).alloc (Nat.le_refl _) _
  obtain ⟨tt, fr, hg1⟩ := hT.below hbel0
  go_enter Tryz.func97, Tryz.ntmps97
  go_wp2_with (refine wpList_load_row rfl 67 _ rfl 0 rfl tt LETC fr _ hg1 Tryz.underlying67 rfl (by kernel_rfl) ?_)
  clear hmk hg1
  go_loopw [2, 3, 6] (fun _ _ i wr => ∃ k : Nat, k ≤ 32 ∧ i = .int .i64 k ∧ wr.ownsMap Tryz.prog 5 (plainElem Tryz.prog 36) w.heap.size k (lvD k) ∧ Below w.heap.size w wr) (fun _ _ i _ => 32 - (intOf i).toNat)
  case atStart => exact ⟨0, by omega, rfl, World.ownsMap_made _ _ _ _, hbel0⟩
  case round =>
    obtain ⟨k, hk, rfl, hown, hbel⟩ := hrel
    by_cases hlt : k < 32
    · have hix := idx_at k hlt
      have hkey : keyOf Tryz.prog 5 (.int .u8 ((letU k).toNat : Int)) = some (lit8 (letU k)) := keyOf_int_mk Tryz.underlying5 (wf8 _)
      have hwf : (Lit.int .u64 (k : Int)).wf = true := by simp [Lit.wf, IntKind.min, IntKind.max, IntKind.signed, IntKind.bits]; omega
      go_wp2_with (first
        | (at_mapUpdate; refine wpList_mapUpdate_own _ rfl _ _ _ 126 rfl 5 36 law5 Tryz.underlying126 _ w.heap.size k _ rfl hown (by unfold maxLen; omega) _ _ _ rfl rfl hkey _ [] (plainElem_int Tryz.underlying36 hwf) ?_)
        | go_in)
      intro w1 hown1 hg1
      go_wp2
      go_roundw
      case rel => exact ⟨k + 1, by omega, by go_num, hown1, hbel.grown hg1 hbel.size (fun j hj => by cases hj; exact Nat.le_refl _)⟩
      case measure => simp [intOf]; omega
    · obtain rfl : k = 32 := by omega
      go_wp2
      go_ret
      exact ⟨rfl, hown, hbel⟩

end Go.Proofs.YtaoimkjcaienbaaGreatDoor.wd

namespace Go.Proofs.YtaoimkjcaienbaaGreatDoor.wd
open Go.ChangeShapes Go.WideShapes Go.ChangeAt Go.RowKit Go.Deep Go.Maps
set_option linter.unusedVariables false
set_option maxRecDepth 100000

def idxTo (c : UInt8) (k : Nat) : Option Nat := (List.range k).find? fun j => letU j == c
def idxI (c : UInt8) : Int := match idxTo c 32 with | some j => (j : Int) | none => -1

theorem idxTo_succ (c : UInt8) (k : Nat) : idxTo c (k + 1) = match idxTo c k with | some j => some j | none => if letU k == c then some k else none := by
  unfold idxTo
  rw [List.range_succ, List.find?_append]
  cases (List.range k).find? fun j => letU j == c with
  | some j => rfl
  | none => simp [List.find?_cons]; split <;> simp_all

theorem idxTo_lt {c : UInt8} {k j : Nat} (h : idxTo c k = some j) : j < k := by
  have := List.mem_of_find?_eq_some h
  simpa using this

theorem idxTo_none {c : UInt8} {k : Nat} (h : idxTo c k = none) (j : Nat) (hj : j < k) : ¬ letU j = c := by
  have := List.find?_eq_none.1 h j (by simpa using hj)
  simpa using this

theorem letU_ne : ∀ i, i < 32 → ∀ j, j < 32 → letU i = letU j → i = j := by decide

theorem idxTo_some {c : UInt8} {k j : Nat} (h : idxTo c k = some j) : letU j = c := by
  have := List.find?_some h
  simpa using this

theorem idxTo_grow {c : UInt8} {k j : Nat} (hk : k < 32) (h : idxTo c (k + 1) = some j) : idxTo c 32 = some j := by
  have : ∀ n, k + 1 + n ≤ 32 → idxTo c (k + 1 + n) = some j := by
    intro n
    induction n with
    | zero => intro _; exact h
    | succ n ih => intro hn; rw [← Nat.add_assoc, idxTo_succ, ih (by omega)]
  have := this (31 - k) (by omega)
  rwa [show k + 1 + (31 - k) = 32 by omega] at this

theorem index_any (c : UInt8) (w : World) :
    Calls Tryz.prog 130 #[.int .u8 (c.toNat : Int)] w fun e w' => e = .returned (.int .i64 (idxI c)) ∧ w' = w := by
  go_enter Tryz.func130, Tryz.ntmps130
  go_wp2
  go_loop [3] (fun i => ∃ k : Nat, k ≤ 32 ∧ i = .int .i64 k ∧ idxTo c k = none) (fun i => 32 - (intOf i).toNat)
  case atStart => exact ⟨0, by omega, rfl, rfl⟩
  case round =>
    obtain ⟨k, hk, rfl, hno⟩ := hrel
    by_cases hlt : k < 32
    · have hidx := let_at k hlt
      have hs : Hid (idxTo c (k + 1) = if letU k == c then some k else none) := by
        show idxTo c (k + 1) = _
        rw [idxTo_succ, hno]
      by_cases he : letU k = c
      · have hF : Hid (idxI c = (k : Int)) := by
          show idxI c = _
          have := idxTo_grow hlt (by rw [hs.out, if_pos (by simpa using he)])
          simp [idxI, this]
        have he' : (((letU k).toNat : Int) == (c.toNat : Int)) = true := by rw [he]; simp
        go_wp2
        go_ret
        exact ⟨ret_int hF.out.symm, rfl⟩
      · have he' : (((letU k).toNat : Int) == (c.toNat : Int)) = false := by
          rw [beq_eq_false_iff_ne]
          intro h
          exact he (UInt8.toNat_inj.1 (by omega))
        go_wp2
        go_round
        case rel => exact ⟨k + 1, by omega, by go_num, by rw [hs.out, if_neg (by simpa using he)]⟩
        case measure => simp [intOf]; omega
    · obtain rfl : k = 32 := by omega
      go_wp2
      go_ret
      exact ⟨ret_int (by simp [idxI, hno]), rfl⟩

/-- What the map of letters holds. -/
theorem key8 (c : UInt8) : WideAt.IsKeyLit (lit8 c) := trivial

theorem lvD_map (k : Nat) : IsMap (lvD k) := by
  induction k with
  | zero => exact isMap_empty
  | succ k ih => exact ih.put _ _

theorem lit8_inj {a b : UInt8} (h : lit8 a = lit8 b) : a = b := by
  simp only [lit8, Lit.int.injEq, true_and] at h
  exact UInt8.toNat_inj.1 (by omega)

theorem lvD_at (c : UInt8) : ∀ k, k ≤ 32 → has (lvD k) (lit8 c) = (idxTo c k).isSome ∧ (lvD k).atKey (lit8 c) (.lit (.int .u64 0)) = .lit (.int .u64 (((idxTo c k).getD 0 : Nat) : Int)) := by
  intro k
  induction k with
  | zero => intro _; exact ⟨rfl, rfl⟩
  | succ k ih =>
    intro hk
    obtain ⟨h1, h2⟩ := ih (by omega)
    by_cases he : letU k = c
    · have hn : idxTo c k = none := by
        cases h : idxTo c k with
        | none => rfl
        | some j =>
          have := letU_ne j (by have := idxTo_lt h; omega) k (by omega) ((idxTo_some h).trans he.symm)
          have := idxTo_lt h
          omega
      have hs : idxTo c (k + 1) = some k := by rw [idxTo_succ, hn]; simp [he]
      subst he
      rw [hs]
      exact ⟨has_put_same (lvD_map k) (key8 _) _, atKey_put_same (lvD_map k) (key8 _) _ _⟩
    · have hne : lit8 c ≠ lit8 (letU k) := fun h => he (lit8_inj h).symm
      have hs : idxTo c (k + 1) = idxTo c k := by
        rw [idxTo_succ]
        cases h : idxTo c k with
        | none => simp [he]
        | some j => rfl
      rw [hs]
      exact ⟨(has_put_other hne _).trans h1, (atKey_put_other hne _ _).trans h2⟩

/-- What is read of the first k letters. -/
def rdTo (s : ByteArray) : Nat → Option Nat
  | 0 => some 0
  | k + 1 => match rdTo s k, idxTo (s.data.toList[k]?.getD 0) 32 with
    | some x, some v => if k = 0 ∧ 15 < v then none else some (x * 32 + v)
    | _, _ => none

theorem rd_bd (s : ByteArray) : ∀ k x, rdTo s (k + 1) = some x → 2 * x + 2 ≤ 32 ^ (k + 1) := by
  intro k
  induction k with
  | zero =>
    intro x h
    simp only [rdTo] at h
    split at h
    · rename_i y v h1 h2
      have := idxTo_lt h2
      split at h
      · cases h
      · rename_i hn; simp at hn; cases h; cases h1; omega
    · cases h
  | succ k ih =>
    intro x h
    unfold rdTo at h
    split at h
    · rename_i y v h1 h2
      have := idxTo_lt h2
      have := ih y h1
      split at h
      · cases h
      · cases h
        rw [Nat.pow_succ]
        omega
    · cases h

theorem rd_lt {s : ByteArray} {k x : Nat} (hk : k ≤ 12) (h : rdTo s k = some x) : x < 576460752303423488 := by
  match k, hk, h with
  | 0, _, h => cases h; omega
  | k + 1, hk, h =>
    have h1 := rd_bd s k x h
    have h2 : 32 ^ (k + 1) ≤ 32 ^ 12 := Nat.pow_le_pow_right (by omega) hk
    omega

theorem rd_none {s : ByteArray} {k : Nat} (h : rdTo s k = none) (n : Nat) : rdTo s (k + n) = none := by
  induction n with
  | zero => exact h
  | succ n ih => rw [← Nat.add_assoc]; unfold rdTo; rw [ih]

theorem rd_stop {s : ByteArray} {k : Nat} (hk : k < 13) (h : rdTo s (k + 1) = none) : rdTo s 13 = none := by
  have := rd_none h (12 - k)
  rwa [show k + 1 + (12 - k) = 13 by omega] at this

/-- The two answers of ReadWord32. -/
def rwX (s : ByteArray) : Int := if s.size = 13 then (((rdTo s 13).getD 0 : Nat) : Int) else 0
def rwB (s : ByteArray) : Bool := decide (s.size = 13) && (rdTo s 13).isSome

theorem get_at {s : ByteArray} {k : Nat} (h : k < s.size) : s.data.toList[k]?.getD 0 = s[k] := by
  rw [List.getElem?_eq_getElem (by simpa using h)]; rfl

theorem rd_step {s : ByteArray} {k x : Nat} (hk : k < s.size) (hx : rdTo s k = some x) : rdTo s (k + 1) = match idxTo s[k] 32 with | some v => if k = 0 ∧ 15 < v then none else some (x * 32 + v) | none => none := by
  have e := get_at hk
  unfold rdTo
  rw [hx, e]
  cases idxTo s[k] 32 <;> rfl

theorem ret_two {k : IntKind} {a b : Int} {c d : Bool} (h : a = b) (h2 : c = d) : Ending.returned (.tuple #[.int k a, .bool c]) = .returned (.tuple #[.int k b, .bool d]) := by rw [h, h2]

theorem index_none {c : UInt8} (h : Hid (idxTo c 32 = none)) (w : World) :
    Calls Tryz.prog 130 #[.int .u8 (c.toNat : Int)] w fun e w' => e = .returned (.int .i64 (-1)) ∧ w' = w :=
  (index_any c w).mono fun e w' ⟨he, hw⟩ => ⟨he.trans (ret_int (by simp [idxI, h.out])), hw⟩

theorem index_some {c : UInt8} {v : Nat} (h : Hid (idxTo c 32 = some v)) (w : World) :
    Calls Tryz.prog 130 #[.int .u8 (c.toNat : Int)] w fun e w' => e = .returned (.int .i64 (v : Int)) ∧ w' = w :=
  (index_any c w).mono fun e w' ⟨he, hw⟩ => ⟨he.trans (ret_int (by simp [idxI, h.out])), hw⟩

theorem rw_no {s : ByteArray} {k : Nat} (hz : s.size = 13) (hk : k < 13) (h : rdTo s (k + 1) = none) :
    Ending.returned (.tuple #[.int .u64 (rwX s), .bool (rwB s)]) = .returned (.tuple #[.int .u64 0, .bool false]) := by
  have := rd_stop hk h
  exact ret_two (by simp [rwX, this]) (by simp [rwB, this])

theorem mix_add {x v : Nat} (h : x < 576460752303423488) (hv : v < 32) : IntKind.u64.wrap (IntKind.u64.wrap ((x : Int) * 32) + (v : Int)) = ((x * 32 + v : Nat) : Int) := by
  rw [IntKind.wrap_u64, IntKind.wrap_u64]
  omega

theorem mix_or {x v : Nat} (h : x < 576460752303423488) (hv : v < 32) : bits BinOp.or IntKind.u64 (IntKind.u64.wrap ((x : Int) * 32)) (v : Int) = ((x * 32 + v : Nat) : Int) := by
  have e : IntKind.u64.wrap ((x : Int) * 32) = ((32 * x : Nat) : Int) := by rw [IntKind.wrap_u64]; omega
  rw [e, bits_or_u64_nat (32 * x) v (by omega) (by omega)]
  have := Nat.two_pow_add_eq_or_of_lt (i := 5) hv x
  rw [show (2 : Nat) ^ 5 = 32 from rfl] at this
  rw [← this, Nat.mul_comm]

theorem rspec_any (s : ByteArray) (hs : s.size ≤ 1048576) (w : World) :
    Calls Tryz.prog 99 #[.string s] w fun e w' => e = .returned (.tuple #[.int .u64 (rwX s), .bool (rwB s)]) ∧ w' = w := by
  by_cases hz : s.size = 13
  · have hz' : ((s.size : Int) == 13) = true := by rw [hz]; rfl
    have hzi : (s.size : Int) = 13 := by omega
    go_enter Tryz.func99, Tryz.ntmps99
    go_wp2
    go_loop [4, 5, 6] (fun y i _ => ∃ k x : Nat, k ≤ 13 ∧ i = .int .i64 k ∧ y = .int .u64 (x : Int) ∧ rdTo s k = some x) (fun _ i _ => 13 - (intOf i).toNat)
    case atStart => exact ⟨0, 0, by omega, rfl, rfl, rfl⟩
    case round =>
      obtain ⟨k, x, hk, rfl, rfl, hrd⟩ := hrel
      by_cases hlt : k < 13
      · have hks : k < s.size := by omega
        have hst : Hid (rdTo s (k + 1) = match idxTo s[k] 32 with | some v => if k = 0 ∧ 15 < v then none else some (x * 32 + v) | none => none) := rd_step hks hrd
        have hxb : Hid (x < 576460752303423488) := rd_lt (by omega : k ≤ 12) hrd
        have hki : (k : Int) < (s.size : Int) := by omega
        have HR : Hid (rdTo s k = some x) := hrd
        have HZ : Hid (s.size = 13) := hz
        clear hz hz' hzi hrd
        cases hi : idxTo s[k] 32 with
        | none =>
          have HI : Hid (idxTo s[k] 32 = none) := hi
          clear hi
          go_wp2_with (go_at_call 130; refine (index_none HI _).mono ?_; rintro e w' ⟨rfl, rfl⟩)
          go_ret2
          exact ⟨(rw_no HZ.out hlt (by rw [hst.out, HI.out])).symm, rfl⟩
        | some v =>
          have HI : Hid (idxTo s[k] 32 = some v) := hi
          have hv : v < 32 := idxTo_lt hi
          clear hi
          by_cases hc : k = 0 ∧ 15 < v
          · obtain ⟨rfl, hc⟩ := hc
            go_wp2_with (go_at_call 130; refine (index_some HI _).mono ?_; rintro e w' ⟨rfl, rfl⟩)
            go_ret2
            exact ⟨(rw_no HZ.out hlt (by rw [hst.out, HI.out]; simp [hc])).symm, rfl⟩
          · have hnx : Hid (rdTo s (k + 1) = some (x * 32 + v)) := by
              show rdTo s (k + 1) = _
              rw [hst.out, HI.out]
              simp only [if_neg hc]
            by_cases hk0 : k = 0
            · have hv15 : v ≤ 15 := by omega
              subst hk0
              go_wp2_with (go_at_call 130; refine (index_some HI _).mono ?_; rintro e w' ⟨rfl, rfl⟩)
              go_round
              case rel => exact ⟨0 + 1, x * 32 + v, by omega, by go_num, by rw [mix_add hxb.out hv], hnx.out⟩
              case measure => simp [intOf]
            · have hk0' : ((k : Int) == 0) = false := by simp; omega
              go_wp2_with (go_at_call 130; refine (index_some HI _).mono ?_; rintro e w' ⟨rfl, rfl⟩)
              go_round
              case rel => exact ⟨k + 1, x * 32 + v, by omega, by go_num, by rw [mix_add hxb.out hv], hnx.out⟩
              case measure => simp [intOf]; omega
      · obtain rfl : k = 13 := by omega
        go_wp2
        go_ret2
        exact ⟨ret_two (by simp [rwX, hz, hrd]) (by simp [rwB, hz, hrd]), rfl⟩
  · have hz' : ((s.size : Int) == 13) = false := by simp; omega
    go_enter Tryz.func99, Tryz.ntmps99
    go_wp2
    go_ret2
    exact ⟨ret_two (by simp [rwX, hz]) (by simp [rwB, hz]), rfl⟩

theorem lv_c {c : UInt8} {z : Int} {v : Nat} (h : idxTo c 32 = some v) (hat : (lvD 32).atKey (lit8 c) (.lit (.int .u64 0)) = .lit (.int .u64 z)) : z = (v : Int) := by
  have := (lvD_at c 32 (Nat.le_refl _)).2
  rw [hat, h] at this
  simpa using this

theorem lv_has {c : UInt8} {v : Nat} (h : idxTo c 32 = some v) : Maps.has (lvD 32) (lit8 c) = true := by
  rw [(lvD_at c 32 (Nat.le_refl _)).1, h]; rfl

theorem lv_hasnt {c : UInt8} (h : idxTo c 32 = none) : Maps.has (lvD 32) (lit8 c) = false := by
  rw [(lvD_at c 32 (Nat.le_refl _)).1, h]; rfl

theorem rword_any (s : ByteArray) (hs : s.size ≤ 1048576) (mb : Nat) (w : World) (hown : w.ownsMap Tryz.prog 5 (plainElem Tryz.prog 36) mb 32 (lvD 32)) :
    Calls Tryz.prog 123 #[.string s, .map (some mb)] w fun e w' => e = .returned (.tuple #[.int .u64 (rwX s), .bool (rwB s)]) ∧ w' = w := by
  by_cases hz : s.size = 13
  · have hz' : ((s.size : Int) == 13) = true := by rw [hz]; rfl
    have hzi : (s.size : Int) = 13 := by omega
    go_enter Tryz.func123, Tryz.ntmps123
    go_wp2
    go_loop [6, 7, 8, 9, 13] (fun y _ _ _ i => ∃ k x : Nat, k ≤ 13 ∧ i = .int .i64 k ∧ y = .int .u64 (x : Int) ∧ rdTo s k = some x) (fun _ _ _ _ i => 13 - (intOf i).toNat)
    case atStart => exact ⟨0, 0, by omega, rfl, rfl, rfl⟩
    case round =>
      obtain ⟨k, x, hk, rfl, rfl, hrd⟩ := hrel
      by_cases hlt : k < 13
      · have hks : k < s.size := by omega
        have hst : Hid (rdTo s (k + 1) = match idxTo s[k] 32 with | some v => if k = 0 ∧ 15 < v then none else some (x * 32 + v) | none => none) := rd_step hks hrd
        have hxb : Hid (x < 576460752303423488) := rd_lt (by omega : k ≤ 12) hrd
        have hki : (k : Int) < (s.size : Int) := by omega
        have HR : Hid (rdTo s k = some x) := hrd
        have HZ : Hid (s.size = 13) := hz
        have hkey : keyOf Tryz.prog 5 (.int .u8 (s[k].toNat : Int)) = some (lit8 s[k]) := keyOf_int_mk Tryz.underlying5 (wf8 _)
        clear hz hz' hzi hrd
        cases hi : idxTo s[k] 32 with
        | none =>
          have HI : Hid (idxTo s[k] 32 = none) := hi
          have hh := lv_hasnt hi
          clear hi
          go_wp2_with (first
            | (at_lookup; refine wpList_lookup_own_ok_int _ rfl _ _ 126 rfl 5 36 .u64 law5 Tryz.underlying126 Tryz.underlying36 (zero22 _) mb 32 (lvD 32) rfl hown _ _ rfl hkey ?_; intro c hat hwc; clear hat hwc)
            | go_in)
          go_ret2
          exact ⟨(rw_no HZ.out hlt (by rw [hst.out, HI.out])).symm, rfl⟩
        | some v =>
          have HI : Hid (idxTo s[k] 32 = some v) := hi
          have hv : v < 32 := idxTo_lt hi
          have hh := lv_has hi
          have hC : Hid (∀ z, (lvD 32).atKey (lit8 s[k]) (.lit (.int .u64 0)) = .lit (.int .u64 z) → z = (v : Int)) := fun z h => lv_c hi h
          clear hi
          by_cases hc : k = 0 ∧ 15 < v
          · obtain ⟨rfl, hc⟩ := hc
            go_wp2_with (first
              | (at_lookup; refine wpList_lookup_own_ok_int _ rfl _ _ 126 rfl 5 36 .u64 law5 Tryz.underlying126 Tryz.underlying36 (zero22 _) mb 32 (lvD 32) rfl hown _ _ rfl hkey ?_; intro c hat hwc; obtain rfl := hC.out c hat; clear hat hwc)
              | go_in)
            go_ret2
            exact ⟨(rw_no HZ.out hlt (by rw [hst.out, HI.out]; simp [hc])).symm, rfl⟩
          · have hnx : Hid (rdTo s (k + 1) = some (x * 32 + v)) := by
              show rdTo s (k + 1) = _
              rw [hst.out, HI.out]
              simp only [if_neg hc]
            by_cases hk0 : k = 0
            · have hv15 : v ≤ 15 := by omega
              subst hk0
              go_wp2_with (first
                | (at_lookup; refine wpList_lookup_own_ok_int _ rfl _ _ 126 rfl 5 36 .u64 law5 Tryz.underlying126 Tryz.underlying36 (zero22 _) mb 32 (lvD 32) rfl hown _ _ rfl hkey ?_; intro c hat hwc; obtain rfl := hC.out c hat; clear hat hwc)
                | go_in)
              go_round
              case rel => exact ⟨0 + 1, x * 32 + v, by omega, by go_num, by rw [mix_or hxb.out hv], hnx.out⟩
              case measure => simp [intOf]
            · have hk0' : ((k : Int) == 0) = false := by simp; omega
              go_wp2_with (first
                | (at_lookup; refine wpList_lookup_own_ok_int _ rfl _ _ 126 rfl 5 36 .u64 law5 Tryz.underlying126 Tryz.underlying36 (zero22 _) mb 32 (lvD 32) rfl hown _ _ rfl hkey ?_; intro c hat hwc; obtain rfl := hC.out c hat; clear hat hwc)
                | go_in)
              go_round
              case rel => exact ⟨k + 1, x * 32 + v, by omega, by go_num, by rw [mix_or hxb.out hv], hnx.out⟩
              case measure => simp [intOf]; omega
      · obtain rfl : k = 13 := by omega
        go_wp2
        go_ret2
        exact ⟨ret_two (by simp [rwX, hz, hrd]) (by simp [rwB, hz, hrd]), rfl⟩
  · have hz' : ((s.size : Int) == 13) = false := by simp; omega
    go_enter Tryz.func123, Tryz.ntmps123
    go_wp2
    go_ret2
    exact ⟨ret_two (by simp [rwX, hz]) (by simp [rwB, hz]), rfl⟩

end Go.Proofs.YtaoimkjcaienbaaGreatDoor.wd

namespace Go.Proofs.YtaoimkjcaienbaaGreatDoor.wd
open Go.ChangeShapes Go.WideShapes Go.ChangeAt Go.RowKit Go.Deep Go.Maps
set_option linter.unusedVariables false
set_option maxRecDepth 100000

def aokB (s : ByteArray) : Bool := decide (15 ≤ s.size) && ((((s.data.toList[13]?.getD 0).toNat : Int) == 45) && (rwB (s.extract 0 13) && nm.nameB (s.extract 14 s.size)))

theorem rspec_b {s : ByteArray} (hs : Hid (s.size ≤ 1048576)) {b : Bool} (h : Hid (rwB s = b)) (w : World) :
    Calls Tryz.prog 99 #[.string s] w fun e w' => ∃ x, e = .returned (.tuple #[.int .u64 x, .bool b]) ∧ w' = w :=
  (rspec_any s hs.out w).mono fun e w' ⟨he, hw⟩ => ⟨_, he.trans (ret_two rfl h.out), hw⟩

theorem rword_b {s : ByteArray} (hs : Hid (s.size ≤ 1048576)) {b : Bool} (h : Hid (rwB s = b)) {mb : Nat} {w : World} (hown : w.ownsMap Tryz.prog 5 (plainElem Tryz.prog 36) mb 32 (lvD 32)) :
    Calls Tryz.prog 123 #[.string s, .map (some mb)] w fun e w' => ∃ x, e = .returned (.tuple #[.int .u64 x, .bool b]) ∧ w' = w :=
  (rword_any s hs.out mb w hown).mono fun e w' ⟨he, hw⟩ => ⟨_, he.trans (ret_two rfl h.out), hw⟩

theorem nspec_b {s : ByteArray} (hs : Hid (s.size ≤ 1048576)) {b : Bool} (h : Hid (nm.nameB s = b)) (w : World) :
    Calls Tryz.prog 100 #[.string s] w fun e w' => e = .returned (.bool b) ∧ w' = w :=
  (nm.spec_any s hs.out w).mono fun e w' ⟨he, hw⟩ => ⟨he.trans (ret_bool h.out), hw⟩

theorem nimpl_b {s : ByteArray} (hs : Hid (s.size ≤ 1048576)) {b : Bool} (h : Hid (nm.nameB s = b)) (w : World) :
    Calls Tryz.prog 124 #[.string s] w fun e w' => e = .returned (.bool b) ∧ w' = w :=
  (nm.impl_any s hs.out w).mono fun e w' ⟨he, hw⟩ => ⟨he.trans (ret_bool h.out), hw⟩

theorem aspec_any (s : ByteArray) (hs : s.size ≤ 1048576) (w : World) :
    Calls Tryz.prog 66 #[.string s] w fun e w' => e = .returned (.bool (aokB s)) ∧ w' = w := by
  by_cases h1 : s.size < 15
  · go_enter Tryz.func66, Tryz.ntmps66
    go_wp2
    go_ret
    exact ⟨ret_bool (by simp [aokB]; omega), rfl⟩
  have h13 : 13 < s.size := by omega
  have i1 : (13 : Int) < (s.size : Int) := by omega
  have HG : Hid (s.data.toList[13]?.getD 0 = s[13]) := get_at h13
  by_cases h2 : ((s[13].toNat : Int) == 45) = true
  · have hA : Hid (aokB s = (rwB (s.extract 0 13) && nm.nameB (s.extract 14 s.size))) := by
      show aokB s = _
      unfold aokB
      rw [HG.out, h2]
      simp
      omega
    have hz : Hid ((s.extract 0 13).size ≤ 1048576) := by show _ ≤ _; simp; omega
    have hz2 : Hid ((s.extract 14 s.size).size ≤ 1048576) := by show _ ≤ _; simp; omega
    have hne : ((s[13].toNat : Int) != 45) = false := by simpa using h2
    clear h2
    obtain ⟨b, HB⟩ : ∃ b, Hid (rwB (s.extract 0 13) = b) := ⟨_, rfl⟩
    obtain ⟨c, HC⟩ : ∃ c, Hid (nm.nameB (s.extract 14 s.size) = c) := ⟨_, rfl⟩
    have hA' : Hid (aokB s = (b && c)) := by
      show aokB s = _
      rw [hA.out, HB.out, HC.out]
    have i2 : ¬ (s.size : Int) < 15 := by omega
    clear hA HG h1 i1
    have i1 : (13 : Int) < (s.size : Int) := by omega

    cases b
    · go_enter Tryz.func66, Tryz.ntmps66
      go_wp2_with (go_at_call 99; refine (rspec_b hz HB _).mono ?_; rintro e w' ⟨x, rfl, rfl⟩)
      go_ret
      exact ⟨ret_bool hA'.out.symm, rfl⟩
    · go_enter Tryz.func66, Tryz.ntmps66
      go_wp2_with (first
        | (go_at_call 99; refine (rspec_b hz HB _).mono ?_; rintro e w' ⟨x, rfl, rfl⟩)
        | (go_at_call 100; refine (nspec_b hz2 HC _).mono ?_; rintro e w' ⟨rfl, rfl⟩))
      go_ret
      exact ⟨ret_bool (by rw [hA'.out]; rfl), rfl⟩
  · have h2' : ((s[13].toNat : Int) == 45) = false := by simpa using h2
    have hA : Hid (aokB s = false) := by
      show aokB s = _
      unfold aokB
      rw [HG.out, h2']
      simp
    have hne : ((s[13].toNat : Int) != 45) = true := by simpa using h2
    clear h2 h2'
    go_enter Tryz.func66, Tryz.ntmps66
    go_wp2
    go_ret
    exact ⟨ret_bool hA.out.symm, rfl⟩

theorem isadr_any (s : ByteArray) (hs : s.size ≤ 1048576) (mb : Nat) (w : World) (hown : w.ownsMap Tryz.prog 5 (plainElem Tryz.prog 36) mb 32 (lvD 32)) :
    Calls Tryz.prog 96 #[.string s, .map (some mb)] w fun e w' => e = .returned (.bool (aokB s)) ∧ w' = w := by
  by_cases h1 : s.size ≤ 13
  · go_enter Tryz.func96, Tryz.ntmps96
    go_wp2
    go_ret
    exact ⟨ret_bool (by simp [aokB]; omega), rfl⟩
  have h13 : 13 < s.size := by omega
  have i1 : (13 : Int) < (s.size : Int) := by omega
  have HG : Hid (s.data.toList[13]?.getD 0 = s[13]) := get_at h13
  by_cases h2 : ((s[13].toNat : Int) == 45) = true
  · have hA : Hid (aokB s = (rwB (s.extract 0 13) && nm.nameB (s.extract 14 s.size))) := by
      show aokB s = _
      unfold aokB
      rw [HG.out, h2]
      by_cases h15 : 15 ≤ s.size
      · simp [h15]
      · have : nm.nameB (s.extract 14 s.size) = false := by simp [nm.nameB]; omega
        simp [h15, this]
    have hz : Hid ((s.extract 0 13).size ≤ 1048576) := by show _ ≤ _; simp; omega
    have hz2 : Hid ((s.extract 14 s.size).size ≤ 1048576) := by show _ ≤ _; simp; omega
    have hne : ((s[13].toNat : Int) != 45) = false := by simpa using h2
    clear h2
    obtain ⟨b, HB⟩ : ∃ b, Hid (rwB (s.extract 0 13) = b) := ⟨_, rfl⟩
    obtain ⟨c, HC⟩ : ∃ c, Hid (nm.nameB (s.extract 14 s.size) = c) := ⟨_, rfl⟩
    have hA' : Hid (aokB s = (b && c)) := by
      show aokB s = _
      rw [hA.out, HB.out, HC.out]
    have i2 : ¬ (s.size : Int) ≤ 13 := by omega
    clear hA HG h1 i1
    have i1 : (13 : Int) < (s.size : Int) := by omega
    cases b
    · go_enter Tryz.func96, Tryz.ntmps96
      go_wp2_with (go_at_call 123; refine (rword_b hz HB hown).mono ?_; rintro e w1 ⟨x, rfl, rfl⟩)
      go_ret
      exact ⟨ret_bool hA'.out.symm, rfl⟩
    · go_enter Tryz.func96, Tryz.ntmps96
      go_wp2_with (first
        | (go_at_call 123; refine (rword_b hz HB hown).mono ?_; rintro e w1 ⟨x, rfl, rfl⟩)
        | (go_at_call 124; refine (nimpl_b hz2 HC _).mono ?_; rintro e w' ⟨rfl, rfl⟩))
      go_ret
      exact ⟨ret_bool (by rw [hA'.out]; rfl), rfl⟩
  · have h2' : ((s[13].toNat : Int) == 45) = false := by simpa using h2
    have hA : Hid (aokB s = false) := by
      show aokB s = _
      unfold aokB
      rw [HG.out, h2']
      simp
    have hne : ((s[13].toNat : Int) != 45) = true := by simpa using h2
    clear h2 h2'
    go_enter Tryz.func96, Tryz.ntmps96
    go_wp2
    go_ret
    exact ⟨ret_bool hA.out.symm, rfl⟩

theorem aimpl_any (s : ByteArray) (hs : s.size ≤ 1048576) (w : World) (hT : TabB w) :
    Calls Tryz.prog 64 #[.string s] w fun e w' => e = .returned (.bool (aokB s)) ∧ Below w.heap.size w w' := by
  go_enter Tryz.func64, Tryz.ntmps64
  go_wp2_with (first
    | (go_at_call 97; refine (lv_any _ hT).mono ?_; rintro e w1 ⟨rfl, hown, hbel⟩)
    | (go_at_call 96; refine (isadr_any s hs _ _ hown).mono ?_; rintro e w2 ⟨rfl, rfl⟩))
  go_ret
  exact ⟨rfl, hbel⟩

end Go.Proofs.YtaoimkjcaienbaaGreatDoor.wd
