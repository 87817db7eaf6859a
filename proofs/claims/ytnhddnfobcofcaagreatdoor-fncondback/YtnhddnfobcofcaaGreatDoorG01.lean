import Derived.WalkKit
import Derived.ProofKit
import Derived.OpenShut
import Derived.Below
import Derived.WalkSpells
import Derived.WalkSmall
import Derived.WalkLawsBesides
import Derived.Deep.OwnRows
import Derived.Lib.SlBytesRow
import Derived.Lib.BufferRead
import Derived.Laws.Bits64b
import Derived.Test.YtnhddnfobcofcaaGreatDoorRows
import Derived.Deep.QuietTactic
import Derived.BigQuiet
namespace Go.Proofs.YtnhddnfobcofcaaGreatDoor
open Go.ChangeShapes Go.WideShapes Go.ChangeAt Go.RowKit Go.Deep
set_option linter.unusedVariables false

theorem ret_bool {a b : Bool} (h : a = b) : Ending.returned (.bool a) = .returned (.bool b) := by rw [h]
theorem ret_int {k : IntKind} {a b : Int} (h : a = b) : Ending.returned (.int k a) = .returned (.int k b) := by rw [h]
theorem ret_str {a b : ByteArray} (h : a = b) : Ending.returned (.string a) = .returned (.string b) := by rw [h]

theorem addr_add (b off i : Nat) : (⟨b, off, none⟩ : Addr).add i = ⟨b, off + i, none⟩ := by
  unfold Addr.add
  by_cases h : i = 0 <;> simp [h]

/-- An append to a slice of the call's own, of one-cell elements, what is known of the element type being one closed fact. -/
theorem app_own {P : Program} (w : World) {ops : Array Oper} {rest : List Oper} {o : Oper} {a : Act} {Q : Exit → Act → World → Prop} (hgd : o.guard = none) (s x : Operand) (t : TypeId)
    (ho : o.op = .call { callee := .builtin .append, args := #[s, x], argTypes := #[t, t] })
    (base : Nat) (e : TypeId) (z : Value) (bytes : Nat) (ht : P.underlying t = some (.slice e)) (hinfo : (P.info? e).map (fun i => (i.zero, i.size, i.bytes)) = some (some z, 1, bytes)) (hzs : z.cells.size = 1)
    (v : Value) (n : Nat) (xs : List Value) (hs : a.eval s = v) (hown : w.ownsRow base e 1 v n xs)
    (ad : Addr) (m c : Nat) (news : List Value) (hx : a.eval x = .slice (some ad) m c) (hl : news.length = m) (hnews : ∀ j u, news[j]? = some u → w.cell? (ad.add j) = some u) (h1 : ∀ u ∈ news, u.oneCell' = true)
    (h63 : n + m ≤ maxLen) (hbytes : (n + m) * bytes ≤ 140737488355328) (hbase : base ≤ w.heap.size)
    (h : ∀ v' w', w'.ownsRow base e 1 v' (n + m) (xs ++ news) → w.grownBy w' v.ownBlock → wpList P ops Q rest (a.put o.dst v') w') : wpList P ops Q (o :: rest) a w := by
  obtain ⟨i, hi, hzz⟩ := Option.map_eq_some_iff.1 hinfo
  simp only [Prod.mk.injEq] at hzz
  obtain ⟨hz, hsz, hb⟩ := hzz
  exact wpList_append_own w hgd s x t ho base e i z 1 bytes ht hi hz hsz hb hzs (by decide) v n xs hs hown ad m c news hx (by simpa using hl) hnews h1 h63 hbytes hbase (fun v' w' a b _ => h v' w' a b)

/-- The same, of elements of several cells. -/
theorem app_ownS {P : Program} (w : World) {ops : Array Oper} {rest : List Oper} {o : Oper} {a : Act} {Q : Exit → Act → World → Prop} (hgd : o.guard = none) (s x : Operand) (t : TypeId)
    (ho : o.op = .call { callee := .builtin .append, args := #[s, x], argTypes := #[t, t] })
    (base : Nat) (e : TypeId) (z : Value) (size bytes : Nat) (ht : P.underlying t = some (.slice e)) (hinfo : (P.info? e).map (fun i => (i.zero, i.size, i.bytes)) = some (some z, size, bytes)) (hzs : z.cells.size = size) (hsz : 0 < size)
    (v : Value) (n : Nat) (xs : List Value) (hs : a.eval s = v) (hown : w.ownsRow base e size v n xs)
    (ad : Addr) (m c : Nat) (news : List Value) (hx : a.eval x = .slice (some ad) m c) (hl : news.length = m * size) (hnews : ∀ j u, news[j]? = some u → w.cell? (ad.add j) = some u) (h1 : ∀ u ∈ news, u.oneCell' = true)
    (h63 : n + m ≤ maxLen) (hbytes : (n + m) * bytes ≤ 140737488355328) (hbase : base ≤ w.heap.size)
    (h : ∀ v' w', w'.ownsRow base e size v' (n + m) (xs ++ news) → w.grownBy w' v.ownBlock → wpList P ops Q rest (a.put o.dst v') w') : wpList P ops Q (o :: rest) a w := by
  obtain ⟨i, hi, hzz⟩ := Option.map_eq_some_iff.1 hinfo
  simp only [Prod.mk.injEq] at hzz
  obtain ⟨hz, hsi, hb⟩ := hzz
  exact wpList_append_own w hgd s x t ho base e i z size bytes ht hi hz hsi hb hzs hsz v n xs hs hown ad m c news hx hl hnews h1 h63 hbytes hbase (fun v' w' a b _ => h v' w' a b)

theorem below_grownS {w wr : World} {w' : World} {base : Nat} {e : TypeId} {size : Nat} {v : Value} {n : Nat} {xs : List Value} (hb : Below base w wr) (hown : wr.ownsRow base e size v n xs) (hg : wr.grownBy w' v.ownBlock) (hB : base ≤ wr.heap.size) : Below base w w' :=
  hb.grown hg hB (fun k hk => (hown.lt k hk).1)

theorem one_new (w : World) (u : Value) (e : TypeId) : ∀ j v, [u][j]? = some v → (w.alloc (.cells #[u] e)).cell? ((⟨w.heap.size, 0, none⟩ : Addr).add j) = some v := by
  intro j v h
  match j, h with
  | 0, h =>
    obtain rfl : u = v := by simpa using h
    simp [Addr.add]

theorem below_grown {w wr : World} {w' : World} {base : Nat} {e : TypeId} {v : Value} {n : Nat} {xs : List Value} (hb : Below base w wr) (hown : wr.ownsRow base e 1 v n xs) (hg : wr.grownBy w' v.ownBlock) (hB : base ≤ wr.heap.size) : Below base w w' :=
  hb.grown hg hB (fun k hk => (hown.lt k hk).1)

theorem own_below {w w' : World} {base : Nat} {e : TypeId} {size : Nat} {v : Value} {n : Nat} {xs : List Value} (h : w.ownsRow base e size v n xs) (hb : Below w.heap.size w w') : w'.ownsRow base e size v n xs :=
  h.kept (row := none) ⟨hb.os, hb.tape, hb.output, hb.size, fun k hk _ => hb.block k hk⟩ (by cases v.ownBlock <;> simp)

theorem bcell {W w1 : World} (hb : Below W.heap.size W w1) : (∀ b o, b < W.heap.size → w1.cell? ⟨b, o, none⟩ = W.cell? ⟨b, o, none⟩) ∧ (∀ b o, b < W.heap.size → w1.frozen? ⟨b, o, none⟩ = W.frozen? ⟨b, o, none⟩) :=
  ⟨fun b o h => hb.cell (p := ⟨b, o, none⟩) h, fun b o h => hb.frozen (p := ⟨b, o, none⟩) h⟩

theorem own_shape {w : World} {base : Nat} {e : TypeId} {size : Nat} {v : Value} {n : Nat} {xs : List Value} (h : w.ownsRow base e size v n xs) : ∃ a cap, v = .slice a n cap := by
  rcases h.2 with ⟨rfl, rfl⟩ | ⟨g, cap, cur, rfl, _⟩
  · exact ⟨_, _, rfl⟩
  · exact ⟨_, _, rfl⟩

theorem byte_ne {a b : UInt8} (h : ¬ a = b) : ((a.toNat : Int) == (b.toNat : Int)) = false := by
  rw [beq_eq_false_iff_ne]
  intro e
  exact h (UInt8.toNat_inj.1 (by omega))

/-- The bytes of a text, as cells. -/
def byteCells (l : List UInt8) : List Value := l.map fun b => Value.int .u8 (b.toNat : Int)

theorem byteCells_append (l m : List UInt8) : byteCells (l ++ m) = byteCells l ++ byteCells m := by simp [byteCells]
theorem byteCells_one (b : UInt8) : byteCells [b] = [Value.int .u8 (b.toNat : Int)] := rfl
theorem byteCells_oneCell (l : List UInt8) : ∀ u ∈ byteCells l, u.oneCell' = true := by
  intro u hu
  obtain ⟨b, _, rfl⟩ := List.mem_map.1 hu
  rfl

/-- 'string(b)' of a row of the call's own. -/
theorem own_string {P : Program} {w : World} {base e src dst : Nat} {v : Value} {n : Nat} {l : List UInt8} (hs : P.underlying src = some (.slice e)) (he : P.underlying e = some (.int .u8)) (hd : P.underlying dst = some .string)
    (h : w.ownsRow base e 1 v n (byteCells l)) : (convert src dst v).run P w = .ok (.string ⟨l.toArray⟩) w := by
  obtain ⟨hl, h⟩ := h
  have hl' : l.length = n := by simpa [byteCells] using hl
  rcases h with ⟨rfl, rfl⟩ | ⟨g, cap, cur, rfl, hb, hg, hc, hm, hz, ht⟩
  · have : l = [] := List.length_eq_zero_iff.1 hl'
    subst this
    exact Lib.run_convert_nil_bytes w src dst e 0 hs he hd
  · subst hl'
    have hB : Lib.Bytes w g 0 ⟨l.toArray⟩ := fun i hi => by
      have hi' : i < l.length := by simpa [ByteArray.size] using hi
      have e1 : (byteCells l)[i]? = some (Value.int .u8 (l[i].toNat : Int)) := by simp [byteCells, hi']
      rw [← ht, List.getElem?_take_of_lt (by omega)] at e1
      have e2 : cur[i]? = some (Value.int .u8 (l[i].toNat : Int)) := by simpa using e1
      rw [Nat.zero_add]
      simp only [World.cell?, hg]
      show cur[i]? = _
      rw [e2]
      rfl
    have := Lib.run_convert_whole (P := P) w src e dst hs he hd g 0 ⟨l.toArray⟩ hB cap
    simpa [ByteArray.size] using this

end Go.Proofs.YtnhddnfobcofcaaGreatDoor

namespace Go.Proofs.YtnhddnfobcofcaaGreatDoor.nm
open Go.ChangeShapes Go.WideShapes Go.ChangeAt Go.RowKit Go.Deep
set_option linter.unusedVariables false

def letB (c : Int) : Bool := decide (97 ≤ c ∧ c ≤ 122 ∨ 65 ≤ c ∧ c ≤ 90)
def digB (c : Int) : Bool := decide (48 ≤ c ∧ c ≤ 57)
def okB (c : Int) : Bool := letB c || digB c || (c == 45) || (c == 95) || (c == 46) || (c == 43)

theorem letter_any (c : Int) (w : World) :
    Calls Tryz.prog 58 #[.int .u8 c] w fun e w' => e = .returned (.bool (letB c)) ∧ w' = w := by
  go_enter Tryz.func58, Tryz.ntmps58
  go_wp2
  all_goals go_ret
  all_goals refine ⟨ret_bool ?_, rfl⟩
  all_goals (rw [Bool.eq_iff_iff]; simp [letB]; omega)

theorem digit_any (c : Int) (w : World) :
    Calls Tryz.prog 59 #[.int .u8 c] w fun e w' => e = .returned (.bool (digB c)) ∧ w' = w := by
  go_enter Tryz.func59, Tryz.ntmps59
  go_wp2
  all_goals go_ret
  all_goals refine ⟨ret_bool ?_, rfl⟩
  all_goals (rw [Bool.eq_iff_iff]; simp [digB]; omega)

theorem isLetter_any (c : Int) (w : World) :
    Calls Tryz.prog 97 #[.int .i32 c] w fun e w' => e = .returned (.bool (letB c)) ∧ w' = w := by
  go_enter Tryz.func97, Tryz.ntmps97
  go_wp2
  all_goals go_ret
  all_goals refine ⟨ret_bool ?_, rfl⟩
  all_goals (rw [Bool.eq_iff_iff]; simp [letB]; omega)

theorem isDigit_any (c : Int) (w : World) :
    Calls Tryz.prog 98 #[.int .i32 c] w fun e w' => e = .returned (.bool (digB c)) ∧ w' = w := by
  go_enter Tryz.func98, Tryz.ntmps98
  go_wp2
  all_goals go_ret
  all_goals refine ⟨ret_bool ?_, rfl⟩
  all_goals (rw [Bool.eq_iff_iff]; simp [digB]; omega)

theorem inName_any (c : Int) (h0 : 0 ≤ c) (h1 : c ≤ 255) (w : World) :
    Calls Tryz.prog 89 #[.int .u8 c] w fun e w' => e = .returned (.bool (okB c)) ∧ w' = w := by
  go_enter Tryz.func89, Tryz.ntmps89
  go_wp2_with (first
    | (go_at_call 97; refine (isLetter_any _ _).mono ?_; rintro e w' ⟨rfl, rfl⟩)
    | (go_at_call 98; refine (isDigit_any _ _).mono ?_; rintro e w' ⟨rfl, rfl⟩))
  all_goals go_ret
  all_goals refine ⟨ret_bool ?_, rfl⟩
  all_goals simp [okB, *]

def allOk (s : ByteArray) (k : Nat) : Bool := (s.data.toList.take k).all fun c => okB (c.toNat : Int)
def nameB (s : ByteArray) : Bool := decide (1 ≤ s.size) && decide (s.size ≤ 60) && !(((s.data.toList[0]?.getD 0).toNat : Int) == 46) && allOk s s.size

theorem take_snoc (s : ByteArray) (k : Nat) (h : k < s.size) : s.data.toList.take (k + 1) = s.data.toList.take k ++ [s[k]] := by
  rw [List.take_succ_eq_append_getElem (by simpa using h)]; rfl

theorem allOk_succ (s : ByteArray) (k : Nat) (h : k < s.size) : allOk s (k + 1) = (allOk s k && okB (s[k].toNat : Int)) := by
  unfold allOk
  rw [take_snoc s k h, List.all_append]
  simp

theorem allOk_false {s : ByteArray} {k : Nat} (h : k < s.size) (ho : okB (s[k].toNat : Int) = false) : allOk s s.size = false := by
  rw [Bool.eq_false_iff]
  intro hall
  unfold allOk at hall
  rw [List.all_eq_true] at hall
  have := hall s[k] (by rw [List.take_of_length_le (by simp)]; exact List.getElem_mem (l := s.data.toList) (by simpa using h))
  rw [ho] at this
  cases this

theorem get0 {s : ByteArray} (h : 0 < s.size) : s.data.toList[0]?.getD 0 = s[0] := by
  rw [List.getElem?_eq_getElem (by simpa using h)]; rfl

theorem name_dot {s : ByteArray} (h0 : 0 < s.size) (h3 : ((s[0].toNat : Int) == 46) = true) : nameB s = false := by
  unfold nameB
  rw [get0 h0, h3]
  simp

theorem impl_any (s : ByteArray) (hs : s.size ≤ 1048576) (w : World) :
    Calls Tryz.prog 75 #[.string s] w fun e w' => e = .returned (.bool (nameB s)) ∧ w' = w := by
  by_cases h1 : s.size < 1
  · go_enter Tryz.func75, Tryz.ntmps75
    go_wp2
    go_ret
    exact ⟨ret_bool (by simp [nameB]; omega), rfl⟩
  by_cases h2 : 60 < s.size
  · go_enter Tryz.func75, Tryz.ntmps75
    go_wp2
    go_ret
    exact ⟨ret_bool (by simp [nameB]; omega), rfl⟩
  have h0 : 0 < s.size := by omega
  by_cases h3 : ((s[0].toNat : Int) == 46) = true
  · go_enter Tryz.func75, Tryz.ntmps75
    go_wp2
    go_ret
    exact ⟨ret_bool (name_dot h0 h3).symm, rfl⟩
  have h3' : ((s[0].toNat : Int) == 46) = false := by simpa using h3
  have hn : Hid (nameB s = allOk s s.size) := by
    show nameB s = allOk s s.size
    unfold nameB
    rw [get0 h0, h3']
    simp
    omega
  clear h3
  go_enter Tryz.func75, Tryz.ntmps75
  go_wp2
  go_loop [3, 19] (fun x i => ∃ k : Nat, k ≤ s.size ∧ i = .int .i64 k ∧ allOk s k = true) (fun _ i => s.size - (intOf i).toNat)
  case atStart => exact ⟨0, Nat.zero_le _, rfl, by simp [allOk]⟩
  case round =>
    obtain ⟨k, hk, rfl, hok⟩ := hrel
    by_cases hlt : k < s.size
    · have hsn : Hid (allOk s (k + 1) = (allOk s k && okB (s[k].toNat : Int))) := allOk_succ s k hlt
      have hb : (0 : Int) ≤ (s[k].toNat : Int) ∧ (s[k].toNat : Int) ≤ 255 := ⟨by omega, by have := s[k].toNat_lt; omega⟩
      by_cases ho : okB (s[k].toNat : Int) = true
      · go_wp2_with (go_at_call 89; refine (inName_any _ hb.1 hb.2 _).mono ?_; rintro e w' ⟨rfl, rfl⟩)
        go_round
        case rel => exact ⟨k + 1, by omega, by go_num, by rw [hsn.out, hok, ho]; rfl⟩
        case measure => simp [intOf]; omega
      · have ho' : okB (s[k].toNat : Int) = false := by simpa using ho
        have hF : Hid (allOk s s.size = false) := allOk_false hlt ho'
        go_wp2_with (go_at_call 89; refine (inName_any _ hb.1 hb.2 _).mono ?_; rintro e w' ⟨rfl, rfl⟩)
        go_ret
        exact ⟨ret_bool (by rw [hn.out, hF.out]), rfl⟩
    · obtain rfl : k = s.size := by omega
      go_wp2
      go_ret
      exact ⟨ret_bool (by rw [hn.out, hok]), rfl⟩

theorem spec_any (s : ByteArray) (hs : s.size ≤ 1048576) (w : World) :
    Calls Tryz.prog 40 #[.string s] w fun e w' => e = .returned (.bool (nameB s)) ∧ w' = w := by
  by_cases h1 : s.size < 1
  · go_enter Tryz.func40, Tryz.ntmps40
    go_wp2
    go_ret
    exact ⟨ret_bool (by simp [nameB]; omega), rfl⟩
  by_cases h2 : 60 < s.size
  · go_enter Tryz.func40, Tryz.ntmps40
    go_wp2
    go_ret
    exact ⟨ret_bool (by simp [nameB]; omega), rfl⟩
  have h0 : 0 < s.size := by omega
  by_cases h3 : ((s[0].toNat : Int) == 46) = true
  · go_enter Tryz.func40, Tryz.ntmps40
    go_wp2
    go_ret
    exact ⟨ret_bool (name_dot h0 h3).symm, rfl⟩
  have h3' : ((s[0].toNat : Int) == 46) = false := by simpa using h3
  have hn : Hid (nameB s = allOk s s.size) := by
    show nameB s = allOk s s.size
    unfold nameB
    rw [get0 h0, h3']
    simp
    omega
  clear h3
  go_enter Tryz.func40, Tryz.ntmps40
  go_wp2
  go_loop [3, 4] (fun i x => ∃ k : Nat, k ≤ s.size ∧ i = .int .i64 k ∧ allOk s k = true) (fun i _ => s.size - (intOf i).toNat)
  case atStart => exact ⟨0, Nat.zero_le _, rfl, by simp [allOk]⟩
  case round =>
    obtain ⟨k, hk, rfl, hok⟩ := hrel
    by_cases hlt : k < s.size
    · have hsn : Hid (allOk s (k + 1) = (allOk s k && okB (s[k].toNat : Int))) := allOk_succ s k hlt
      have hb : (0 : Int) ≤ (s[k].toNat : Int) ∧ (s[k].toNat : Int) ≤ 255 := ⟨by omega, by have := s[k].toNat_lt; omega⟩
      go_wp2_with (first | (go_at_call 58; refine (letter_any _ _).mono ?_; rintro e w' ⟨rfl, rfl⟩) | (go_at_call 59; refine (digit_any _ _).mono ?_; rintro e w' ⟨rfl, rfl⟩))
      all_goals first
        | (go_round
           case rel => exact ⟨k + 1, by omega, by go_num, by rw [hsn.out, hok]; simp [okB, *] <;> (rename_i h; simp at h; omega)⟩
           case measure => simp [intOf]; omega)
        | (go_ret
           exact ⟨ret_bool (by rw [hn.out, allOk_false hlt (by simp [okB, *] <;> (rename_i h; simp at h; omega))]), rfl⟩)
    · obtain rfl : k = s.size := by omega
      go_wp2
      go_ret
      exact ⟨ret_bool (by rw [hn.out, hok]), rfl⟩

end Go.Proofs.YtnhddnfobcofcaaGreatDoor.nm

namespace Go.Proofs.YtnhddnfobcofcaaGreatDoor.cd
open Go.ChangeShapes Go.WideShapes Go.ChangeAt Go.RowKit Go.Deep
set_option linter.unusedVariables false
set_option linter.unusedSimpArgs false

/-! ### Conditions: the plain model of nodes that lie in a list -/

structure Cn where
  kind : Int
  name : ByteArray
  size : Int

def tw : List UInt8 := [116, 114, 117, 101]
def fw : List UInt8 := [102, 97, 108, 115, 101]

/-- Does a node's kind go with its name and with so many parts? -/
def fitB (e : Cn) (m : Nat) : Bool :=
  if e.kind = 1 then decide (m = 0) && (nm.nameB e.name && (!(e.name.toList == tw) && !(e.name.toList == fw)))
  else e.name.toList.isEmpty && (if e.kind = 2 ∨ e.kind = 3 then decide (m = 0) else if e.kind = 4 then decide (m = 1) else decide (e.kind = 5 ∨ e.kind = 6) && decide (2 ≤ m))

def cutP (E : Nat → Cn) (p left : Nat) : Option (List Nat) :=
  if _h : left = 0 then some [] else if (E p).size < 0 ∨ (left : Int) ≤ (E p).size then none
  else (cutP E (p + ((E p).size.toNat + 1)) (left - ((E p).size.toNat + 1))).map (p :: ·)
termination_by left
decreasing_by omega

theorem cut_zero (E : Nat → Cn) (p : Nat) : cutP E p 0 = some [] := by rw [cutP]; simp
theorem cut_bad {E : Nat → Cn} {p left : Nat} (h : 0 < left) (hb : (E p).size < 0 ∨ (left : Int) ≤ (E p).size) : cutP E p left = none := by
  rw [cutP, dif_neg (by omega), if_pos hb]
theorem cut_step {E : Nat → Cn} {p left : Nat} (h : 0 < left) (hb : ¬ ((E p).size < 0 ∨ (left : Int) ≤ (E p).size)) : cutP E p left = (cutP E (p + ((E p).size.toNat + 1)) (left - ((E p).size.toNat + 1))).map (p :: ·) := by
  rw [cutP, dif_neg (by omega), if_neg hb]

/-- A part fits into its place. -/
def Fits (E : Nat → Cn) (lo hi p : Nat) : Prop := lo ≤ p ∧ 0 ≤ (E p).size ∧ p + ((E p).size.toNat + 1) ≤ hi

theorem cut_fits {E : Nat → Cn} : ∀ (left p : Nat) (ps : List Nat), cutP E p left = some ps → (∀ q ∈ ps, Fits E p (p + left) q) ∧ ps.length ≤ left := by
  intro left
  induction left using Nat.strongRecOn with
  | ind left ih =>
    intro p ps h
    by_cases h0 : left = 0
    · subst h0
      rw [cut_zero] at h
      cases h
      simp
    · by_cases hb : (E p).size < 0 ∨ (left : Int) ≤ (E p).size
      · rw [cut_bad (by omega) hb] at h; cases h
      · rw [cut_step (by omega) hb, Option.map_eq_some_iff] at h
        obtain ⟨qs, h1, rfl⟩ := h
        obtain ⟨h2, h3⟩ := ih _ (by omega) _ _ h1
        refine ⟨?_, by simp; omega⟩
        intro q hq
        rcases List.mem_cons.1 hq with rfl | hq
        · exact ⟨Nat.le_refl _, by omega, by omega⟩
        · obtain ⟨a, b, c⟩ := h2 q hq
          exact ⟨by omega, b, by omega⟩

/-- Is a node with all that stands behind it right? 'r': how many more may be in one another. -/
def ok (E : Nat → Cn) : Nat → Nat → Nat → Bool
  | 0, _, _ => false
  | r + 1, p, len => decide ((E p).size = (len : Int) - 1) && match cutP E (p + 1) (len - 1) with
    | none => false
    | some ps => (ps.all fun q => ok E r q ((E q).size.toNat + 1)) && fitB (E p) ps.length

def okAll (E : Nat → Cn) (n : Nat) : Bool := decide (0 < n ∧ n ≤ 300) && ok E 61 0 n

theorem ok_size {E : Nat → Cn} {r p len : Nat} (h : ¬ (E p).size = (len : Int) - 1) : ok E r p len = false := by
  cases r with
  | zero => rfl
  | succ r => simp [ok, h]
theorem ok_cut {E : Nat → Cn} {r p len : Nat} (h : cutP E (p + 1) (len - 1) = none) : ok E r p len = false := by
  cases r with
  | zero => rfl
  | succ r => simp [ok, h]
theorem ok_yes {E : Nat → Cn} {r p len : Nat} {ps : List Nat} (hs : (E p).size = (len : Int) - 1) (h : cutP E (p + 1) (len - 1) = some ps) : ok E (r + 1) p len = ((ps.all fun q => ok E r q ((E q).size.toNat + 1)) && fitB (E p) ps.length) := by
  simp [ok, h, hs]

/-! ### Trees -/

inductive Tr where
  | mk (kind : Int) (name : ByteArray) (parts : List Tr)

def Tr.kind : Tr → Int | .mk k _ _ => k
def Tr.name : Tr → ByteArray | .mk _ t _ => t
def Tr.parts : Tr → List Tr | .mk _ _ ps => ps

/-- The tree of the node that begins at a place. -/
def treeP (E : Nat → Cn) : Nat → Nat → Tr
  | 0, p => .mk (E p).kind (E p).name []
  | r + 1, p => .mk (E p).kind (E p).name (((cutP E (p + 1) (E p).size.toNat).getD []).map (treeP E r))

theorem tree_eq {E : Nat → Cn} {r p len : Nat} {ps : List Nat} (hs : (E p).size = (len : Int) - 1) (h : cutP E (p + 1) (len - 1) = some ps) : treeP E (r + 1) p = .mk (E p).kind (E p).name (ps.map (treeP E r)) := by
  rw [treeP, show (E p).size.toNat = len - 1 by omega, h]; rfl

end Go.Proofs.YtnhddnfobcofcaaGreatDoor.cd

namespace Go.Proofs.YtnhddnfobcofcaaGreatDoor.cr
open cd (Tr Cn)
set_option linter.unusedVariables false
set_option linter.unusedSimpArgs false

/-! ### Conditions as texts: the plain grammar -/

def nb (c : UInt8) : Bool := nm.okB (c.toNat : Int)
def skip (l : List UInt8) : List UInt8 := l.dropWhile (· == 32)
theorem skip_len (l : List UInt8) : (skip l).length ≤ l.length := by
  unfold skip
  induction l with
  | nil => simp
  | cons a l ih => rw [List.dropWhile_cons]; split <;> simp <;> omega
theorem skip_skip (l : List UInt8) : skip (skip l) = skip l := by
  unfold skip
  induction l with
  | nil => rfl
  | cons a l ih =>
    rw [List.dropWhile_cons]
    split
    · exact ih
    · rename_i h; rw [List.dropWhile_cons, if_neg h]
def bA (l : List UInt8) : ByteArray := ⟨l.toArray⟩
theorem bA_list (l : List UInt8) : (bA l).data.toList = l := by simp [bA]
theorem bA_of (p : ByteArray) : bA p.data.toList = p := by simp [bA]
theorem bA_size (l : List UInt8) : (bA l).size = l.length := by simp [bA, ByteArray.size]
/-- A word: true, false, a flag. -/
def wd (l : List UInt8) : Option (Tr × List UInt8) :=
  let t := l.takeWhile nb
  let r := l.dropWhile nb
  if t = cd.tw then some (.mk 2 (bA []) [], r) else if t = cd.fw then some (.mk 3 (bA []) [], r) else if nm.nameB (bA t) = true then some (.mk 1 (bA t) [], r) else none
/-- Parts with a sign between them. -/
def rowL (sign : UInt8) (part : List UInt8 → Option (Tr × List UInt8)) : Nat → List UInt8 → Option (List Tr × List UInt8)
  | 0, _ => none
  | k + 1, l => match part l with
    | none => none
    | some (t, r) => match skip r with
      | [] => some ([t], [])
      | c :: q => if c = sign then (rowL sign part k q).map (fun x => (t :: x.1, x.2)) else some ([t], c :: q)
/-- A part that stands alone is no row. -/
def mkR (kind : Int) : List Tr → Tr
  | [t] => t
  | ts => .mk kind (bA []) ts
abbrev Pz : Type := List UInt8 → Option (Tr × List UInt8)
def oneP (p0 p2 : Pz) (l : List UInt8) : Option (Tr × List UInt8) := match skip l with
  | [] => wd []
  | c :: q => if c = 33 then (p0 q).map (fun x => (.mk 4 (bA []) [x.1], x.2))
    else if c = 40 then match p2 q with
      | none => none
      | some (t, r) => match skip r with
        | [] => none
        | d :: s => if d = 41 then some (t, s) else none
    else wd (c :: q)
def rowP (kind : Int) (sign : UInt8) (p : Pz) (l : List UInt8) : Option (Tr × List UInt8) := (rowL sign p (l.length + 1) l).map (fun x => (mkR kind x.1, x.2))
/-- 0: one; 1: all; 2: any. -/
def P : Nat → Nat → Pz
  | 0, _, _ => none
  | f + 1, lv, l => if lv = 0 then oneP (P f 0) (P f 2) l else if lv = 1 then rowP 5 38 (P f 0) l else rowP 6 124 (P f 1) l
theorem P_one (f : Nat) (l : List UInt8) : P (f + 1) 0 l = oneP (P f 0) (P f 2) l := rfl
theorem P_all (f : Nat) (l : List UInt8) : P (f + 1) 1 l = rowP 5 38 (P f 0) l := rfl
theorem P_any (f : Nat) (l : List UInt8) : P (f + 1) 2 l = rowP 6 124 (P f 1) l := rfl
theorem nb_tw {l : List UInt8} : (l.takeWhile nb).length + (l.dropWhile nb).length = l.length := by
  rw [← List.length_append, List.takeWhile_append_dropWhile]
theorem wd_lt {l : List UInt8} {t : Tr} {r : List UInt8} (h : wd l = some (t, r)) : r.length < l.length := by
  unfold wd at h
  have e := nb_tw (l := l)
  simp only at h
  split at h
  · rename_i h1; cases h; rw [h1] at e; simp [cd.tw] at e; omega
  · split at h
    · rename_i h1; cases h; rw [h1] at e; simp [cd.fw] at e; omega
    · split at h
      · rename_i h1
        cases h
        have : 1 ≤ (bA (l.takeWhile nb)).size := by
          unfold nm.nameB at h1
          simp only [Bool.and_eq_true, decide_eq_true_eq] at h1
          exact h1.1.1.1
        rw [bA_size] at this
        omega
      · cases h
/-- What is read is shorter, and no blank stands ahead of what is left of a row. -/
theorem rowL_lt {sign : UInt8} {part : List UInt8 → Option (Tr × List UInt8)} (hp : ∀ l t r, part l = some (t, r) → r.length < l.length) : ∀ k l ts r, rowL sign part k l = some (ts, r) → r.length < l.length
  | 0, l, ts, r, h => by simp [rowL] at h
  | k + 1, l, ts, r, h => by
    unfold rowL at h
    cases hq : part l with
    | none => rw [hq] at h; simp at h
    | some x =>
      obtain ⟨t, r1⟩ := x
      have h1 := hp l t r1 hq
      have h2 := skip_len r1
      rw [hq] at h
      simp only at h
      cases hs : skip r1 with
      | nil => rw [hs] at h; simp at h; obtain ⟨_, rfl⟩ := h; simp; omega
      | cons c q =>
        rw [hs] at h
        rw [hs] at h2
        simp only at h
        split at h
        · rw [Option.map_eq_some_iff] at h
          obtain ⟨y, hy, e⟩ := h
          cases e
          have := rowL_lt hp k q y.1 y.2 hy
          simp at h2
          omega
        · cases h
          omega
def Sh (p : Pz) : Prop := ∀ l t r, p l = some (t, r) → r.length < l.length
theorem one_lt {p0 p2 : Pz} (h0 : Sh p0) (h2 : Sh p2) : Sh (oneP p0 p2) := fun l t r h => by
  have hl := skip_len l
  unfold oneP at h
  cases hs : skip l with
  | nil =>
    rw [hs] at h
    have := wd_lt h
    simp at this
  | cons c q =>
    rw [hs] at h hl
    simp only at h
    simp at hl
    split at h
    · rw [Option.map_eq_some_iff] at h
      obtain ⟨x, hx, e⟩ := h
      cases e
      have := h0 q x.1 x.2 hx
      omega
    · split at h
      · cases hp : p2 q with
        | none => rw [hp] at h; simp at h
        | some x =>
          obtain ⟨t1, r1⟩ := x
          have h1 := h2 q t1 r1 hp
          have h2 := skip_len r1
          rw [hp] at h
          simp only at h
          cases hs2 : skip r1 with
          | nil => rw [hs2] at h; simp at h
          | cons d s =>
            rw [hs2] at h h2
            simp only at h
            split at h
            · cases h; simp at h2; omega
            · cases h
      · have := wd_lt h
        simp at this
        omega
theorem row_lt {kind : Int} {sign : UInt8} {p : Pz} (h0 : Sh p) : Sh (rowP kind sign p) := fun l t r h => by
  unfold rowP at h
  rw [Option.map_eq_some_iff] at h
  obtain ⟨x, hx, e⟩ := h
  cases e
  exact rowL_lt h0 _ l x.1 x.2 hx
theorem P_lt : ∀ f lv, Sh (P f lv)
  | 0, lv => fun l t r h => by simp [P] at h
  | f + 1, lv => fun l t r h => by
    unfold P at h
    split at h
    · exact one_lt (P_lt f 0) (P_lt f 2) l t r h
    · split at h
      · exact row_lt (P_lt f 0) l t r h
      · exact row_lt (P_lt f 1) l t r h
/-- The list of a tree. -/
def fl : Tr → List Cn
  | .mk k n ps => ⟨k, n, (((ps.attach.map fun x => fl x.1).flatten).length : Int)⟩ :: (ps.attach.map fun x => fl x.1).flatten
termination_by t => SizeOf.sizeOf t
decreasing_by all_goals (have h := List.sizeOf_lt_of_mem x.2; simp only [Tr.mk.sizeOf_spec]; omega)
def flL (ps : List Tr) : List Cn := (ps.map fl).flatten
theorem fl_eq (k : Int) (n : ByteArray) (ps : List Tr) : fl (.mk k n ps) = ⟨k, n, ((flL ps).length : Int)⟩ :: flL ps := by
  rw [fl]
  have e : (ps.attach.map fun x => fl x.1) = ps.map fl := by simp
  rw [e]
  rfl
theorem flL_app (a b : List Tr) : flL (a ++ b) = flL a ++ flL b := by unfold flL; rw [List.map_append, List.flatten_append]
theorem flL_one (t : Tr) : flL [t] = fl t := by simp [flL]
theorem flL_cons (t : Tr) (a : List Tr) : flL (t :: a) = fl t ++ flL a := by simp [flL]
theorem fl_pos (t : Tr) : 0 < (fl t).length := by cases t; rw [fl_eq]; simp
end Go.Proofs.YtnhddnfobcofcaaGreatDoor.cr

namespace Go.Proofs.YtnhddnfobcofcaaGreatDoor.cr
open cd (Tr Cn)
set_option linter.unusedVariables false
set_option linter.unusedSimpArgs false

/-! ### FnCondBack, plain: what is shown is read as it was -/

/-- A tree that can be. -/
def TOk : Tr → Prop
  | .mk k n ps => cd.fitB ⟨k, n, 0⟩ ps.length = true ∧ ∀ x, (h : x ∈ ps) → TOk x
termination_by t => SizeOf.sizeOf t
decreasing_by (have h := List.sizeOf_lt_of_mem h; simp only [Tr.mk.sizeOf_spec]; omega)
theorem TOk_eq (k : Int) (n : ByteArray) (ps : List Tr) : TOk (.mk k n ps) ↔ cd.fitB ⟨k, n, 0⟩ ps.length = true ∧ ∀ x ∈ ps, TOk x := by rw [TOk]
def isRw (k : Int) : Prop := k = 5 ∨ k = 6
instance (k : Int) : Decidable (isRw k) := by unfold isRw; exact inferInstance
def wiK (k : Int) (s : List UInt8) : List UInt8 := if isRw k then 40 :: (s ++ [41]) else s
def jn (sg : UInt8) : List (List UInt8) → List UInt8
  | [] => []
  | [a] => a
  | a :: b :: r => a ++ sg :: jn sg (b :: r)
def sgK (k : Int) : UInt8 := if k = 5 then 38 else 124
def shK (k : Int) (n : ByteArray) (qs : List (List UInt8)) : List UInt8 :=
  if k = 1 then n.data.toList else if k = 2 then cd.tw else if k = 3 then cd.fw else if k = 4 then 33 :: qs.headD [] else jn (sgK k) qs
/-- A tree's text. -/
def sh : Tr → List UInt8
  | .mk k n ps => shK k n (ps.attach.map fun x => wiK x.1.kind (sh x.1))
termination_by t => SizeOf.sizeOf t
decreasing_by all_goals (have h := List.sizeOf_lt_of_mem x.2; simp only [Tr.mk.sizeOf_spec]; omega)
def wi (t : Tr) : List UInt8 := wiK t.kind (sh t)
theorem sh_eq (k : Int) (n : ByteArray) (ps : List Tr) : sh (.mk k n ps) = shK k n (ps.map wi) := by
  rw [sh]
  have e : (ps.attach.map fun x => wiK x.1.kind (sh x.1)) = ps.map wi := by
    rw [show (fun x : { x // x ∈ ps } => wiK x.1.kind (sh x.1)) = (fun x => wi x.1) from rfl]
    simp
  rw [e]
theorem jn_cons2 (sg : UInt8) (a b : List UInt8) (r : List (List UInt8)) : jn sg (a :: b :: r) = a ++ sg :: jn sg (b :: r) := rfl
/-- What may stand behind. -/
def St (bad : List UInt8) (r : List UInt8) : Prop := ∀ c q, r = c :: q → nb c = false ∧ c ≠ 32 ∧ c ∉ bad
theorem St.skip {bad r : List UInt8} (h : St bad r) : skip r = r := by
  cases r with
  | nil => rfl
  | cons c q =>
    obtain ⟨_, h2, _⟩ := h c q rfl
    unfold cr.skip
    rw [List.dropWhile_cons, if_neg (by simpa using h2)]
theorem St.mono {bad bad' r : List UInt8} (h : St bad r) (hs : ∀ c ∈ bad', c ∈ bad) : St bad' r := fun c q e => by
  obtain ⟨h1, h2, h3⟩ := h c q e
  exact ⟨h1, h2, fun hc => h3 (hs c hc)⟩
theorem St.cons {bad q : List UInt8} {c : UInt8} (h1 : nb c = false) (h2 : c ≠ 32) (h3 : c ∉ bad) : St bad (c :: q) := fun d p e => by cases e; exact ⟨h1, h2, h3⟩
theorem tw_nb {w r : List UInt8} (h : ∀ c ∈ w, nb c = true) (hr : St [] r) : (w ++ r).takeWhile nb = w ∧ (w ++ r).dropWhile nb = r := by
  have e1 : r.takeWhile nb = [] := by
    cases r with
    | nil => rfl
    | cons c q => rw [List.takeWhile_cons, if_neg (by rw [(hr c q rfl).1]; decide)]
  have e2 : r.dropWhile nb = r := by
    cases r with
    | nil => rfl
    | cons c q => rw [List.dropWhile_cons, if_neg (by rw [(hr c q rfl).1]; decide)]
  rw [List.takeWhile_append_of_pos h, e1, List.append_nil, List.dropWhile_append_of_pos h, e2]
  exact ⟨rfl, rfl⟩
/-- A word that begins with a name's byte. -/
theorem one_word_at {p0 p2 : Pz} {w r : List UInt8} (h : ∀ c ∈ w, nb c = true) (h0 : 0 < w.length) (hr : St [] r) : oneP p0 p2 (w ++ r) = wd (w ++ r) := by
  cases w with
  | nil => simp at h0
  | cons c q =>
    have hc := h c List.mem_cons_self
    have n32 : c ≠ 32 := fun e => by rw [e] at hc; exact absurd hc (by decide)
    have n33 : c ≠ 33 := fun e => by rw [e] at hc; exact absurd hc (by decide)
    have n40 : c ≠ 40 := fun e => by rw [e] at hc; exact absurd hc (by decide)
    have e : skip (c :: q ++ r) = c :: (q ++ r) := by
      unfold skip
      rw [List.cons_append, List.dropWhile_cons, if_neg (by simpa using n32)]
    unfold oneP
    rw [e]
    simp only
    rw [if_neg n33, if_neg n40]
    rfl
theorem all_nb {n : ByteArray} (h : nm.nameB n = true) : (∀ c ∈ n.data.toList, nb c = true) ∧ 0 < n.data.toList.length := by
  unfold nm.nameB at h
  simp only [Bool.and_eq_true, decide_eq_true_eq] at h
  obtain ⟨⟨⟨h1, h2⟩, h3⟩, h4⟩ := h
  have hl : n.data.toList.length = n.size := Array.length_toList
  refine ⟨fun c hc => ?_, by omega⟩
  unfold nm.allOk at h4
  rw [List.take_of_length_le (by omega)] at h4
  exact List.all_eq_true.1 h4 c hc
theorem rowL_back {sg : UInt8} {p : Pz} (hsg : nb sg = false ∧ sg ≠ 32) (bad : List UInt8) (hb : sg ∈ bad) (r : List UInt8) (hr : St bad r) (bad0 : List UInt8) (hb0 : ∀ c ∈ bad0, c ∈ bad ∧ c ≠ sg) : ∀ (ts : List Tr) (k : Nat), 0 < ts.length → ts.length ≤ k → (∀ t ∈ ts, ∀ r', St bad0 r' → p (wi t ++ r') = some (t, r')) → rowL sg p k (jn sg (ts.map wi) ++ r) = some (ts, r)
  | [], k, h, _, _ => by simp at h
  | [t], 0, _, h, _ => by simp at h
  | [t], k + 1, _, _, hp => by
    unfold rowL
    simp only [List.map_cons, List.map_nil, jn]
    rw [hp t List.mem_cons_self r (hr.mono fun c hc => (hb0 c hc).1)]
    simp only [hr.skip]
    cases r with
    | nil => rfl
    | cons c q =>
      simp only
      rw [if_neg (fun e => (hr c q rfl).2.2 (by rw [e]; exact hb))]
  | t :: u :: ts, 0, _, h, _ => by simp at h
  | t :: u :: ts, k + 1, _, h, hp => by
    have hst : St bad0 (sg :: (jn sg ((u :: ts).map wi) ++ r)) := St.cons hsg.1 hsg.2 (fun hc => (hb0 sg hc).2 rfl)
    have hst2 : St [] (sg :: (jn sg ((u :: ts).map wi) ++ r)) := St.cons hsg.1 hsg.2 (by simp)
    unfold rowL
    rw [List.map_cons, List.map_cons, jn_cons2, List.append_assoc, List.cons_append, ← List.map_cons]
    rw [hp t List.mem_cons_self _ hst]
    simp only [hst2.skip]
    rw [if_pos trivial, rowL_back hsg bad hb r hr bad0 hb0 (u :: ts) k (by simp) (by simp at h ⊢; omega) (fun x hx => hp x (List.mem_cons_of_mem _ hx))]
    rfl
theorem jn_len (sg : UInt8) : ∀ qs : List (List UInt8), (∀ q ∈ qs, q.length ≤ (jn sg qs).length) ∧ qs.length ≤ (jn sg qs).length + 1
  | [] => by simp
  | [a] => by simp [jn]
  | a :: b :: r => by
    obtain ⟨h1, h2⟩ := jn_len sg (b :: r)
    rw [jn_cons2]
    refine ⟨fun q hq => ?_, by simp at h2 ⊢; omega⟩
    rcases List.mem_cons.1 hq with rfl | hq
    · simp
    · have := h1 q hq
      simp
      omega
theorem rowP_back {K : Int} {sg : UInt8} {p : Pz} (hsg : nb sg = false ∧ sg ≠ 32) (bad : List UInt8) (hb : sg ∈ bad) (r : List UInt8) (hr : St bad r) (bad0 : List UInt8) (hb0 : ∀ c ∈ bad0, c ∈ bad ∧ c ≠ sg) (ts : List Tr) (h0 : 0 < ts.length) (hp : ∀ t ∈ ts, ∀ r', St bad0 r' → p (wi t ++ r') = some (t, r')) : rowP K sg p (jn sg (ts.map wi) ++ r) = some (mkR K ts, r) := by
  unfold rowP
  rw [rowL_back hsg bad hb r hr bad0 hb0 ts _ h0 ?_ hp]
  · rfl
  · have := (jn_len sg (ts.map wi)).2
    rw [List.length_map] at this
    rw [List.length_append]
    omega
theorem s38 : nb 38 = false ∧ (38 : UInt8) ≠ 32 := by decide
theorem s124 : nb 124 = false ∧ (124 : UInt8) ≠ 32 := by decide
/-- At each level: a part, one that stands alone. -/
def B0 (t : Tr) : Prop := ∀ f r, St [] r → 3 * (wi t).length + 1 ≤ f → P f 0 (wi t ++ r) = some (t, r)
theorem B0.one {t : Tr} (h : B0 t) : ∀ f r, St [38] r → 3 * (wi t).length + 2 ≤ f → P f 1 (wi t ++ r) = some (t, r)
  | 0, r, _, hf => by omega
  | f + 1, r, hr, hf => by
    rw [P_all]
    have := rowP_back (K := 5) (sg := 38) (p := P f 0) s38 [38] (by simp) r hr [] (by simp) [t] (by simp) (fun u hu r' hr' => by rw [List.mem_singleton.1 hu]; exact h f r' hr' (by omega))
    simp only [List.map_cons, List.map_nil, jn, mkR] at this
    exact this
theorem B0.any {t : Tr} (h : B0 t) : ∀ f r, St [38, 124] r → 3 * (wi t).length + 3 ≤ f → P f 2 (wi t ++ r) = some (t, r)
  | 0, r, _, hf => by omega
  | f + 1, r, hr, hf => by
    rw [P_any]
    have := rowP_back (K := 6) (sg := 124) (p := P f 1) s124 [38, 124] (by simp) r hr [38] (by simp) [t] (by simp) (fun u hu r' hr' => by rw [List.mem_singleton.1 hu]; exact h.one f r' hr' (by omega))
    simp only [List.map_cons, List.map_nil, jn, mkR] at this
    exact this
theorem fit_leaf {k : Int} {n : ByteArray} {m : Nat} (h : cd.fitB ⟨k, n, 0⟩ m = true) : (k = 1 ∧ m = 0 ∧ nm.nameB n = true ∧ n.data.toList ≠ cd.tw ∧ n.data.toList ≠ cd.fw) ∨ (n = bA [] ∧ ((k = 2 ∧ m = 0) ∨ (k = 3 ∧ m = 0) ∨ (k = 4 ∧ m = 1) ∨ ((k = 5 ∨ k = 6) ∧ 2 ≤ m))) := by
  unfold cd.fitB at h
  simp only at h
  split at h
  · rename_i hk
    simp only [Bool.and_eq_true, decide_eq_true_eq, Bool.not_eq_true', beq_eq_false_iff_ne, ne_eq] at h
    obtain ⟨h1, h2, h3, h4⟩ := h
    rw [ByteArray.toList_eq] at h3 h4
    exact .inl ⟨hk, h1, h2, h3, h4⟩
  · simp only [Bool.and_eq_true] at h
    obtain ⟨h1, h2⟩ := h
    have hn : n = bA [] := by
      rw [List.isEmpty_iff, ByteArray.toList_eq] at h1
      apply ByteArray.ext
      apply Array.toList_inj.1
      rw [h1]
      rfl
    refine .inr ⟨hn, ?_⟩
    split at h2
    · rename_i hk
      have := of_decide_eq_true h2
      rcases hk with hk | hk
      · exact .inl ⟨hk, this⟩
      · exact .inr (.inl ⟨hk, this⟩)
    · split at h2
      · rename_i hk; exact .inr (.inr (.inl ⟨hk, of_decide_eq_true h2⟩))
      · simp only [Bool.and_eq_true, decide_eq_true_eq] at h2
        exact .inr (.inr (.inr h2))
theorem wd_back {w r : List UInt8} (h : ∀ c ∈ w, nb c = true) (hr : St [] r) : wd (w ++ r) = if w = cd.tw then some (.mk 2 (bA []) [], r) else if w = cd.fw then some (.mk 3 (bA []) [], r) else if nm.nameB (bA w) = true then some (.mk 1 (bA w) [], r) else none := by
  unfold wd
  rw [(tw_nb h hr).1, (tw_nb h hr).2]
theorem row_wi {k : Int} {n : ByteArray} {ps : List Tr} (hk : k = 5 ∨ k = 6) : sh (.mk k n ps) = jn (sgK k) (ps.map wi) := by
  rw [sh_eq]
  unfold shK
  rw [if_neg (by omega), if_neg (by omega), if_neg (by omega), if_neg (by omega)]
theorem wi_row {k : Int} {n : ByteArray} {ps : List Tr} (hk : k = 5 ∨ k = 6) : wi (.mk k n ps) = 40 :: (jn (sgK k) (ps.map wi) ++ [41]) := by
  show wiK k (sh (.mk k n ps)) = _
  unfold wiK
  rw [if_pos (show isRw k from hk), row_wi hk]
/-- A row at the level of rows. -/
theorem row_any {k : Int} {ps : List Tr} (hk : k = 5 ∨ k = 6) (h2 : 2 ≤ ps.length) (hp : ∀ t ∈ ps, B0 t) : ∀ f r, St [38, 124] r → 3 * (jn (sgK k) (ps.map wi)).length + 3 ≤ f → P f 2 (jn (sgK k) (ps.map wi) ++ r) = some (.mk k (bA []) ps, r)
  | 0, r, _, hf => by omega
  | f + 1, r, hr, hf => by
    have hle : ∀ t ∈ ps, (wi t).length ≤ (jn (sgK k) (ps.map wi)).length := fun t ht => (jn_len _ _).1 _ (List.mem_map_of_mem ht)
    rw [P_any]
    rcases hk with rfl | rfl
    · cases f with
      | zero => omega
      | succ f =>
        have h1 : ∀ r', St [38] r' → P (f + 1) 1 (jn 38 (ps.map wi) ++ r') = some (.mk 5 (bA []) ps, r') := fun r' hr' => by
          rw [P_all]
          have := rowP_back (K := 5) (sg := 38) (p := P f 0) s38 [38] (by simp) r' hr' [] (by simp) ps (by omega) (fun u hu r'' hr'' => hp u hu f r'' hr'' (by have := hle u hu; omega))
          rw [this]
          match ps, h2 with
          | _ :: _ :: _, _ => rfl
        show rowP 6 124 (P (f + 1) 1) (jn 38 (ps.map wi) ++ r) = _
        unfold rowP rowL
        rw [h1 r (hr.mono (by simp))]
        simp only [hr.skip]
        cases r with
        | nil => rfl
        | cons c q =>
          simp only
          rw [if_neg (fun e => (hr c q rfl).2.2 (by rw [e]; simp))]
          rfl
    · have := rowP_back (K := 6) (sg := 124) (p := P f 1) s124 [38, 124] (by simp) r hr [38] (by simp) ps (by omega) (fun u hu r' hr' => (hp u hu).one f r' hr' (by have := hle u hu; omega))
      show rowP 6 124 (P f 1) (jn 124 (ps.map wi) ++ r) = _
      rw [this]
      match ps, h2 with
      | _ :: _ :: _, _ => rfl
theorem back0 : ∀ t, TOk t → B0 t
  | .mk k n ps, ht => by
    obtain ⟨hf, hps⟩ := (TOk_eq k n ps).1 ht
    have ih : ∀ x ∈ ps, B0 x := fun x hx => back0 x (hps x hx)
    intro f r hr hfu
    cases f with
    | zero => omega
    | succ f =>
      rw [P_one]
      rcases fit_leaf hf with ⟨rfl, hm, hnm, htw, hfw⟩ | ⟨rfl, ⟨rfl, hm⟩ | ⟨rfl, hm⟩ | ⟨rfl, hm⟩ | ⟨hk, hm⟩⟩
      · obtain rfl : ps = [] := List.eq_nil_of_length_eq_zero hm
        obtain ⟨h1, h2⟩ := all_nb hnm
        have e : wi (.mk 1 n []) = n.data.toList := by
          unfold wi
          rw [sh_eq]
          rfl
        rw [e, one_word_at h1 h2 hr, wd_back h1 hr, if_neg htw, if_neg hfw, bA_of, if_pos hnm]
      · obtain rfl : ps = [] := List.eq_nil_of_length_eq_zero hm
        have e : wi (.mk 2 (bA []) []) = cd.tw := by
          unfold wi
          rw [sh_eq]
          rfl
        have h1 : ∀ c ∈ cd.tw, nb c = true := by decide
        rw [e, one_word_at h1 (by decide) hr, wd_back h1 hr, if_pos rfl]
      · obtain rfl : ps = [] := List.eq_nil_of_length_eq_zero hm
        have e : wi (.mk 3 (bA []) []) = cd.fw := by
          unfold wi
          rw [sh_eq]
          rfl
        have h1 : ∀ c ∈ cd.fw, nb c = true := by decide
        rw [e, one_word_at h1 (by decide) hr, wd_back h1 hr, if_neg (by decide), if_pos rfl]
      · obtain ⟨x, rfl⟩ := List.length_eq_one_iff.1 hm
        have e : wi (.mk 4 (bA []) [x]) = 33 :: wi x := by
          unfold wi
          rw [sh_eq]
          rfl
        rw [e] at hfu ⊢
        have e2 : skip (33 :: wi x ++ r) = 33 :: (wi x ++ r) := by
          unfold skip
          rw [List.cons_append, List.dropWhile_cons, if_neg (by decide)]
        unfold oneP
        rw [e2]
        simp only
        rw [if_pos trivial, ih x List.mem_cons_self f r hr (by simp at hfu; omega)]
        rfl
      · have e : wi (.mk k (bA []) ps) = 40 :: (jn (sgK k) (ps.map wi) ++ [41]) := wi_row hk
        rw [e] at hfu ⊢
        have e2 : skip (40 :: (jn (sgK k) (ps.map wi) ++ [41]) ++ r) = 40 :: (jn (sgK k) (ps.map wi) ++ 41 :: r) := by
          unfold skip
          rw [List.cons_append, List.dropWhile_cons, if_neg (by decide), List.append_assoc]
          rfl
        have hst : St [38, 124] (41 :: r) := St.cons (by decide) (by decide) (by decide)
        have hst2 := hst.skip
        unfold oneP
        rw [e2]
        simp only
        rw [if_neg (by decide), if_pos trivial, row_any hk hm ih f (41 :: r) hst (by simp at hfu; omega)]
        simp only [hst2]
        rfl
termination_by t => SizeOf.sizeOf t
decreasing_by (have h := List.sizeOf_lt_of_mem hx; simp only [Tr.mk.sizeOf_spec]; omega)
/-- What is shown is read as it was. -/
theorem show_back {t : Tr} (ht : TOk t) (f : Nat) (hf : 3 * (wi t).length + 3 ≤ f) : P f 2 (sh t) = some (t, []) := by
  have hn : St [38, 124] [] := fun c q e => by cases e
  by_cases hk : isRw t.kind
  · obtain ⟨k, n, ps⟩ := t
    obtain ⟨hfi, hps⟩ := (TOk_eq k n ps).1 ht
    have hk' : k = 5 ∨ k = 6 := hk
    rcases fit_leaf hfi with ⟨rfl, _⟩ | ⟨rfl, ⟨rfl, _⟩ | ⟨rfl, _⟩ | ⟨rfl, _⟩ | ⟨_, hm⟩⟩
    · omega
    · omega
    · omega
    · omega
    · have e : wi (.mk k (bA []) ps) = 40 :: (jn (sgK k) (ps.map wi) ++ [41]) := wi_row hk'
      have := row_any hk' hm (fun x hx => back0 x (hps x hx)) f [] hn (by rw [e] at hf; simp at hf; omega)
      rw [List.append_nil] at this
      rw [row_wi hk']
      exact this
  · have e : wi t = sh t := by unfold wi wiK; rw [if_neg hk]
    have := (back0 t ht).any f [] hn hf
    rw [List.append_nil, e] at this
    exact this
end Go.Proofs.YtnhddnfobcofcaaGreatDoor.cr

namespace Go.Proofs.YtnhddnfobcofcaaGreatDoor.cr
open cd (Tr Cn)
set_option linter.unusedVariables false
set_option linter.unusedSimpArgs false

/-! ### FnCondBack, plain: the plain form -/

def rowJ (K : Int) (ms : List Tr) : List Tr := ms.flatMap fun m => if m.kind = K then m.parts else [m]
def ptK (b : Bool) (k : Int) (n : ByteArray) (ps same flip : List Tr) : Tr :=
  if k = 4 then flip.headD (.mk k n ps) else if k = 5 ∨ k = 6 then .mk (if b then 11 - k else k) (bA []) (rowJ (if b then 11 - k else k) same)
  else if b then (if k = 1 then .mk 4 (bA []) [.mk k n ps] else .mk (5 - k) (bA []) []) else .mk k n ps
/-- The plain form; turned where 'b'. -/
def pt : Bool → Tr → Tr
  | b, .mk k n ps => ptK b k n ps (ps.attach.map fun x => pt b x.1) (ps.attach.map fun x => pt (!b) x.1)
termination_by _ t => SizeOf.sizeOf t
decreasing_by all_goals (have h := List.sizeOf_lt_of_mem x.2; simp only [Tr.mk.sizeOf_spec]; omega)
theorem pt_eq (b : Bool) (k : Int) (n : ByteArray) (ps : List Tr) : pt b (.mk k n ps) = ptK b k n ps (ps.map (pt b)) (ps.map (pt (!b))) := by
  rw [pt]
  have e : ∀ c, (ps.attach.map fun x => pt c x.1) = ps.map (pt c) := fun c => by simp
  rw [e, e]
theorem pt_not (b : Bool) (n : ByteArray) (x : Tr) : pt b (.mk 4 n [x]) = pt (!b) x := by rw [pt_eq]; rfl
theorem pt_row {b : Bool} {k : Int} {n : ByteArray} {ps : List Tr} (hk : k = 5 ∨ k = 6) : pt b (.mk k n ps) = .mk (if b then 11 - k else k) (bA []) (rowJ (if b then 11 - k else k) (ps.map (pt b))) := by
  rw [pt_eq]; unfold ptK; rw [if_neg (by omega), if_pos hk]
theorem pt_leaf {b : Bool} {k : Int} {n : ByteArray} {ps : List Tr} (h4 : k ≠ 4) (hk : ¬ (k = 5 ∨ k = 6)) : pt b (.mk k n ps) = if b then (if k = 1 then .mk 4 (bA []) [.mk k n ps] else .mk (5 - k) (bA []) []) else .mk k n ps := by
  rw [pt_eq]; unfold ptK; rw [if_neg h4, if_neg hk]
theorem fit_row {k : Int} {m : Nat} (hk : k = 5 ∨ k = 6) (hm : 2 ≤ m) : cd.fitB ⟨k, bA [], 0⟩ m = true := by
  unfold cd.fitB
  simp only
  rw [if_neg (by omega), if_neg (by omega), if_neg (by omega)]
  simp [hk, hm]
  rw [ByteArray.toList_eq]
  rfl
theorem fit_not : cd.fitB ⟨4, bA [], 0⟩ 1 = true := by
  unfold cd.fitB
  simp
  rw [ByteArray.toList_eq]
  rfl
theorem fit_const {k : Int} (hk : k = 2 ∨ k = 3) : cd.fitB ⟨k, bA [], 0⟩ 0 = true := by
  unfold cd.fitB
  simp only
  rw [if_neg (by omega), if_pos hk]
  simp
  rw [ByteArray.toList_eq]
  rfl
/-- By cases of what can be. -/
theorem tok_cases {k : Int} {n : ByteArray} {ps : List Tr} (h : TOk (.mk k n ps)) : (k = 1 ∧ ps = []) ∨ (n = bA [] ∧ ps = [] ∧ (k = 2 ∨ k = 3)) ∨ (n = bA [] ∧ k = 4 ∧ ∃ x, ps = [x] ∧ TOk x) ∨ (n = bA [] ∧ (k = 5 ∨ k = 6) ∧ 2 ≤ ps.length ∧ ∀ x ∈ ps, TOk x) := by
  obtain ⟨hf, hps⟩ := (TOk_eq k n ps).1 h
  rcases fit_leaf hf with ⟨rfl, hm, _⟩ | ⟨rfl, ⟨rfl, hm⟩ | ⟨rfl, hm⟩ | ⟨rfl, hm⟩ | ⟨hk, hm⟩⟩
  · exact .inl ⟨rfl, List.eq_nil_of_length_eq_zero hm⟩
  · exact .inr (.inl ⟨rfl, List.eq_nil_of_length_eq_zero hm, .inl rfl⟩)
  · exact .inr (.inl ⟨rfl, List.eq_nil_of_length_eq_zero hm, .inr rfl⟩)
  · obtain ⟨x, rfl⟩ := List.length_eq_one_iff.1 hm
    exact .inr (.inr (.inl ⟨rfl, rfl, x, rfl, hps x List.mem_cons_self⟩))
  · exact .inr (.inr (.inr ⟨rfl, hk, hm, hps⟩))
theorem rowJ_mem {K : Int} {ms : List Tr} {y : Tr} : y ∈ rowJ K ms ↔ ∃ m ∈ ms, (m.kind = K ∧ y ∈ m.parts) ∨ (m.kind ≠ K ∧ y = m) := by
  unfold rowJ
  rw [List.mem_flatMap]
  constructor
  · rintro ⟨m, hm, hy⟩
    by_cases h : m.kind = K
    · rw [if_pos h] at hy; exact ⟨m, hm, .inl ⟨h, hy⟩⟩
    · rw [if_neg h] at hy; exact ⟨m, hm, .inr ⟨h, List.mem_singleton.1 hy⟩⟩
  · rintro ⟨m, hm, ⟨h, hy⟩ | ⟨h, hy⟩⟩
    · exact ⟨m, hm, by rw [if_pos h]; exact hy⟩
    · exact ⟨m, hm, by rw [if_neg h]; exact List.mem_singleton.2 hy⟩
theorem rowJ_len {K : Int} (hK : K = 5 ∨ K = 6) : ∀ ms : List Tr, (∀ m ∈ ms, TOk m) → ms.length ≤ (rowJ K ms).length
  | [], _ => by simp
  | m :: ms, h => by
    have ih := rowJ_len hK ms (fun x hx => h x (List.mem_cons_of_mem _ hx))
    have e : rowJ K (m :: ms) = (if m.kind = K then m.parts else [m]) ++ rowJ K ms := rfl
    rw [e, List.length_append, List.length_cons]
    have : 1 ≤ (if m.kind = K then m.parts else [m]).length := by
      by_cases hk : m.kind = K
      · rw [if_pos hk]
        obtain ⟨k, n, ps⟩ := m
        have hk' : k = K := hk
        rcases tok_cases (h _ List.mem_cons_self) with ⟨rfl, _⟩ | ⟨_, _, h2⟩ | ⟨_, rfl, _⟩ | ⟨_, _, h2, _⟩
        · omega
        · omega
        · omega
        · show 1 ≤ ps.length; omega
      · rw [if_neg hk]; simp
    omega
theorem tok_parts {m : Tr} (h : TOk m) : ∀ y ∈ m.parts, TOk y := by
  obtain ⟨k, n, ps⟩ := m
  exact ((TOk_eq k n ps).1 h).2
def tK (b : Bool) (k : Int) : Int := if b then 11 - k else k
theorem tK_row {b : Bool} {k : Int} (h : k = 5 ∨ k = 6) : tK b k = 5 ∨ tK b k = 6 := by unfold tK; cases b <;> simp <;> omega
/-- The plain form can be. -/
theorem pt_ok : ∀ (t : Tr) (b : Bool), TOk t → TOk (pt b t)
  | .mk k n ps, b, ht => by
    have ih : ∀ x ∈ ps, ∀ c, TOk (pt c x) := fun x hx c => pt_ok x c (((TOk_eq k n ps).1 ht).2 x hx)
    rcases tok_cases ht with ⟨rfl, rfl⟩ | ⟨rfl, rfl, hk⟩ | ⟨rfl, rfl, x, rfl, hx⟩ | ⟨rfl, hk, h2, hps⟩
    · rw [pt_leaf (by omega) (by omega)]
      cases b with
      | false => exact ht
      | true =>
        refine (TOk_eq _ _ _).2 ⟨fit_not, fun x hx => ?_⟩
        rw [List.mem_singleton.1 hx]
        exact ht
    · rw [pt_leaf (by omega) (by omega)]
      cases b with
      | false => exact ht
      | true =>
        show TOk (if k = 1 then _ else _)
        rw [if_neg (by omega)]
        exact (TOk_eq _ _ _).2 ⟨fit_const (by omega), by simp⟩
    · rw [pt_not]
      exact ih x List.mem_cons_self (!b)
    · rw [pt_row hk]
      have hK : (if b then 11 - k else k) = 5 ∨ (if b then 11 - k else k) = 6 := tK_row (b := b) hk
      have ihm : ∀ m ∈ ps.map (pt b), TOk m := fun m hm => by
        obtain ⟨x, hx, rfl⟩ := List.mem_map.1 hm
        exact ih x hx b
      refine (TOk_eq _ _ _).2 ⟨fit_row hK ?_, fun y hy => ?_⟩
      · have := rowJ_len hK _ ihm
        rw [List.length_map] at this
        omega
      · obtain ⟨m, hm, ⟨_, h⟩ | ⟨_, rfl⟩⟩ := rowJ_mem.1 hy
        · exact tok_parts (ihm m hm) y h
        · exact ihm _ hm
termination_by t => SizeOf.sizeOf t
decreasing_by all_goals (first | (have h := List.sizeOf_lt_of_mem hx; simp only [Tr.mk.sizeOf_spec]; omega) | (simp only [Tr.mk.sizeOf_spec, List.cons.sizeOf_spec]; omega))
/-- Plain already. -/
def Pn : Tr → Prop
  | .mk k n ps => (k = 4 → ∀ x ∈ ps, x.kind = 1) ∧ ((k = 5 ∨ k = 6) → ∀ x ∈ ps, x.kind ≠ k) ∧ ∀ x, (h : x ∈ ps) → Pn x
termination_by t => SizeOf.sizeOf t
decreasing_by (have h := List.sizeOf_lt_of_mem h; simp only [Tr.mk.sizeOf_spec]; omega)
theorem Pn_eq (k : Int) (n : ByteArray) (ps : List Tr) : Pn (.mk k n ps) ↔ (k = 4 → ∀ x ∈ ps, x.kind = 1) ∧ ((k = 5 ∨ k = 6) → ∀ x ∈ ps, x.kind ≠ k) ∧ ∀ x ∈ ps, Pn x := by rw [Pn]
theorem pn_leaf {k : Int} {n : ByteArray} : Pn (.mk k n []) := (Pn_eq _ _ _).2 ⟨by simp, by simp, by simp⟩
theorem pt_pn : ∀ (t : Tr) (b : Bool), TOk t → Pn (pt b t)
  | .mk k n ps, b, ht => by
    have ih : ∀ x ∈ ps, ∀ c, Pn (pt c x) := fun x hx c => pt_pn x c (((TOk_eq k n ps).1 ht).2 x hx)
    rcases tok_cases ht with ⟨rfl, rfl⟩ | ⟨rfl, rfl, hk⟩ | ⟨rfl, rfl, x, rfl, hx⟩ | ⟨rfl, hk, h2, hps⟩
    · rw [pt_leaf (by omega) (by omega)]
      cases b with
      | false => exact pn_leaf
      | true =>
        refine (Pn_eq _ _ _).2 ⟨fun _ x hx => ?_, (fun h => by omega), fun x hx => ?_⟩
        · rw [List.mem_singleton.1 hx]; rfl
        · rw [List.mem_singleton.1 hx]; exact pn_leaf
    · rw [pt_leaf (by omega) (by omega)]
      cases b with
      | false => exact pn_leaf
      | true =>
        show Pn (if k = 1 then _ else _)
        rw [if_neg (by omega)]
        exact pn_leaf
    · rw [pt_not]
      exact ih x List.mem_cons_self (!b)
    · rw [pt_row hk]
      have hK : (if b then 11 - k else k) = 5 ∨ (if b then 11 - k else k) = 6 := tK_row (b := b) hk
      have ihm : ∀ m ∈ ps.map (pt b), Pn m := fun m hm => by
        obtain ⟨x, hx, rfl⟩ := List.mem_map.1 hm
        exact ih x hx b
      refine (Pn_eq _ _ _).2 ⟨(fun h => by omega), fun _ y hy => ?_, fun y hy => ?_⟩
      · obtain ⟨m, hm, ⟨h1, h⟩ | ⟨h1, rfl⟩⟩ := rowJ_mem.1 hy
        · obtain ⟨k', n', ps'⟩ := m
          have h1' : k' = (if b then 11 - k else k) := h1
          have := ((Pn_eq _ _ _).1 (ihm _ hm)).2.1 (by rw [h1']; exact hK) y h
          rw [h1'] at this
          exact this
        · exact h1
      · obtain ⟨m, hm, ⟨_, h⟩ | ⟨_, rfl⟩⟩ := rowJ_mem.1 hy
        · obtain ⟨k', n', ps'⟩ := m
          exact ((Pn_eq _ _ _).1 (ihm _ hm)).2.2 y h
        · exact ihm _ hm
termination_by t => SizeOf.sizeOf t
decreasing_by all_goals (first | (have h := List.sizeOf_lt_of_mem hx; simp only [Tr.mk.sizeOf_spec]; omega) | (simp only [Tr.mk.sizeOf_spec, List.cons.sizeOf_spec]; omega))
theorem rowJ_same {K : Int} : ∀ {ms : List Tr}, (∀ m ∈ ms, m.kind ≠ K) → rowJ K ms = ms
  | [], _ => rfl
  | m :: ms, h => by
    have e : rowJ K (m :: ms) = (if m.kind = K then m.parts else [m]) ++ rowJ K ms := rfl
    rw [e, if_neg (h m List.mem_cons_self), rowJ_same (fun x hx => h x (List.mem_cons_of_mem _ hx))]
    rfl
/-- What is plain stays as it is. -/
theorem pt_same : ∀ (t : Tr), TOk t → Pn t → pt false t = t
  | .mk k n ps, ht, hp => by
    obtain ⟨p1, p2, p3⟩ := (Pn_eq _ _ _).1 hp
    rcases tok_cases ht with ⟨rfl, rfl⟩ | ⟨rfl, rfl, hk⟩ | ⟨rfl, rfl, x, rfl, hx⟩ | ⟨rfl, hk, h2, hps⟩
    · rw [pt_leaf (by omega) (by omega)]; rfl
    · rw [pt_leaf (by omega) (by omega)]; rfl
    · rw [pt_not]
      obtain ⟨k', n', ps'⟩ := x
      have hk' : k' = 1 := p1 rfl _ List.mem_cons_self
      subst hk'
      rw [pt_leaf (by omega) (by omega)]
      rfl
    · rw [pt_row hk]
      have e : ps.map (pt false) = ps := by
        conv => rhs; rw [← List.map_id ps]
        exact List.map_congr_left fun x hx => pt_same x (hps x hx) (p3 x hx)
      rw [e]
      show Tr.mk k (bA []) (rowJ k ps) = _
      rw [rowJ_same (p2 hk)]
termination_by t => SizeOf.sizeOf t
decreasing_by all_goals (first | (have h := List.sizeOf_lt_of_mem hx; simp only [Tr.mk.sizeOf_spec]; omega) | (simp only [Tr.mk.sizeOf_spec, List.cons.sizeOf_spec]; omega))
theorem pt_twice {t : Tr} (b : Bool) (h : TOk t) : pt false (pt b t) = pt b t := pt_same _ (pt_ok t b h) (pt_pn t b h)
end Go.Proofs.YtnhddnfobcofcaaGreatDoor.cr
