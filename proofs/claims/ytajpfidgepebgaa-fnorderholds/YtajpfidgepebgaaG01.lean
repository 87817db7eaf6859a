import Derived.WalkKit
import Derived.ProofKit
import Derived.OpenShut
import Derived.Below
import Derived.WalkSpells
import Derived.WalkSmall
import Derived.WalkLawsBesides
import Derived.Deep.OwnRows
import Derived.Lib.SlBytesRow
import Derived.Lib.BufferRead
import Derived.Laws.Bits64b
import Derived.Test.YtajpfidgepebgaaRows
import Derived.Deep.QuietTactic
import Derived.BigQuiet
import Derived.LaidLaws
import Derived.ChangeArms
import Derived.ChangeSame
import Derived.Deep.Slices
import Derived.Deep.RegionWith
import Derived.Lib.Hide
import Derived.Deep.RegionHeld3
import Derived.Maps.AppendAt
import Derived.Handy
namespace Go.Proofs.Ytajpfidgepebgaa
open Go.ChangeShapes Go.WideShapes Go.ChangeAt Go.RowKit Go.Deep
set_option linter.unusedVariables false

theorem ret_bool {a b : Bool} (h : a = b) : Ending.returned (.bool a) = .returned (.bool b) := by rw [h]
theorem ret_int {k : IntKind} {a b : Int} (h : a = b) : Ending.returned (.int k a) = .returned (.int k b) := by rw [h]
theorem ret_str {a b : ByteArray} (h : a = b) : Ending.returned (.string a) = .returned (.string b) := by rw [h]

theorem addr_add (b off i : Nat) : (⟨b, off, none⟩ : Addr).add i = ⟨b, off + i, none⟩ := by
  unfold Addr.add
  by_cases h : i = 0 <;> simp [h]

/-- An append to a slice of the call's own, of one-cell elements, what is known of the element type being one closed fact. -/
theorem app_own {P : Program} (w : World) {ops : Array Oper} {rest : List Oper} {o : Oper} {a : Act} {Q : Exit → Act → World → Prop} (hgd : o.guard = none) (s x : Operand) (t : TypeId)
    (ho : o.op = .call { callee := .builtin .append, args := #[s, x], argTypes := #[t, t] })
    (base : Nat) (e : TypeId) (z : Value) (bytes : Nat) (ht : P.underlying t = some (.slice e)) (hinfo : (P.info? e).map (fun i => (i.zero, i.size, i.bytes)) = some (some z, 1, bytes)) (hzs : z.cells.size = 1)
    (v : Value) (n : Nat) (xs : List Value) (hs : a.eval s = v) (hown : w.ownsRow base e 1 v n xs)
    (ad : Addr) (m c : Nat) (news : List Value) (hx : a.eval x = .slice (some ad) m c) (hl : news.length = m) (hnews : ∀ j u, news[j]? = some u → w.cell? (ad.add j) = some u) (h1 : ∀ u ∈ news, u.oneCell' = true)
    (h63 : n + m ≤ maxLen) (hbytes : (n + m) * bytes ≤ 140737488355328) (hbase : base ≤ w.heap.size)
    (h : ∀ v' w', w'.ownsRow base e 1 v' (n + m) (xs ++ news) → w.grownBy w' v.ownBlock → wpList P ops Q rest (a.put o.dst v') w') : wpList P ops Q (o :: rest) a w := by
  obtain ⟨i, hi, hzz⟩ := Option.map_eq_some_iff.1 hinfo
  simp only [Prod.mk.injEq] at hzz
  obtain ⟨hz, hsz, hb⟩ := hzz
  exact wpList_append_own w hgd s x t ho base e i z 1 bytes ht hi hz hsz hb hzs (by decide) v n xs hs hown ad m c news hx (by simpa using hl) hnews h1 h63 hbytes hbase (fun v' w' a b _ => h v' w' a b)

/-- The same, of elements of several cells. -/
theorem app_ownS {P : Program} (w : World) {ops : Array Oper} {rest : List Oper} {o : Oper} {a : Act} {Q : Exit → Act → World → Prop} (hgd : o.guard = none) (s x : Operand) (t : TypeId)
    (ho : o.op = .call { callee := .builtin .append, args := #[s, x], argTypes := #[t, t] })
    (base : Nat) (e : TypeId) (z : Value) (size bytes : Nat) (ht : P.underlying t = some (.slice e)) (hinfo : (P.info? e).map (fun i => (i.zero, i.size, i.bytes)) = some (some z, size, bytes)) (hzs : z.cells.size = size) (hsz : 0 < size)
    (v : Value) (n : Nat) (xs : List Value) (hs : a.eval s = v) (hown : w.ownsRow base e size v n xs)
    (ad : Addr) (m c : Nat) (news : List Value) (hx : a.eval x = .slice (some ad) m c) (hl : news.length = m * size) (hnews : ∀ j u, news[j]? = some u → w.cell? (ad.add j) = some u) (h1 : ∀ u ∈ news, u.oneCell' = true)
    (h63 : n + m ≤ maxLen) (hbytes : (n + m) * bytes ≤ 140737488355328) (hbase : base ≤ w.heap.size)
    (h : ∀ v' w', w'.ownsRow base e size v' (n + m) (xs ++ news) → w.grownBy w' v.ownBlock → wpList P ops Q rest (a.put o.dst v') w') : wpList P ops Q (o :: rest) a w := by
  obtain ⟨i, hi, hzz⟩ := Option.map_eq_some_iff.1 hinfo
  simp only [Prod.mk.injEq] at hzz
  obtain ⟨hz, hsi, hb⟩ := hzz
  exact wpList_append_own w hgd s x t ho base e i z size bytes ht hi hz hsi hb hzs hsz v n xs hs hown ad m c news hx hl hnews h1 h63 hbytes hbase (fun v' w' a b _ => h v' w' a b)

theorem below_grownS {w wr : World} {w' : World} {base : Nat} {e : TypeId} {size : Nat} {v : Value} {n : Nat} {xs : List Value} (hb : Below base w wr) (hown : wr.ownsRow base e size v n xs) (hg : wr.grownBy w' v.ownBlock) (hB : base ≤ wr.heap.size) : Below base w w' :=
  hb.grown hg hB (fun k hk => (hown.lt k hk).1)

theorem one_new (w : World) (u : Value) (e : TypeId) : ∀ j v, [u][j]? = some v → (w.alloc (.cells #[u] e)).cell? ((⟨w.heap.size, 0, none⟩ : Addr).add j) = some v := by
  intro j v h
  match j, h with
  | 0, h =>
    obtain rfl : u = v := by simpa using h
    simp [Addr.add]

theorem below_grown {w wr : World} {w' : World} {base : Nat} {e : TypeId} {v : Value} {n : Nat} {xs : List Value} (hb : Below base w wr) (hown : wr.ownsRow base e 1 v n xs) (hg : wr.grownBy w' v.ownBlock) (hB : base ≤ wr.heap.size) : Below base w w' :=
  hb.grown hg hB (fun k hk => (hown.lt k hk).1)

theorem own_below {w w' : World} {base : Nat} {e : TypeId} {size : Nat} {v : Value} {n : Nat} {xs : List Value} (h : w.ownsRow base e size v n xs) (hb : Below w.heap.size w w') : w'.ownsRow base e size v n xs :=
  h.kept (row := none) ⟨hb.os, hb.tape, hb.output, hb.size, fun k hk _ => hb.block k hk⟩ (by cases v.ownBlock <;> simp)

theorem bcell {W w1 : World} (hb : Below W.heap.size W w1) : (∀ b o, b < W.heap.size → w1.cell? ⟨b, o, none⟩ = W.cell? ⟨b, o, none⟩) ∧ (∀ b o, b < W.heap.size → w1.frozen? ⟨b, o, none⟩ = W.frozen? ⟨b, o, none⟩) :=
  ⟨fun b o h => hb.cell (p := ⟨b, o, none⟩) h, fun b o h => hb.frozen (p := ⟨b, o, none⟩) h⟩

theorem own_shape {w : World} {base : Nat} {e : TypeId} {size : Nat} {v : Value} {n : Nat} {xs : List Value} (h : w.ownsRow base e size v n xs) : ∃ a cap, v = .slice a n cap := by
  rcases h.2 with ⟨rfl, rfl⟩ | ⟨g, cap, cur, rfl, _⟩
  · exact ⟨_, _, rfl⟩
  · exact ⟨_, _, rfl⟩

theorem byte_ne {a b : UInt8} (h : ¬ a = b) : ((a.toNat : Int) == (b.toNat : Int)) = false := by
  rw [beq_eq_false_iff_ne]
  intro e
  exact h (UInt8.toNat_inj.1 (by omega))

/-- The bytes of a text, as cells. -/
def byteCells (l : List UInt8) : List Value := l.map fun b => Value.int .u8 (b.toNat : Int)

theorem byteCells_append (l m : List UInt8) : byteCells (l ++ m) = byteCells l ++ byteCells m := by simp [byteCells]
theorem byteCells_one (b : UInt8) : byteCells [b] = [Value.int .u8 (b.toNat : Int)] := rfl
theorem byteCells_oneCell (l : List UInt8) : ∀ u ∈ byteCells l, u.oneCell' = true := by
  intro u hu
  obtain ⟨b, _, rfl⟩ := List.mem_map.1 hu
  rfl

/-- 'string(b)' of a row of the call's own. -/
theorem own_string {P : Program} {w : World} {base e src dst : Nat} {v : Value} {n : Nat} {l : List UInt8} (hs : P.underlying src = some (.slice e)) (he : P.underlying e = some (.int .u8)) (hd : P.underlying dst = some .string)
    (h : w.ownsRow base e 1 v n (byteCells l)) : (convert src dst v).run P w = .ok (.string ⟨l.toArray⟩) w := by
  obtain ⟨hl, h⟩ := h
  have hl' : l.length = n := by simpa [byteCells] using hl
  rcases h with ⟨rfl, rfl⟩ | ⟨g, cap, cur, rfl, hb, hg, hc, hm, hz, ht⟩
  · have : l = [] := List.length_eq_zero_iff.1 hl'
    subst this
    exact Lib.run_convert_nil_bytes w src dst e 0 hs he hd
  · subst hl'
    have hB : Lib.Bytes w g 0 ⟨l.toArray⟩ := fun i hi => by
      have hi' : i < l.length := by simpa [ByteArray.size] using hi
      have e1 : (byteCells l)[i]? = some (Value.int .u8 (l[i].toNat : Int)) := by simp [byteCells, hi']
      rw [← ht, List.getElem?_take_of_lt (by omega)] at e1
      have e2 : cur[i]? = some (Value.int .u8 (l[i].toNat : Int)) := by simpa using e1
      rw [Nat.zero_add]
      simp only [World.cell?, hg]
      show cur[i]? = _
      rw [e2]
      rfl
    have := Lib.run_convert_whole (P := P) w src e dst hs he hd g 0 ⟨l.toArray⟩ hB cap
    simpa [ByteArray.size] using this

end Go.Proofs.Ytajpfidgepebgaa

namespace Go.Proofs.Ytajpfidgepebgaa.nm
open Go.ChangeShapes Go.WideShapes Go.ChangeAt Go.RowKit Go.Deep
set_option linter.unusedVariables false

def letB (c : Int) : Bool := decide (97 ≤ c ∧ c ≤ 122 ∨ 65 ≤ c ∧ c ≤ 90)
def digB (c : Int) : Bool := decide (48 ≤ c ∧ c ≤ 57)
def okB (c : Int) : Bool := letB c || digB c || (c == 45) || (c == 95) || (c == 46) || (c == 43)

theorem letter_any (c : Int) (w : World) :
    Calls Try.prog 51 #[.int .u8 c] w fun e w' => e = .returned (.bool (letB c)) ∧ w' = w := by
  go_enter Try.func51, Try.ntmps51
  go_wp2
  all_goals go_ret
  all_goals refine ⟨ret_bool ?_, rfl⟩
  all_goals (rw [Bool.eq_iff_iff]; simp [letB]; omega)

theorem digit_any (c : Int) (w : World) :
    Calls Try.prog 52 #[.int .u8 c] w fun e w' => e = .returned (.bool (digB c)) ∧ w' = w := by
  go_enter Try.func52, Try.ntmps52
  go_wp2
  all_goals go_ret
  all_goals refine ⟨ret_bool ?_, rfl⟩
  all_goals (rw [Bool.eq_iff_iff]; simp [digB]; omega)

theorem isLetter_any (c : Int) (w : World) :
    Calls Try.prog 78 #[.int .i32 c] w fun e w' => e = .returned (.bool (letB c)) ∧ w' = w := by
  go_enter Try.func78, Try.ntmps78
  go_wp2
  all_goals go_ret
  all_goals refine ⟨ret_bool ?_, rfl⟩
  all_goals (rw [Bool.eq_iff_iff]; simp [letB]; omega)

theorem isDigit_any (c : Int) (w : World) :
    Calls Try.prog 79 #[.int .i32 c] w fun e w' => e = .returned (.bool (digB c)) ∧ w' = w := by
  go_enter Try.func79, Try.ntmps79
  go_wp2
  all_goals go_ret
  all_goals refine ⟨ret_bool ?_, rfl⟩
  all_goals (rw [Bool.eq_iff_iff]; simp [digB]; omega)

theorem inName_any (c : Int) (h0 : 0 ≤ c) (h1 : c ≤ 255) (w : World) :
    Calls Try.prog 70 #[.int .u8 c] w fun e w' => e = .returned (.bool (okB c)) ∧ w' = w := by
  go_enter Try.func70, Try.ntmps70
  go_wp2_with (first
    | (go_at_call 78; refine (isLetter_any _ _).mono ?_; rintro e w' ⟨rfl, rfl⟩)
    | (go_at_call 79; refine (isDigit_any _ _).mono ?_; rintro e w' ⟨rfl, rfl⟩))
  all_goals go_ret
  all_goals refine ⟨ret_bool ?_, rfl⟩
  all_goals simp [okB, *]

def allOk (s : ByteArray) (k : Nat) : Bool := (s.data.toList.take k).all fun c => okB (c.toNat : Int)
def nameB (s : ByteArray) : Bool := decide (1 ≤ s.size) && decide (s.size ≤ 60) && !(((s.data.toList[0]?.getD 0).toNat : Int) == 46) && allOk s s.size

theorem take_snoc (s : ByteArray) (k : Nat) (h : k < s.size) : s.data.toList.take (k + 1) = s.data.toList.take k ++ [s[k]] := by
  rw [List.take_succ_eq_append_getElem (by simpa using h)]; rfl

theorem allOk_succ (s : ByteArray) (k : Nat) (h : k < s.size) : allOk s (k + 1) = (allOk s k && okB (s[k].toNat : Int)) := by
  unfold allOk
  rw [take_snoc s k h, List.all_append]
  simp

theorem allOk_false {s : ByteArray} {k : Nat} (h : k < s.size) (ho : okB (s[k].toNat : Int) = false) : allOk s s.size = false := by
  rw [Bool.eq_false_iff]
  intro hall
  unfold allOk at hall
  rw [List.all_eq_true] at hall
  have := hall s[k] (by rw [List.take_of_length_le (by simp)]; exact List.getElem_mem (l := s.data.toList) (by simpa using h))
  rw [ho] at this
  cases this

theorem get0 {s : ByteArray} (h : 0 < s.size) : s.data.toList[0]?.getD 0 = s[0] := by
  rw [List.getElem?_eq_getElem (by simpa using h)]; rfl

theorem name_dot {s : ByteArray} (h0 : 0 < s.size) (h3 : ((s[0].toNat : Int) == 46) = true) : nameB s = false := by
  unfold nameB
  rw [get0 h0, h3]
  simp

theorem impl_any (s : ByteArray) (hs : s.size ≤ 1048576) (w : World) :
    Calls Try.prog 56 #[.string s] w fun e w' => e = .returned (.bool (nameB s)) ∧ w' = w := by
  by_cases h1 : s.size < 1
  · go_enter Try.func56, Try.ntmps56
    go_wp2
    go_ret
    exact ⟨ret_bool (by simp [nameB]; omega), rfl⟩
  by_cases h2 : 60 < s.size
  · go_enter Try.func56, Try.ntmps56
    go_wp2
    go_ret
    exact ⟨ret_bool (by simp [nameB]; omega), rfl⟩
  have h0 : 0 < s.size := by omega
  by_cases h3 : ((s[0].toNat : Int) == 46) = true
  · go_enter Try.func56, Try.ntmps56
    go_wp2
    go_ret
    exact ⟨ret_bool (name_dot h0 h3).symm, rfl⟩
  have h3' : ((s[0].toNat : Int) == 46) = false := by simpa using h3
  have hn : Hid (nameB s = allOk s s.size) := by
    show nameB s = allOk s s.size
    unfold nameB
    rw [get0 h0, h3']
    simp
    omega
  clear h3
  go_enter Try.func56, Try.ntmps56
  go_wp2
  go_loop [3, 19] (fun x i => ∃ k : Nat, k ≤ s.size ∧ i = .int .i64 k ∧ allOk s k = true) (fun _ i => s.size - (intOf i).toNat)
  case atStart => exact ⟨0, Nat.zero_le _, rfl, by simp [allOk]⟩
  case round =>
    obtain ⟨k, hk, rfl, hok⟩ := hrel
    by_cases hlt : k < s.size
    · have hsn : Hid (allOk s (k + 1) = (allOk s k && okB (s[k].toNat : Int))) := allOk_succ s k hlt
      have hb : (0 : Int) ≤ (s[k].toNat : Int) ∧ (s[k].toNat : Int) ≤ 255 := ⟨by omega, by have := s[k].toNat_lt; omega⟩
      by_cases ho : okB (s[k].toNat : Int) = true
      · go_wp2_with (go_at_call 70; refine (inName_any _ hb.1 hb.2 _).mono ?_; rintro e w' ⟨rfl, rfl⟩)
        go_round
        case rel => exact ⟨k + 1, by omega, by go_num, by rw [hsn.out, hok, ho]; rfl⟩
        case measure => simp [intOf]; omega
      · have ho' : okB (s[k].toNat : Int) = false := by simpa using ho
        have hF : Hid (allOk s s.size = false) := allOk_false hlt ho'
        go_wp2_with (go_at_call 70; refine (inName_any _ hb.1 hb.2 _).mono ?_; rintro e w' ⟨rfl, rfl⟩)
        go_ret
        exact ⟨ret_bool (by rw [hn.out, hF.out]), rfl⟩
    · obtain rfl : k = s.size := by omega
      go_wp2
      go_ret
      exact ⟨ret_bool (by rw [hn.out, hok]), rfl⟩

theorem spec_any (s : ByteArray) (hs : s.size ≤ 1048576) (w : World) :
    Calls Try.prog 23 #[.string s] w fun e w' => e = .returned (.bool (nameB s)) ∧ w' = w := by
  by_cases h1 : s.size < 1
  · go_enter Try.func23, Try.ntmps23
    go_wp2
    go_ret
    exact ⟨ret_bool (by simp [nameB]; omega), rfl⟩
  by_cases h2 : 60 < s.size
  · go_enter Try.func23, Try.ntmps23
    go_wp2
    go_ret
    exact ⟨ret_bool (by simp [nameB]; omega), rfl⟩
  have h0 : 0 < s.size := by omega
  by_cases h3 : ((s[0].toNat : Int) == 46) = true
  · go_enter Try.func23, Try.ntmps23
    go_wp2
    go_ret
    exact ⟨ret_bool (name_dot h0 h3).symm, rfl⟩
  have h3' : ((s[0].toNat : Int) == 46) = false := by simpa using h3
  have hn : Hid (nameB s = allOk s s.size) := by
    show nameB s = allOk s s.size
    unfold nameB
    rw [get0 h0, h3']
    simp
    omega
  clear h3
  go_enter Try.func23, Try.ntmps23
  go_wp2
  go_loop [3, 4] (fun i x => ∃ k : Nat, k ≤ s.size ∧ i = .int .i64 k ∧ allOk s k = true) (fun i _ => s.size - (intOf i).toNat)
  case atStart => exact ⟨0, Nat.zero_le _, rfl, by simp [allOk]⟩
  case round =>
    obtain ⟨k, hk, rfl, hok⟩ := hrel
    by_cases hlt : k < s.size
    · have hsn : Hid (allOk s (k + 1) = (allOk s k && okB (s[k].toNat : Int))) := allOk_succ s k hlt
      have hb : (0 : Int) ≤ (s[k].toNat : Int) ∧ (s[k].toNat : Int) ≤ 255 := ⟨by omega, by have := s[k].toNat_lt; omega⟩
      go_wp2_with (first | (go_at_call 51; refine (letter_any _ _).mono ?_; rintro e w' ⟨rfl, rfl⟩) | (go_at_call 52; refine (digit_any _ _).mono ?_; rintro e w' ⟨rfl, rfl⟩))
      all_goals first
        | (go_round
           case rel => exact ⟨k + 1, by omega, by go_num, by rw [hsn.out, hok]; simp [okB, *] <;> (rename_i h; simp at h; omega)⟩
           case measure => simp [intOf]; omega)
        | (go_ret
           exact ⟨ret_bool (by rw [hn.out, allOk_false hlt (by simp [okB, *] <;> (rename_i h; simp at h; omega))]), rfl⟩)
    · obtain rfl : k = s.size := by omega
      go_wp2
      go_ret
      exact ⟨ret_bool (by rw [hn.out, hok]), rfl⟩

end Go.Proofs.Ytajpfidgepebgaa.nm

namespace Go.Proofs.Ytajpfidgepebgaa.ty
open Go.ChangeShapes Go.WideShapes Go.ChangeAt Go.RowKit Go.Deep
set_option linter.unusedVariables false
set_option linter.unusedSimpArgs false

/-! ### Lists that can be read, how much there is, lists that came in -/

/-- A block of the call's own: from lo on, and not frozen (none: whoever's). -/
def Okb (md : Option Nat) (w : World) (b : Nat) : Prop := ∀ lo, md = some lo → lo ≤ b ∧ ∃ cs t, w.heap[b]? = some (.cells cs t (0, 0))

def Kep (md : Option Nat) (w w' : World) : Prop := ∀ j, (∀ lo, md = some lo → lo ≤ j) → j < w.heap.size → w'.heap[j]? = w.heap[j]?

theorem Kep.of_below {md : Option Nat} {w w' : World} (h : Below w.heap.size w w') : Kep md w w' := fun j _ hj => h.block j hj

theorem Okb.kept {md : Option Nat} {w w' : World} {b : Nat} (h : Okb md w b) (hk : w'.heap[b]? = w.heap[b]?) : Okb md w' b := fun lo e => by
  obtain ⟨h1, cs, t, h2⟩ := h lo e
  exact ⟨h1, cs, t, by rw [hk]; exact h2⟩

theorem Okb.free (w : World) (b : Nat) : Okb none w b := fun lo e => by cases e

theorem sum_mem {α : Type} (f : α → Nat) : ∀ {l : List α} {x : α}, x ∈ l → f x ≤ (l.map f).sum
  | y :: l, x, h => by
    rw [List.map_cons, List.sum_cons]
    rcases List.mem_cons.1 h with rfl | h
    · omega
    · have := sum_mem f h; omega

/-- Texts. -/
def SrcS (md : Option Nat) (w : World) (a : Option Addr) (l : List ByteArray) : Prop := (md = none ∧ l = []) ∨ ∃ b o, a = some ⟨b, o, none⟩ ∧ Okb md w b ∧ ∀ (i : Nat) (x : ByteArray), l[i]? = some x → w.cell? ⟨b, o + i, none⟩ = some (.string x)

theorem SrcS.kept {md : Option Nat} {w w' : World} {a : Option Addr} {l : List ByteArray} (h : SrcS md w a l) (hk : Kep md w w') : SrcS md w' a l := by
  cases l with
  | nil =>
    cases md with
    | none => exact .inl ⟨rfl, rfl⟩
    | some lo =>
      rcases h with ⟨h, _⟩ | ⟨b, o, e, h1, h2⟩
      · cases h
      · obtain ⟨g1, cs, t, g2⟩ := h1 lo rfl
        have hh := hk b (fun lo' e => by cases e; exact g1) (Array.getElem?_eq_some_iff.1 g2).1
        exact .inr ⟨b, o, e, h1.kept hh, fun i x hx => by simp at hx⟩
  | cons y l =>
    rcases h with ⟨_, h⟩ | ⟨b, o, e, h1, h2⟩
    · cases h
    · have hb : b < w.heap.size := World.block_lt_of_cell? _ _ (h2 0 y rfl)
      have hh := hk b (fun lo e => (h1 lo e).1) hb
      exact .inr ⟨b, o, e, h1.kept hh, fun i x hx => (World.cell?_of_block (a := ⟨b, _, none⟩) hh).trans (h2 i x hx)⟩

theorem SrcS.below {md : Option Nat} {w w' : World} {a : Option Addr} {l : List ByteArray} (h : SrcS md w a l) (hb : Below w.heap.size w w') : SrcS md w' a l := h.kept (.of_below hb)

theorem SrcS.any {md : Option Nat} {w : World} {a : Option Addr} {l : List ByteArray} (h : SrcS md w a l) : SrcS none w a l := by
  rcases h with h | ⟨b, o, e, h1, h2⟩
  · exact .inl ⟨rfl, h.2⟩
  · exact .inr ⟨b, o, e, Okb.free _ _, h2⟩

theorem SrcS.mono {lo lo' : Nat} {w : World} {a : Option Addr} {l : List ByteArray} (h : SrcS (some lo) w a l) (hl : lo' ≤ lo) : SrcS (some lo') w a l := by
  rcases h with h | ⟨b, o, e, h1, h2⟩
  · cases h.1
  · exact .inr ⟨b, o, e, fun q hq => by cases hq; have := h1 lo rfl; exact ⟨by omega, this.2⟩, h2⟩

def SmS (l : List ByteArray) : Prop := l.length ≤ maxLen ∧ ∀ x ∈ l, x.size ≤ maxLen
def wtkS (l : List ByteArray) (k : Nat) : Nat := ((l.take k).map fun x => x.size).sum
def wtS (l : List ByteArray) : Nat := l.length + wtkS l l.length
theorem wtkS_succ {l : List ByteArray} {k : Nat} {x : ByteArray} (h : l[k]? = some x) : wtkS l (k + 1) = wtkS l k + x.size := by
  unfold wtkS
  rw [List.take_add_one, h]
  simp
theorem wtS_mem {l : List ByteArray} {x : ByteArray} (h : x ∈ l) : l.length + x.size ≤ wtS l := by
  unfold wtS wtkS
  rw [List.take_length]
  have := sum_mem (fun x : ByteArray => x.size) h
  omega
theorem wtS_len (l : List ByteArray) : l.length ≤ wtS l := by unfold wtS; omega

theorem cellsI : Try.prog.cellsOf 2 = 1 := by kernel_rfl
theorem cellsB : Try.prog.cellsOf 4 = 1 := by kernel_rfl
theorem cellsS : Try.prog.cellsOf 9 = 1 := by kernel_rfl
theorem cellsSS : Try.prog.cellsOf 26 = 1 := by kernel_rfl

theorem open_texts {H : Type} {enc : TypeId × Value → H} {w : World} {base : Nat} {sp : Nat → Bool} {held : Bool} {fuel : Nat} {cs : List Value} {x : DataW H × List MemPlace}
    (h : DataW.trod enc Try.prog w base sp held fuel 26 cs = some x) : ∃ a c, ∃ l : List ByteArray, cs = [.slice a l.length c] ∧ SrcS none w a l ∧ SmS l := by
  rcases open_slice Try.underlying26 h with ⟨h0, _⟩ | ⟨a', len', cap', m, n, D, Pl, hcs, hb, hl, hm, hmm, _, hx⟩
  · exact ⟨none, 0, [], by simpa using h0, .inl ⟨rfl, rfl⟩, Nat.zero_le _, fun x hx => by simp at hx⟩
  · have hlm : len' ≤ m := by rw [hmm]; split <;> omega
    have each : ∀ i, i < len' → ∃ e : ByteArray, w.cell? (a'.add i) = some (.string e) ∧ e.size ≤ maxLen := by
      intro i hi
      obtain ⟨cs', h1, h2⟩ := hx i (by omega)
      rw [cellsS] at h1
      obtain ⟨_, hlen, hcell⟩ := World.cells?_some h1
      obtain ⟨e, rfl, _, ht⟩ := DataW.trod_string Try.underlying9 h2
      have e0 := hcell 0 (by omega)
      rw [add_add] at e0
      exact ⟨e, by simpa using e0, ht⟩
    obtain ⟨q, hq⟩ := choose_lt each
    have hln : ((List.range len').map q).length = len' := by simp
    refine ⟨some a', cap', (List.range len').map q, by rw [hln]; exact hcs, ?_, by rw [hln]; omega, fun x hx => ?_⟩
    · rcases Nat.eq_zero_or_pos len' with h0 | h0
      · left
        subst h0
        exact ⟨rfl, rfl⟩
      · obtain ⟨bb, off, spot⟩ := a'
        have hspot : spot = none := by simpa [Addr.add] using World.cell?_spot (hq 0 h0).1
        subst hspot
        refine .inr ⟨bb, off, rfl, Okb.free _ _, fun i x hx => ?_⟩
        have hi : i < len' := by have := (List.getElem?_eq_some_iff.1 hx).1; rwa [hln] at this
        have : x = q i := by simp [hi] at hx; exact hx.symm
        subst this
        have k0 := (hq i hi).1
        rw [addr_add] at k0
        exact k0
    · obtain ⟨i, hi, rfl⟩ := List.mem_map.1 hx
      exact (hq i (List.mem_range.1 hi)).2

structure Un where
  fName : ByteArray
  fAfter : List ByteArray
  fNeeds : List ByteArray
  fExec : ByteArray
  fKeep : Bool

instance : Inhabited Un := ⟨⟨⟨#[]⟩, [], [], ⟨#[]⟩, false⟩⟩

/-- One of them, as it can be read. -/
def CUn (md : Option Nat) (w : World) (b o : Nat) (x : Un) : Prop := ∃ a1 c1, ∃ a2 c2, w.cell? ⟨b, o, none⟩ = some (.string x.fName) ∧ w.cell? ⟨b, o + 1, none⟩ = some (.slice a1 x.fAfter.length c1) ∧ w.cell? ⟨b, o + 2, none⟩ = some (.slice a2 x.fNeeds.length c2) ∧ w.cell? ⟨b, o + 3, none⟩ = some (.string x.fExec) ∧ w.cell? ⟨b, o + 4, none⟩ = some (.bool x.fKeep) ∧ SrcS md w a1 x.fAfter ∧ SrcS md w a2 x.fNeeds ∧ (∀ lo, md = some lo → c1 = x.fAfter.length) ∧ (∀ lo, md = some lo → c2 = x.fNeeds.length)

def SrcUn (md : Option Nat) (w : World) (a : Option Addr) (l : List Un) : Prop := (md = none ∧ l = []) ∨ ∃ b o, a = some ⟨b, o, none⟩ ∧ Okb md w b ∧ ∀ (i : Nat) (x : Un), l[i]? = some x → CUn md w b (o + i * 5) x

theorem CUn.kept {md : Option Nat} {w w' : World} {b o : Nat} {x : Un} (h : CUn md w b o x) (hb : ∀ j, j < 5 → w'.cell? ⟨b, o + j, none⟩ = w.cell? ⟨b, o + j, none⟩) (hk : Kep md w w') : CUn md w' b o x := by
  obtain ⟨a1, c1, a2, c2, h0, h1, h2, h3, h4, s1, s2, t1, t2⟩ := h
  exact ⟨a1, c1, a2, c2, (hb 0 (by omega)).trans h0, (hb 1 (by omega)).trans h1, (hb 2 (by omega)).trans h2, (hb 3 (by omega)).trans h3, (hb 4 (by omega)).trans h4, s1.kept hk, s2.kept hk, t1, t2⟩

theorem CUn.any {md : Option Nat} {w : World} {b o : Nat} {x : Un} (h : CUn md w b o x) : CUn none w b o x := by
  obtain ⟨a1, c1, a2, c2, h0, h1, h2, h3, h4, s1, s2, t1, t2⟩ := h
  exact ⟨a1, c1, a2, c2, h0, h1, h2, h3, h4, s1.any, s2.any, (fun lo e => by cases e), (fun lo e => by cases e)⟩

theorem CUn.mono {lo lo' : Nat} {w : World} {b o : Nat} {x : Un} (h : CUn (some lo) w b o x) (hl : lo' ≤ lo) : CUn (some lo') w b o x := by
  obtain ⟨a1, c1, a2, c2, h0, h1, h2, h3, h4, s1, s2, t1, t2⟩ := h
  exact ⟨a1, c1, a2, c2, h0, h1, h2, h3, h4, s1.mono hl, s2.mono hl, (fun q hq => t1 lo rfl), (fun q hq => t2 lo rfl)⟩

theorem CUn.below {md : Option Nat} {w w' : World} {b o : Nat} {x : Un} (h : CUn md w b o x) (hb : Below w.heap.size w w') : CUn md w' b o x := by
  have hlt : b < w.heap.size := by
    obtain ⟨a1, c1, a2, c2, h0, h1, h2, h3, h4, s1, s2, t1, t2⟩ := h
    exact World.block_lt_of_cell? _ _ h0
  exact h.kept (fun j _ => World.cell?_of_block (a := ⟨b, _, none⟩) (hb.block b hlt)) (.of_below hb)

theorem SrcUn.kept {md : Option Nat} {w w' : World} {a : Option Addr} {l : List Un} (h : SrcUn md w a l) (hk : Kep md w w') : SrcUn md w' a l := by
  cases l with
  | nil =>
    cases md with
    | none => exact .inl ⟨rfl, rfl⟩
    | some lo =>
      rcases h with ⟨h, _⟩ | ⟨b, o, e, k1, k2⟩
      · cases h
      · obtain ⟨g1, cs, t, g2⟩ := k1 lo rfl
        have hh := hk b (fun lo' e => by cases e; exact g1) (Array.getElem?_eq_some_iff.1 g2).1
        exact .inr ⟨b, o, e, k1.kept hh, fun i x hx => by simp at hx⟩
  | cons y l =>
    rcases h with ⟨_, h⟩ | ⟨b, o, e, k1, k2⟩
    · cases h
    · have hb : b < w.heap.size := by
        obtain ⟨a1, c1, a2, c2, h0, h1, h2, h3, h4, s1, s2, t1, t2⟩ := k2 0 y rfl
        exact World.block_lt_of_cell? _ _ h0
      have hh := hk b (fun lo e => (k1 lo e).1) hb
      exact .inr ⟨b, o, e, k1.kept hh, fun i x hx => (k2 i x hx).kept (fun j _ => World.cell?_of_block (a := ⟨b, _, none⟩) hh) hk⟩

theorem SrcUn.below {md : Option Nat} {w w' : World} {a : Option Addr} {l : List Un} (h : SrcUn md w a l) (hb : Below w.heap.size w w') : SrcUn md w' a l := h.kept (.of_below hb)

theorem SrcUn.any {md : Option Nat} {w : World} {a : Option Addr} {l : List Un} (h : SrcUn md w a l) : SrcUn none w a l := by
  rcases h with h | ⟨b, o, e, k1, k2⟩
  · exact .inl ⟨rfl, h.2⟩
  · exact .inr ⟨b, o, e, Okb.free _ _, fun i x hx => (k2 i x hx).any⟩

theorem SrcUn.mono {lo lo' : Nat} {w : World} {a : Option Addr} {l : List Un} (h : SrcUn (some lo) w a l) (hl : lo' ≤ lo) : SrcUn (some lo') w a l := by
  rcases h with h | ⟨b, o, e, k1, k2⟩
  · cases h.1
  · exact .inr ⟨b, o, e, fun q hq => by cases hq; have := k1 lo rfl; exact ⟨by omega, this.2⟩, fun i x hx => (k2 i x hx).mono hl⟩

def Sm1Un (x : Un) : Prop := x.fName.size ≤ maxLen ∧ x.fExec.size ≤ maxLen ∧ SmS x.fAfter ∧ SmS x.fNeeds
def SmUn (l : List Un) : Prop := l.length ≤ maxLen ∧ ∀ x ∈ l, Sm1Un x
def wt1Un (x : Un) : Nat := x.fName.size + wtS x.fAfter + wtS x.fNeeds + x.fExec.size
def wtkUn (l : List Un) (k : Nat) : Nat := ((l.take k).map wt1Un).sum
def wtUn (l : List Un) : Nat := l.length + wtkUn l l.length
theorem wtkUn_succ {l : List Un} {k : Nat} {x : Un} (h : l[k]? = some x) : wtkUn l (k + 1) = wtkUn l k + wt1Un x := by
  unfold wtkUn
  rw [List.take_add_one, h]
  simp
theorem wtUn_mem {l : List Un} {x : Un} (h : x ∈ l) : l.length + wt1Un x ≤ wtUn l := by
  unfold wtUn wtkUn
  rw [List.take_length]
  have := sum_mem wt1Un h
  omega
theorem wtUn_len (l : List Un) : l.length ≤ wtUn l := by unfold wtUn; omega

end Go.Proofs.Ytajpfidgepebgaa.ty

namespace Go.Proofs.Ytajpfidgepebgaa.un
open Go.ChangeShapes Go.WideShapes Go.ChangeAt Go.RowKit Go.Deep Go.Maps
set_option linter.unusedVariables false
set_option linter.unusedSimpArgs false

/-! ### Units: the plain model; lists of names, ascending lists, of both sides -/

def atB (l : List ByteArray) (i : Nat) : ByteArray := l[i]?.getD ByteArray.empty
theorem atB_some {l : List ByteArray} {i : Nat} {x : ByteArray} (h : l[i]? = some x) : atB l i = x := by unfold atB; rw [h]; rfl
def ltB (l : List ByteArray) (i : Nat) : Bool := decide (i = 0) || Op.bytesLess (atB l (i - 1)).toList (atB l i).toList
def ascN (l : List ByteArray) (n : Nat) : Bool := (List.range n).all fun i => ltB l i
/-- Ascending texts. -/
def asB (l : List ByteArray) : Bool := ascN l l.length
theorem ascN_succ {l : List ByteArray} {k : Nat} (h : ascN l k = true) (hk : ltB l k = true) : ascN l (k + 1) = true := by
  unfold ascN at h ⊢
  rw [List.range_succ, List.all_append, h]
  simpa using hk
theorem ascN_no {l : List ByteArray} {k n : Nat} (hn : k < n) (hk : ltB l k = false) : ascN l n = false := by
  unfold ascN
  rw [List.all_eq_false]
  exact ⟨k, List.mem_range.2 hn, by rw [hk]; decide⟩
theorem ltB_succ {l : List ByteArray} {K : Nat} {x y : ByteArray} (hx : l[K + 1]? = some x) (hy : l[K]? = some y) : ltB l (K + 1) = Op.bytesLess y.toList x.toList := by
  unfold ltB
  rw [Nat.add_sub_cancel, atB_some hx, atB_some hy]
  simp

def nB (l : List ByteArray) : Bool := l.all nm.nameB

/-- A unit as it should be. -/
def unB (u : ty.Un) : Bool := nm.nameB u.fName && (asB u.fAfter && (decide (u.fAfter.length ≤ 20) && (nB u.fAfter && (asB u.fNeeds && (decide (u.fNeeds.length ≤ 20) && (nB u.fNeeds && decide (u.fExec.size ≤ 4000)))))))
def usB (us : List ty.Un) : Bool := decide (us.length ≤ 100) && (asB (us.map fun u => u.fName) && us.all unB)

theorem all_bad {α : Type} {f : α → Bool} {l : List α} {i : Nat} {x : α} (hx : l[i]? = some x) (h : f x = false) : l.all f = false := by
  cases e : l.all f with
  | false => rfl
  | true => rw [List.all_eq_true.1 e x (List.mem_of_getElem? hx)] at h; cases h
theorem all_step {α : Type} {f : α → Bool} {l : List α} {i : Nat} {x : α} (hx : l[i]? = some x) (h : ∀ y ∈ l.take i, f y = true) (hn : f x = true) : ∀ y ∈ l.take (i + 1), f y = true := by
  intro y hy
  rw [List.take_add_one, hx] at hy
  rcases List.mem_append.1 hy with hy | hy
  · exact h y hy
  · have : y = x := by simpa using hy
    rw [this]; exact hn
theorem all_end {α : Type} {f : α → Bool} {l : List α} (h : ∀ y ∈ l.take l.length, f y = true) : l.all f = true := by
  rw [List.take_length] at h
  exact List.all_eq_true.2 h

set_option maxRecDepth 100000 in
set_option maxHeartbeats 1000000 in
theorem sasc_any (a : Option Addr) (c : Nat) (l : List ByteArray) (w : World) (hb : ty.SrcS none w a l) (hn : l.length ≤ 1048576) :
    Calls Try.prog 24 #[.slice a l.length c] w fun e w' => e = .returned (.bool (asB l && decide (l.length ≤ 20))) ∧ ∃ q, w' = w.drewN q := by
  have HB : Hid (ty.SrcS none w a l) := hb
  clear hb
  go_enter Try.func24, Try.ntmps24
  go_wp2
  go_loopw [3] (fun v wr => ∃ i : Nat, v = .int .i64 ((i + 1 : Nat) : Int) ∧ (i < l.length ∨ i = 0) ∧ ascN l (i + 1) = true ∧ ∃ q, wr = w.drewN q) (fun v _ => l.length + 1 - (intOf v).toNat)
  case atStart => exact ⟨0, rfl, .inr rfl, by simp [ascN, ltB], 0, rfl⟩
  case round =>
    obtain ⟨K, rfl, hK, hA, q, rfl⟩ := hrel
    have HAS : Hid (ascN l (K + 1) = true) := hA
    clear hA
    by_cases hil : K + 1 < l.length
    · have hil' : (K : Int) + 1 < (l.length : Int) := by omega
      obtain ⟨x, hx⟩ : ∃ x, l[K + 1]? = some x := ⟨_, List.getElem?_eq_getElem hil⟩
      obtain ⟨y, hy⟩ : ∃ y, l[K]? = some y := ⟨_, List.getElem?_eq_getElem (by omega)⟩
      rcases HB.out with ⟨_, h⟩ | ⟨b, o, rfl, _, hc⟩
      · rw [h] at hil; simp at hil
      have k0 := hc (K + 1) x hx
      have k1 := hc K y hy
      have g1 : (0 : Int) ≤ (K : Int) + 1 := by omega
      have g3 : (0 : Int) ≤ (K : Int) := by omega
      have g4 : (K : Int) < (l.length : Int) := by omega
      have g6 : IntKind.i64.wrap (K : Int) = (K : Int) := by rw [IntKind.wrap_i64]; omega
      have hlt := ltB_succ hx hy
      clear hc HB
      cases hl : Op.bytesLess y.toList x.toList with
      | true =>
        have HX2 : Hid (ascN l (K + 1 + 1) = true) := ascN_succ HAS.out (hlt.trans hl)
        clear hlt hx hy
        go_wp2
        go_quiet (fail)
        go_wp2
        go_roundw
        case rel => exact ⟨K + 1, by go_num, .inl hil, HX2.out, _, rfl⟩
        case measure => simp [intOf]; omega
      | false =>
        have HR : Hid (asB l = false) := ascN_no hil (hlt.trans hl)
        clear hlt hx hy
        go_wp2
        go_quiet (fail)
        go_wp2
        go_ret
        exact ⟨ret_bool (by rw [HR.out]; rfl), q + nq, by first | rfl | exact World.drewN_drewN _ _ _ | simp [World.drewN_drewN]⟩
    · have hil' : ¬ (K : Int) + 1 < (l.length : Int) := by omega
      have HR : Hid (asB l = true) := by
        show _ = _
        unfold asB
        rcases Nat.eq_zero_or_pos l.length with h | h
        · rw [h]; rfl
        · rw [show l.length = K + 1 by omega]; exact HAS.out
      go_wp2
      go_ret
      exact ⟨ret_bool (by rw [HR.out, Bool.true_and]; first | rfl | (rw [Bool.eq_iff_iff]; simp; omega)), q, rfl⟩

set_option maxRecDepth 100000 in
set_option maxHeartbeats 1000000 in
theorem snames_any (a : Option Addr) (c : Nat) (l : List ByteArray) (w : World) (hb : ty.SrcS none w a l) (hn : ty.wtS l ≤ 1048576) :
    Calls Try.prog 25 #[.slice a l.length c] w fun e w' => e = .returned (.bool (nB l && decide (l.length ≤ 2000))) ∧ w' = w := by
  have hl := ty.wtS_len l
  have HW : Hid (∀ x ∈ l, x.size ≤ 1048576) := fun x hx => by have := ty.wtS_mem hx; omega
  have HB : Hid (ty.SrcS none w a l) := hb
  clear hb
  go_enter Try.func25, Try.ntmps25
  go_wp2
  go_loop [3] (fun v => ∃ i : Nat, i ≤ l.length ∧ v = .int .i64 (i : Int) ∧ ∀ y ∈ l.take i, nm.nameB y = true) (fun v => l.length - (intOf v).toNat)
  case atStart => exact ⟨0, Nat.zero_le _, rfl, by simp⟩
  case round =>
    obtain ⟨i, hi, rfl, hA⟩ := hrel
    have HAL : Hid (∀ y ∈ l.take i, nm.nameB y = true) := hA
    clear hA
    by_cases hil : i < l.length
    · have hil' : (i : Int) < (l.length : Int) := by omega
      obtain ⟨x, hx⟩ : ∃ x, l[i]? = some x := ⟨_, List.getElem?_eq_getElem hil⟩
      rcases HB.out with ⟨_, h⟩ | ⟨b, o, rfl, _, hc⟩
      · rw [h] at hil; simp at hil
      have k0 := hc i x hx
      have HX : Hid (l[i]? = some x) := hx
      have HNM : Hid (∀ W, Calls Try.prog 23 #[.string x] W fun e w' => e = .returned (.bool (nm.nameB x)) ∧ w' = W) := fun W => nm.spec_any x (HW.out x (List.mem_of_getElem? hx)) W
      clear hc hx HB
      cases hnb : nm.nameB x with
      | false =>
        rw [hnb] at HNM
        have HR : Hid (nB l = false) := all_bad HX.out hnb
        clear hnb
        go_wp2_with (go_at_call 23; refine (HNM.out _).mono ?_; rintro e w2 ⟨rfl, hw2⟩; obtain rfl := hw2.symm; clear hw2)
        go_ret
        exact ⟨ret_bool (by rw [HR.out]; rfl), rfl⟩
      | true =>
        rw [hnb] at HNM
        have HT : Hid (nm.nameB x = true) := hnb
        clear hnb
        go_wp2_with (go_at_call 23; refine (HNM.out _).mono ?_; rintro e w2 ⟨rfl, hw2⟩; obtain rfl := hw2.symm; clear hw2)
        go_round
        case rel => exact ⟨i + 1, by omega, by go_num, all_step HX.out HAL.out HT.out⟩
        case measure => simp [intOf]; omega
    · have hil' : ¬ (i : Int) < (l.length : Int) := by omega
      obtain rfl : i = l.length := by omega
      have HR : Hid (nB l = true) := all_end HAL.out
      go_wp2
      go_ret
      exact ⟨ret_bool (by rw [HR.out, Bool.true_and]; first | rfl | (rw [Bool.eq_iff_iff]; simp; omega)), rfl⟩

set_option maxRecDepth 100000 in
set_option maxHeartbeats 1000000 in
theorem inames_any (a : Option Addr) (c : Nat) (l : List ByteArray) (w : World) (hb : ty.SrcS none w a l) (hn : ty.wtS l ≤ 1048576) :
    Calls Try.prog 71 #[.slice a l.length c] w fun e w' => e = .returned (.bool (nB l)) ∧ w' = w := by
  have hl := ty.wtS_len l
  have HW : Hid (∀ x ∈ l, x.size ≤ 1048576) := fun x hx => by have := ty.wtS_mem hx; omega
  have HB : Hid (ty.SrcS none w a l) := hb
  clear hb
  go_enter Try.func71, Try.ntmps71
  go_wp2
  go_loopw [4, 7] (fun _ x wr => ∃ i : Nat, i ≤ l.length ∧ x = .int .i64 (i : Int) ∧ (∀ y ∈ l.take i, nm.nameB y = true) ∧ wr = w) (fun _ x _ => l.length - (intOf x).toNat)
  case atStart => exact ⟨0, Nat.zero_le _, rfl, by simp, rfl⟩
  case round =>
    obtain ⟨i, hi, rfl, hA, rfl⟩ := hrel
    have HAL : Hid (∀ y ∈ l.take i, nm.nameB y = true) := hA
    clear hA
    by_cases hil : i < l.length
    · have hil' : (i : Int) < (l.length : Int) := by omega
      have hi0 : (0 : Int) ≤ (i : Int) := by omega
      obtain ⟨x, hx⟩ : ∃ x, l[i]? = some x := ⟨_, List.getElem?_eq_getElem hil⟩
      rcases HB.out with ⟨_, h⟩ | ⟨b, o, rfl, _, hc⟩
      · rw [h] at hil; simp at hil
      have k0 := hc i x hx
      have HX : Hid (l[i]? = some x) := hx
      have HNM : Hid (∀ W, Calls Try.prog 56 #[.string x] W fun e w' => e = .returned (.bool (nm.nameB x)) ∧ w' = W) := fun W => nm.impl_any x (HW.out x (List.mem_of_getElem? hx)) W
      clear hc hx HB
      cases hnb : nm.nameB x with
      | false =>
        rw [hnb] at HNM
        have HR : Hid (nB l = false) := all_bad HX.out hnb
        clear hnb
        go_wp2_with (go_at_call 56; refine (HNM.out _).mono ?_; rintro e w2 ⟨rfl, hw2⟩; obtain rfl := hw2.symm; clear hw2)
        go_ret
        exact ⟨ret_bool (by rw [HR.out]), rfl⟩
      | true =>
        rw [hnb] at HNM
        have HT : Hid (nm.nameB x = true) := hnb
        clear hnb
        go_wp2_with (go_at_call 56; refine (HNM.out _).mono ?_; rintro e w2 ⟨rfl, hw2⟩; obtain rfl := hw2.symm; clear hw2)
        go_roundw
        case rel => exact ⟨i + 1, by omega, by go_num, all_step HX.out HAL.out HT.out, by first | rfl | trivial⟩
        case measure => simp [intOf]; omega
    · have hil' : ¬ (i : Int) < (l.length : Int) := by omega
      obtain rfl : i = l.length := by omega
      have HR : Hid (nB l = true) := all_end HAL.out
      go_wp2
      go_ret
      exact ⟨ret_bool (by rw [HR.out]), rfl⟩

theorem nan_any (x : ByteArray) (w : World) :
    Calls Try.prog 76 #[.string x] w fun e w' => e = .returned (.bool false) ∧ w' = w := by
  go_enter Try.func76, Try.ntmps76
  go_wp2
  go_ret
  exact ⟨by first | rfl | simp, rfl⟩

theorem less_any (x y : ByteArray) (w : World) :
    Calls Try.prog 73 #[.string x, .string y] w fun e w' => e = .returned (.bool (Op.bytesLess x.toList y.toList)) ∧ w' = w := by
  obtain ⟨r, hr⟩ : ∃ r, Op.bytesLess x.toList y.toList = r := ⟨_, rfl⟩
  go_enter Try.func73, Try.ntmps73
  go_wp2_with (go_at_call 76; refine (nan_any _ _).mono ?_; rintro e w' ⟨rfl, rfl⟩)
  go_ret
  exact ⟨by first | rfl | simp [hr], rfl⟩

set_option maxRecDepth 100000 in
set_option maxHeartbeats 1000000 in
theorem iasc_any (a : Option Addr) (c : Nat) (l : List ByteArray) (w : World) (hb : ty.SrcS none w a l) (hn : l.length ≤ 1048576) :
    Calls Try.prog 72 #[.slice a l.length c, .func (.func 73) #[] #[]] w fun e w' => e = .returned (.bool (asB l)) ∧ Below w.heap.size w w' := by
  have HB : Hid (ty.SrcS none w a l) := hb
  clear hb
  go_enter Try.func72, Try.ntmps72
  go_wp2
  go_loopw [5, 8] (fun _ v wr => ∃ i : Nat, i ≤ l.length ∧ v = .int .i64 (i : Int) ∧ ascN l i = true ∧ Below w.heap.size w wr) (fun _ v _ => l.length - (intOf v).toNat)
  case atStart => exact ⟨0, Nat.zero_le _, rfl, rfl, Below.refl _ _⟩
  case round =>
    obtain ⟨i, hi, rfl, hAs, hbel⟩ := hrel
    have HAS : Hid (ascN l i = true) := hAs
    have HBE : Hid (Below w.heap.size w wr) := hbel
    clear hAs
    by_cases hil : i < l.length
    · have hil' : (i : Int) < (l.length : Int) := by omega
      obtain ⟨x, hx⟩ : ∃ x, l[i]? = some x := ⟨_, List.getElem?_eq_getElem hil⟩
      rcases HB.out.below hbel with ⟨_, h⟩ | ⟨b, o, rfl, _, hc⟩
      · rw [h] at hil; simp at hil
      cases i with
      | zero =>
        have HX2 : Hid (ascN l 1 = true) := ascN_succ HAS.out rfl
        clear hc HB hx hbel
        go_wp2_with fail
        go_quiet (fail)
        go_wp2
        go_roundw
        case rel => exact ⟨1, by omega, by go_num, HX2.out, below_drewN HBE.out _⟩
        case measure => simp [intOf]; omega
      | succ K =>
        obtain ⟨y, hy⟩ : ∃ y, l[K]? = some y := ⟨_, List.getElem?_eq_getElem (by omega)⟩
        have k0 := hc (K + 1) x hx
        have k1 := hc K y hy
        have HK : Hid (wr.cell? ⟨b, o + (K + 1), none⟩ = some (.string x) ∧ wr.cell? ⟨b, o + K, none⟩ = some (.string y)) := ⟨k0, k1⟩
        have g1 : (0 : Int) ≤ (K : Int) + 1 := by omega
        have g2 : (K : Int) + 1 < (l.length : Int) := by omega
        have g3 : (0 : Int) ≤ (K : Int) := by omega
        have g4 : (K : Int) < (l.length : Int) := by omega
        have g5 : (0 : Int) < (K : Int) + 1 := by omega
        have g6 : IntKind.i64.wrap (K : Int) = (K : Int) := by rw [IntKind.wrap_i64]; omega
        have hlt := ltB_succ hx hy
        have HLE := fun W => less_any y x W
        clear hc HB
        cases hl : Op.bytesLess y.toList x.toList with
        | true =>
          have HX2 : Hid (ascN l (K + 1 + 1) = true) := ascN_succ HAS.out (hlt.trans hl)
          rw [hl] at HLE
          have HLE : Hid (∀ W, Calls Try.prog 73 #[.string y, .string x] W fun e w' => e = .returned (.bool true) ∧ w' = W) := HLE
          clear hlt hx hy hl hbel
          go_wp2_with fail
          go_region_held3 (fun W => W.cell? ⟨b, o + (K + 1), none⟩ = some (.string x) ∧ W.cell? ⟨b, o + K, none⟩ = some (.string y))
            (first | exact HK.out | go_keep)
            (((go_at_call 73; refine (HLE.out _).mono ?_; rintro e w2 ⟨rfl, hw2⟩; obtain rfl := hw2.symm; clear hw2)))
          go_wp2_with fail
          go_roundw
          case rel => exact ⟨K + 1 + 1, by omega, by go_num, HX2.out, HBE.out.drew⟩
          case measure => simp [intOf]; omega
        | false =>
          have HR : Hid (asB l = false) := ascN_no hil (hlt.trans hl)
          rw [hl] at HLE
          have HLE : Hid (∀ W, Calls Try.prog 73 #[.string y, .string x] W fun e w' => e = .returned (.bool false) ∧ w' = W) := HLE
          clear hlt hx hy hl hbel
          go_wp2_with fail
          go_region_held3 (fun W => W.cell? ⟨b, o + (K + 1), none⟩ = some (.string x) ∧ W.cell? ⟨b, o + K, none⟩ = some (.string y))
            (first | exact HK.out | go_keep)
            (((go_at_call 73; refine (HLE.out _).mono ?_; rintro e w2 ⟨rfl, hw2⟩; obtain rfl := hw2.symm; clear hw2)))
          go_wp2_with fail
          go_ret
          exact ⟨ret_bool (by rw [HR.out]), HBE.out.drew⟩
    · have hil' : ¬ (i : Int) < (l.length : Int) := by omega
      obtain rfl : i = l.length := by omega
      have HR : Hid (asB l = true) := HAS.out
      go_wp2
      go_ret
      exact ⟨ret_bool (by rw [HR.out]), HBE.out⟩

end Go.Proofs.Ytajpfidgepebgaa.un

namespace Go.Proofs.Ytajpfidgepebgaa.st
open Go.ChangeShapes Go.WideShapes Go.ChangeAt Go.RowKit Go.Deep
set_option linter.unusedVariables false

def atS (l : List ByteArray) (i : Nat) : ByteArray := l[i]?.getD ByteArray.empty

/-- The first 'n' texts behind a slice's address are 'l'. -/
def Ss (w : World) (a : Option Addr) (n : Nat) (l : List ByteArray) : Prop :=
  n = 0 ∨ ∃ b off, a = some ⟨b, off, none⟩ ∧ ∀ i, i < n → w.cell? ⟨b, off + i, none⟩ = some (.string (atS l i))

theorem info9 : (Try.prog.info? 9).map (fun i => (i.zero, i.size, i.bytes)) = some (some (.string ⟨#[]⟩), 1, 16) := by kernel_rfl

theorem row_step {w : World} {b n k : Nat} {l : List ByteArray} (h : w.rowIs b 9 n (fun j => .string (if j < k then atS l j else ⟨#[]⟩))) :
    (w.setCell ⟨b, k, none⟩ (.string (atS l k))).rowIs b 9 n (fun j => .string (if j < k + 1 then atS l j else ⟨#[]⟩)) :=
  (h.set k _).congr fun i hi => by
    by_cases h : i = k
    · simp [h]
    · have e : (i < k + 1) ↔ (i < k) := by omega
      simp [h, e]

theorem Ss.row {w : World} {b n : Nat} {l : List ByteArray} (h : w.rowIs b 9 n (fun i => .string (atS l i))) : Ss w (some ⟨b, 0, none⟩) n l :=
  .inr ⟨b, 0, rfl, fun i hi => by have := h.cell hi; simpa using this⟩

theorem Ss.below {w w' : World} {a : Option Addr} {n : Nat} {l : List ByteArray} (h : Ss w a n l) (hb : Below w.heap.size w w') : Ss w' a n l := by
  rcases h with h | ⟨b, off, e, hc⟩
  · exact .inl h
  · exact .inr ⟨b, off, e, fun i hi => (hb.cell (World.block_lt_of_cell? _ _ (hc i hi))).trans (hc i hi)⟩

end Go.Proofs.Ytajpfidgepebgaa.st

namespace Go.Proofs.Ytajpfidgepebgaa.sr
open Go.ChangeShapes Go.WideShapes Go.ChangeAt Go.RowKit Go.Deep
set_option linter.unusedVariables false
set_option linter.unusedSimpArgs false

/-! ### Rows of texts, wherever they lie -/

def strL (l : List UInt8) : Value := .string ⟨l.toArray⟩
theorem strL_of (s : ByteArray) : strL s.data.toList = .string s := by cases s; simp [strL]
theorem toL (l : List UInt8) : (⟨l.toArray⟩ : ByteArray).toList = l := by simp [ByteArray.toList_eq]

theorem info9 : (Try.prog.info? 9).map (fun i => (i.zero, i.size, i.bytes)) = some (some (.string ⟨#[]⟩), 1, 16) := by kernel_rfl
theorem info_parts {e : TypeId} {z : Value} {size bytes : Nat} (hinfo : (Try.prog.info? e).map (fun i => (i.zero, i.size, i.bytes)) = some (some z, size, bytes)) : ∃ i, Try.prog.info? e = some i ∧ i.zero = some z ∧ i.size = size ∧ i.bytes = bytes := by
  obtain ⟨i, hi, hzz⟩ := Option.map_eq_some_iff.1 hinfo
  simp only [Prod.mk.injEq] at hzz
  exact ⟨i, hi, hzz.1, hzz.2.1, hzz.2.2⟩

def StrR (w : World) (v : Value) (xs : List (List UInt8)) : Prop := ∃ bb off cap, v = .slice (some ⟨bb, off, none⟩) xs.length cap ∧ xs.length ≤ cap ∧ cap ≤ maxLen ∧ ∀ i x, xs[i]? = some x → w.cell? ⟨bb, off + i, none⟩ = some (strL x)

theorem StrR.below {w w' : World} {v : Value} {xs : List (List UInt8)} (h : StrR w v xs) (hb : Below w.heap.size w w') : StrR w' v xs := by
  obtain ⟨bb, off, cap, e, h1, h2, hc⟩ := h
  exact ⟨bb, off, cap, e, h1, h2, fun i x hx => (hb.cell (p := ⟨bb, _, none⟩) (World.block_lt_of_cell? _ _ (hc i x hx))).trans (hc i x hx)⟩

theorem StrR.own' {w : World} {base : Nat} {v : Value} {xs : List (List UInt8)} (h : w.ownsRow base 9 1 v xs.length (xs.map strL)) (hv : v ≠ .slice none 0 0) : StrR w v xs := by
  obtain ⟨hl, h⟩ := h
  have h0 := h
  rcases h with ⟨e, _⟩ | ⟨g, cap, cur, rfl, hb, hg, hcs⟩
  · exact absurd e hv
  · have hk := World.ownsRow.cells (w := w) (base := base) (e := 9) (size := 1) (v := .slice (some ⟨g, 0, none⟩) xs.length cap) (n := xs.length) (xs := xs.map strL) ⟨hl, h0⟩ (g := g) rfl
    obtain ⟨k1, k2, _⟩ := hcs
    refine ⟨g, 0, cap, rfl, k1, k2, fun i x hx => ?_⟩
    have := hk i (strL x) (by simp [hx])
    rwa [addr_add] at this

/-- A row of the call's own that is not nil. -/
def OwnS (base : Nat) (w : World) (v : Value) (xs : List (List UInt8)) : Prop := w.ownsRow base 9 1 v xs.length (xs.map strL) ∧ v ≠ .slice none 0 0

theorem OwnS.row {base : Nat} {w : World} {v : Value} {xs : List (List UInt8)} (h : OwnS base w v xs) : StrR w v xs := StrR.own' h.1 h.2

theorem OwnS.mono {base base' : Nat} {w : World} {v : Value} {xs : List (List UInt8)} (h : OwnS base w v xs) (hb : base' ≤ base) : OwnS base' w v xs := by
  refine ⟨⟨h.1.1, ?_⟩, h.2⟩
  rcases h.1.2 with ⟨e, _⟩ | ⟨g, cap, cur, e, hg, r⟩
  · exact absurd e h.2
  · exact .inr ⟨g, cap, cur, e, Nat.le_trans hb hg, r⟩

theorem strL_one (l : List (List UInt8)) : ∀ u ∈ l.map strL, u.oneCell' = true := by
  intro u hu
  obtain ⟨x, _, rfl⟩ := List.mem_map.1 hu
  rfl

/-- An append of a row of texts to one that is not nil. -/
theorem app_str (w : World) {ops : Array Oper} {rest : List Oper} {o : Oper} {a : Act} {Q : Exit → Act → World → Prop} (hgd : o.guard = none) (s x : Operand)
    (ho : o.op = .call { callee := .builtin .append, args := #[s, x], argTypes := #[26, 26] })
    (base : Nat) (v : Value) (xs : List (List UInt8)) (hs : a.eval s = v) (hown : w.ownsRow base 9 1 v xs.length (xs.map strL)) (hv : v ≠ .slice none 0 0)
    (ad : Addr) (m c : Nat) (ys : List (List UInt8)) (hx : a.eval x = .slice (some ad) m c) (hm : ys.length = m) (hnews : ∀ j u, (ys.map strL)[j]? = some u → w.cell? (ad.add j) = some u) (hlen : xs.length + m ≤ 1000000) (hbase : base ≤ w.heap.size)
    (h : ∀ v' w', w'.ownsRow base 9 1 v' (xs ++ ys).length ((xs ++ ys).map strL) → v' ≠ .slice none 0 0 → w.grownBy w' v.ownBlock → wpList Try.prog ops Q rest (a.put o.dst v') w') : wpList Try.prog ops Q (o :: rest) a w := by
  obtain ⟨i0, hi, hz0, hz1, hz2⟩ := info_parts info9
  refine wpList_append_own w hgd s x 26 ho base 9 i0 _ 1 16 Try.underlying26 hi hz0 hz1 hz2 rfl (by omega) v xs.length (xs.map strL) hs hown ad m c (ys.map strL) hx (by simpa using hm) hnews (strL_one _) (by unfold maxLen; omega) (by omega) hbase ?_
  intro v' w' h1 h2 h3
  exact h _ _ (by rw [List.length_append, List.map_append, hm]; exact h1) (fun e => hv (h3.1 e).1) h2

theorem one_at (w : World) (l : List UInt8) : ∀ j u, ([l].map strL)[j]? = some u → (w.alloc (.cells #[strL l] 9)).cell? ((⟨w.heap.size, 0, none⟩ : Addr).add j) = some u := by
  rw [List.map_singleton]
  exact one_new w _ 9

theorem row_news {w : World} {bb off : Nat} {xs : List (List UInt8)} (hc : ∀ i x, xs[i]? = some x → w.cell? ⟨bb, off + i, none⟩ = some (strL x)) : ∀ j u, (xs.map strL)[j]? = some u → w.cell? ((⟨bb, off, none⟩ : Addr).add j) = some u := by
  intro j u h
  rw [List.getElem?_map, Option.map_eq_some_iff] at h
  obtain ⟨x, hx, rfl⟩ := h
  rw [addr_add]
  exact hc j x hx

theorem own_zero (w : World) : (w.alloc (.cells #[] 9)).ownsRow w.heap.size 9 1 (.slice (some ⟨w.heap.size, 0, none⟩) 0 0) ([] : List (List UInt8)).length (([] : List (List UInt8)).map strL) := World.ownsRow_made w #[] 0 (Nat.le_refl _) (by decide) rfl

theorem not_nil (a : Addr) (n c : Nat) : (Value.slice (some a) n c) ≠ .slice none 0 0 := by intro e; cases e

def xAt (xs : List (List UInt8)) (i : Nat) : List UInt8 := xs[i]?.getD []
theorem xAt_some {xs : List (List UInt8)} {i : Nat} (h : i < xs.length) : xs[i]? = some (xAt xs i) := by simp [xAt, h]

/-! ### The program's own sort: the plain model -/

def mrg : Nat → List (List UInt8) → List (List UInt8) → List (List UInt8)
  | 0, l, r => l ++ r
  | _ + 1, l, [] => l
  | f + 1, [], x :: r => x :: mrg f [] r
  | f + 1, y :: l, x :: r => if Op.bytesLess x y = true then x :: mrg f (y :: l) r else y :: mrg f l (x :: r)

def srt : Nat → List (List UInt8) → List (List UInt8)
  | 0, l => l
  | f + 1, l => if l.length < 2 then l else mrg l.length (srt f (l.take (l.length / 2))) (srt f (l.drop (l.length / 2)))

theorem mrg_len : ∀ (f : Nat) (l r : List (List UInt8)), (mrg f l r).length = l.length + r.length
  | 0, l, r => by simp [mrg]
  | f + 1, l, [] => by cases l <;> simp [mrg]
  | f + 1, [], x :: r => by simp [mrg, mrg_len f [] r]
  | f + 1, y :: l, x :: r => by
    unfold mrg
    split
    · have := mrg_len f (y :: l) r; simp at this ⊢; omega
    · have := mrg_len f l (x :: r); simp at this ⊢; omega

theorem srt_len : ∀ (f : Nat) (l : List (List UInt8)), (srt f l).length = l.length
  | 0, l => rfl
  | f + 1, l => by
    unfold srt
    split
    · rfl
    · rw [mrg_len, srt_len f, srt_len f, List.length_take, List.length_drop]; omega

theorem mrg_end (f : Nat) (l : List (List UInt8)) : mrg f l [] = l := by cases f <;> cases l <;> simp [mrg]

theorem nan_any (p : ByteArray) (w : World) : Calls Try.prog 76 #[.string p] w fun e w' => e = .returned (.bool false) ∧ w' = w := by
  go_enter Try.func76, Try.ntmps76
  go_wp2
  go_ret
  first | exact ⟨rfl, rfl⟩ | exact ⟨by simp, rfl⟩

set_option maxRecDepth 100000 in
theorem less_any (x y : ByteArray) (w : World) : Calls Try.prog 73 #[.string x, .string y] w fun e w' => e = .returned (.bool (Op.bytesLess x.toList y.toList)) ∧ w' = w := by
  have HNA : Hid (∀ x W, Calls Try.prog 76 #[.string x] W fun e w' => e = .returned (.bool false) ∧ w' = W) := fun x W => nan_any x W
  obtain ⟨r, hr⟩ : ∃ r, Op.bytesLess x.toList y.toList = r := ⟨_, rfl⟩
  go_enter Try.func73, Try.ntmps73
  go_wp2_with (go_at_call 76; refine (HNA.out _ _).mono ?_; rintro e w1 ⟨rfl, rfl⟩)
  go_ret
  exact ⟨by first | rfl | simp [hr], rfl⟩

end Go.Proofs.Ytajpfidgepebgaa.sr
