import Derived.Test.YtheponigjofknaaDoorRMA
import Derived.Test.YtheponigjofknaaDoorMN
import Derived.Deep.RegionHeld3
namespace Go.Proofs.YtheponigjofknaaDoor.mt
open Go.ChangeShapes Go.WideShapes Go.ChangeAt Go.RowKit Go.Deep
set_option linter.unusedVariables false
set_option linter.unusedSimpArgs false

/-! ### The specification's readers: l16Int, l5Word, l5Lines -/

theorem drop_at {s : ByteArray} {i : Nat} (h : i < s.size) : s.data.toList.drop i = s[i] :: s.data.toList.drop (i + 1) := by
  rw [List.drop_eq_getElem_cons (by simpa using h)]
  rfl

set_option maxRecDepth 100000 in
theorem sint_any (s : ByteArray) (hs : s.size ≤ 1048576) (w : World) :
    Calls Tryd.prog 34 #[.string s] w fun e w' => e = .returned (.int .i64 (sI s.data.toList)) ∧ w' = w := by
  go_enter Tryd.func34, Tryd.ntmps34
  go_wp2
  go_loop [3, 4] (fun vn vi => ∃ (i : Nat) (n : Int), i ≤ s.size ∧ vi = .int .i64 (i : Int) ∧ vn = .int .i64 n ∧ 0 ≤ n ∧ n ≤ 10000009 ∧ sIg n (s.data.toList.drop i) = sI s.data.toList) (fun _ vi => s.size - (intOf vi).toNat)
  case atStart => exact ⟨0, 0, Nat.zero_le _, rfl, rfl, by omega, by omega, rfl⟩
  case round =>
    obtain ⟨i, n, hi, rfl, rfl, hn0, hn1, hv⟩ := hrel
    have HV : Hid (sIg n (s.data.toList.drop i) = sI s.data.toList) := hv
    clear hv
    by_cases hil : i < s.size
    · have hil' : (i : Int) < (s.size : Int) := by omega
      have hi0 : (0 : Int) ≤ (i : Int) := by omega
      have hcb := (s[i]).toNat_lt
      have hst : sI s.data.toList = sIg n (s[i] :: s.data.toList.drop (i + 1)) := by rw [← HV.out, drop_at hil]
      rw [sIg] at hst
      have HST : Hid (sI s.data.toList = if ¬ (48 ≤ s[i].toNat ∧ s[i].toNat ≤ 57) ∨ 1000000 < n then -1 else sIg (n * 10 + ((s[i].toNat : Int) - 48)) (s.data.toList.drop (i + 1))) := hst
      have HD : Hid (Calls Tryd.prog 57 #[.int .u8 (s[i].toNat : Int)] w fun e w' => e = .returned (.bool (nm.digB (s[i].toNat : Int))) ∧ w' = w) := nm.digit_any _ _
      clear hst
      by_cases hd : 48 ≤ s[i].toNat ∧ s[i].toNat ≤ 57
      · have hdb : nm.digB (s[i].toNat : Int) = true := by unfold nm.digB; rw [decide_eq_true_eq]; omega
        rw [hdb] at HD
        by_cases hbig : 1000000 < n
        · have HR : Hid (sI s.data.toList = -1) := by show _ = _; rw [HST.out, if_pos (.inr hbig)]
          clear HST HV
          go_wp2_with (first | (go_at_call 57; refine HD.out.mono ?_; rintro e w1 ⟨rfl, hw⟩; obtain rfl := hw.symm; clear hw) | go_in)
          go_ret
          exact ⟨by rw [HR.out]; rfl, rfl⟩
        · have HR : Hid (sIg (n * 10 + ((s[i].toNat : Int) - 48)) (s.data.toList.drop (i + 1)) = sI s.data.toList) := by show _ = _; rw [HST.out, if_neg (fun h => h.elim (fun h => h hd) hbig)]
          have e1 : IntKind.u8.wrap ((s[i].toNat : Int) - 48) = (s[i].toNat : Int) - 48 := by rw [IntKind.wrap_u8]; omega
          obtain ⟨hd1, hd2⟩ := hd
          clear HST HV hdb
          go_wp2_with (first | (go_at_call 57; refine HD.out.mono ?_; rintro e w1 ⟨rfl, hw⟩; obtain rfl := hw.symm; clear hw) | go_in)
          go_round
          case rel => exact ⟨i + 1, n * 10 + ((s[i].toNat : Int) - 48), by omega, by go_num, by go_num, by omega, by omega, HR.out⟩
          case measure => simp [intOf]; omega
      · have hdb : nm.digB (s[i].toNat : Int) = false := by unfold nm.digB; rw [decide_eq_false_iff_not]; omega
        rw [hdb] at HD
        have HR : Hid (sI s.data.toList = -1) := by show _ = _; rw [HST.out, if_pos (.inl hd)]
        clear HST HV
        go_wp2_with (first | (go_at_call 57; refine HD.out.mono ?_; rintro e w1 ⟨rfl, hw⟩; obtain rfl := hw.symm; clear hw) | go_in)
        go_ret
        exact ⟨by rw [HR.out]; rfl, rfl⟩
    · obtain rfl : i = s.size := by omega
      have HR : Hid (sI s.data.toList = n) := by
        show _ = _
        rw [← HV.out, List.drop_eq_nil_of_le (by simp)]
        rfl
      go_wp2
      go_ret
      exact ⟨by rw [HR.out]; rfl, rfl⟩

theorem ext_list (s : ByteArray) (a b : Nat) : (s.extract a b).data.toList = (s.data.toList.drop a).take (b - a) := by
  rw [ByteArray.data_extract]
  simp
theorem cut_none : ∀ (l : List UInt8), (∀ b ∈ l, b ≠ 32) → cutW l = l ∧ cutR l = []
  | [], _ => ⟨rfl, rfl⟩
  | b :: l, h => by
    obtain ⟨h1, h2⟩ := cut_none l (fun c hc => h c (List.mem_cons_of_mem _ hc))
    exact ⟨by rw [cutW, if_neg (h b List.mem_cons_self), h1], by rw [cutR, if_neg (h b List.mem_cons_self), h2]⟩

set_option maxRecDepth 100000 in
theorem sword_any (s : ByteArray) (hs : s.size ≤ 1048576) (w : World) :
    Calls Tryd.prog 33 #[.string s] w fun e w' => e = .returned (.tuple #[.string (BA (cutW s.data.toList)), .string (BA (cutR s.data.toList))]) ∧ Below w.heap.size w w' := by
  go_enter Tryd.func33, Tryd.ntmps33
  go_wp2
  go_loopw [4] (fun vi wr => ∃ i : Nat, i ≤ s.size ∧ vi = .int .i64 (i : Int) ∧ (∀ b ∈ s.data.toList.take i, b ≠ 32) ∧ Below w.heap.size w wr) (fun vi _ => s.size - (intOf vi).toNat)
  case atStart => exact ⟨0, Nat.zero_le _, rfl, by simp, Below.refl _ _⟩
  case round =>
    obtain ⟨i, hi, rfl, hno, hbel⟩ := hrel
    have HNO : Hid (∀ b ∈ s.data.toList.take i, b ≠ 32) := hno
    have HBE : Hid (Below w.heap.size w wr) := hbel
    clear hno hbel
    by_cases hil : i < s.size
    · have hil' : (i : Int) < (s.size : Int) := by omega
      have hi0 : (0 : Int) ≤ (i : Int) := by omega
      by_cases hc : s[i] = 32
      · have hc' : (s[i].toNat : Int) = 32 := by rw [hc]; rfl
        have hcb : ((s[i].toNat : Int) == 32) = true := by rw [hc']; rfl
        have hsp : s.data.toList = s.data.toList.take i ++ 32 :: s.data.toList.drop (i + 1) := by
          have := List.take_append_drop i s.data.toList
          rw [drop_at hil, hc] at this
          exact this.symm
        have HW : Hid (BA (cutW s.data.toList) = s.extract 0 i) := by
          show _ = _
          rw [hsp, cutW_at _ _ HNO.out]
          apply ByteArray.ext
          apply Array.ext'
          rw [ext_list]
          simp [BA]
        have HR : Hid (BA (cutR s.data.toList) = s.extract (i + 1) s.size) := by
          show _ = _
          conv => lhs; rw [hsp, cutR_at _ _ HNO.out]
          apply ByteArray.ext
          apply Array.ext'
          rw [ext_list]
          simp [BA]
          rw [List.take_of_length_le (by simp)]
        clear hsp
        go_wp2_with fail
        go_quiet (fail)
        go_wp2
        go_ret2
        exact ⟨by rw [HW.out, HR.out]; rfl, Go.below_drewN HBE.out _⟩
      · have hc' : ¬ (s[i].toNat : Int) = 32 := fun e => hc (UInt8.toNat_inj.1 (by show _ = 32; omega))
        have hcb : ((s[i].toNat : Int) == 32) = false := by simpa using hc'
        go_wp2
        go_roundw
        case rel =>
          refine ⟨i + 1, by omega, by go_num, fun b hb => ?_, HBE.out⟩
          rw [List.take_succ_eq_append_getElem (by simpa using hil), List.mem_append, List.mem_singleton] at hb
          rcases hb with hb | rfl
          · exact HNO.out b hb
          · exact hc
        case measure => simp [intOf]; omega
    · obtain rfl : i = s.size := by omega
      have hall : ∀ b ∈ s.data.toList, b ≠ 32 := by
        have := HNO.out
        rwa [List.take_of_length_le (by simp)] at this
      have HW : Hid (BA (cutW s.data.toList) = s) := by show _ = _; rw [(cut_none _ hall).1, BA_of]
      have HR : Hid (BA (cutR s.data.toList) = ⟨#[]⟩) := by show _ = _; rw [(cut_none _ hall).2]; rfl
      clear hall
      go_wp2
      go_ret2
      exact ⟨by rw [HW.out, HR.out]; rfl, HBE.out⟩

/-- Lines out of a text, piece by piece: what stands behind i bytes, the last break behind 'from'. -/
theorem lnA_step (acc : List UInt8) : ∀ (x : List UInt8) (r : List UInt8), (∀ b ∈ x, b ≠ 10) → lnA acc (x ++ r) = lnA (acc ++ x) r
  | [], r, _ => by simp
  | b :: x, r, h => by
    rw [List.cons_append, lnA, if_neg (h b List.mem_cons_self), lnA_step (acc ++ [b]) x r (fun c hc => h c (List.mem_cons_of_mem _ hc))]
    simp
def bas (L : List (List UInt8)) : List ByteArray := L.map BA
theorem bas_snoc (L : List (List UInt8)) (y : ByteArray) : bas L ++ [y] = bas (L ++ [y.data.toList]) := by
  unfold bas
  rw [List.map_append, List.map_cons, List.map_nil, BA_of]

/-- An append of one text to a row of texts of the call's own that is not nil. -/
theorem app_txt (w : World) {ops : Array Oper} {rest : List Oper} {o : Oper} {a : Act} {Q : Exit → Act → World → Prop} (hgd : o.guard = none) (s x : Operand)
    (ho : o.op = .call { callee := .builtin .append, args := #[s, x], argTypes := #[22, 22] })
    (base : Nat) (v : Value) (n : Nat) (l : List ByteArray) (hs : a.eval s = v) (hown : w.ownsRow base 9 1 v n (l.map Value.string)) (hv : v ≠ .slice none 0 0) (y : ByteArray) (ad : Addr) (hx : a.eval x = .slice (some ad) 1 1) (hy : w.cell? ad = some (.string y)) (hlen : n ≤ 2000000) (hbase : base ≤ w.heap.size)
    (h : ∀ v' w', w'.ownsRow base 9 1 v' (n + 1) ((l ++ [y]).map Value.string) → v' ≠ .slice none 0 0 → w.grownBy w' v.ownBlock → wpList Tryd.prog ops Q rest (a.put o.dst v') w') : wpList Tryd.prog ops Q (o :: rest) a w := by
  obtain ⟨i0, hi, hz0, hz1, hz2⟩ := sr.info_parts sr.info9
  refine wpList_append_own w hgd s x 22 ho base 9 i0 _ 1 16 Tryd.underlying22 hi hz0 hz1 hz2 rfl (by omega) v n (l.map Value.string) hs hown ad 1 1 [.string y] hx rfl (fun j u hj => ?_) (fun u hu => ?_) (by unfold maxLen; omega) (by omega) hbase ?_
  · match j with
    | 0 => simp at hj; subst hj; simpa [Addr.add] using hy
    | j + 1 => simp at hj
  · simp only [List.mem_singleton] at hu
    subst hu
    rfl
  · intro v' w' h1 h2 h3
    exact h v' w' (by rw [List.map_append]; exact h1) (fun e => hv (h3.1 e).1) h2

theorem own_Ss {w : World} {base n : Nat} {v : Value} {l : List ByteArray} (h : w.ownsRow base 9 1 v n (l.map Value.string)) (hv : v ≠ .slice none 0 0) : ∃ g cap, v = .slice (some ⟨g, 0, none⟩) n cap ∧ base ≤ g ∧ l.length = n ∧ RwT w g n l := by
  have h0 := h
  obtain ⟨e0, h'⟩ := h
  rcases h' with ⟨e, _⟩ | ⟨g, cap, cur, rfl, q1, q2, q3, q4, q5, q6⟩
  · exact absurd e hv
  · have hln : l.length = n := by simpa using e0
    refine ⟨g, cap, rfl, q1, hln, ⟨cur, q2, by omega⟩, .inr ⟨g, 0, rfl, fun i hi => ?_⟩⟩
    have hk := World.ownsRow.cells (w := w) (base := base) (e := 9) (size := 1) (n := n) (xs := l.map Value.string) h0 (g := g) rfl i (.string (st.atS l i)) (by simp [st.atS, show i < l.length by omega])
    rwa [addr_add] at hk

def LnR (w w' : World) (s : ByteArray) (e : Ending) : Prop := ∃ g n cap, e = .returned (.tuple #[.slice (some ⟨g, 0, none⟩) n cap, .bool (decide ((lnA [] s.data.toList).2 = []))]) ∧ n = (lnA [] s.data.toList).1.length ∧ w.heap.size ≤ g ∧ RwT w' g n (bas (lnA [] s.data.toList).1) ∧ Below w.heap.size w w'

theorem take_from {s : ByteArray} {f i : Nat} (hfi : f ≤ i) : s.data.toList.drop f = (s.extract f i).data.toList ++ s.data.toList.drop i := by
  rw [ext_list]
  have := List.take_append_drop (i - f) (s.data.toList.drop f)
  rw [List.drop_drop, show f + (i - f) = i by omega] at this
  exact this.symm

set_option maxRecDepth 100000 in
set_option maxHeartbeats 4000000 in
theorem slines_any (s : ByteArray) (hs : s.size ≤ 1048576) (w : World) :
    Calls Tryd.prog 32 #[.string s] w fun e w' => LnR w w' s e := by
  have HOW : Hid ((w.alloc (.cells #[] 9)).ownsRow w.heap.size 9 1 (.slice (some ⟨w.heap.size, 0, none⟩) 0 0) 0 (([] : List ByteArray).map Value.string)) := World.ownsRow_made (base := w.heap.size) (e := 9) (size := 1) w #[] 0 (Nat.le_refl _) (by decide) rfl
  have HB0 : Hid (Below w.heap.size w (w.alloc (.cells #[] 9))) := (Below.refl _ _).alloc (Nat.le_refl _) _
  go_enter Tryd.func32, Tryd.ntmps32
  go_wp2
  go_loopw [4, 5, 6] (fun vr vf vi wr => ∃ (i f n : Nat) (L : List (List UInt8)), i ≤ s.size ∧ f ≤ i ∧ n ≤ i ∧ vi = .int .i64 (i : Int) ∧ vf = .int .i64 (f : Int) ∧ vr ≠ .slice none 0 0 ∧ wr.ownsRow w.heap.size 9 1 vr n ((bas L).map Value.string) ∧ (∀ b ∈ (s.extract f i).data.toList, b ≠ 10) ∧ lnA [] s.data.toList = (L ++ (lnA [] (s.data.toList.drop f)).1, (lnA [] (s.data.toList.drop f)).2) ∧ Below w.heap.size w wr) (fun _ _ vi _ => s.size - (intOf vi).toNat)
  case atStart => exact ⟨0, 0, 0, [], Nat.zero_le _, Nat.le_refl _, Nat.le_refl _, rfl, rfl, by simp, HOW.out, by simp, by simp, HB0.out⟩
  case round =>
    obtain ⟨i, f, n, L, hi, hfi, hni, rfl, rfl, hvn, hown, hno, hln, hbel⟩ := hrel
    obtain ⟨vr, rfl⟩ : ∃ vr, vr = u4 := ⟨_, rfl⟩
    have HOWN : Hid (wr.ownsRow w.heap.size 9 1 vr n ((bas L).map Value.string)) := hown
    have HVN : Hid (vr ≠ .slice none 0 0) := hvn
    have HNO : Hid (∀ b ∈ (s.extract f i).data.toList, b ≠ 10) := hno
    have HLN : Hid (lnA [] s.data.toList = (L ++ (lnA [] (s.data.toList.drop f)).1, (lnA [] (s.data.toList.drop f)).2)) := hln
    have HBE : Hid (Below w.heap.size w wr) := hbel
    clear hown hvn hno hln hbel
    by_cases hil : i < s.size
    · have hil' : (i : Int) < (s.size : Int) := by omega
      have hi0 : (0 : Int) ≤ (i : Int) := by omega
      by_cases hc : s[i] = 10
      · have hc' : (s[i].toNat : Int) = 10 := by rw [hc]; rfl
        have hcb : ((s[i].toNat : Int) == 10) = true := by rw [hc']; rfl
        have hfi' : (f : Int) ≤ (i : Int) := by omega
        have hf0 : (0 : Int) ≤ (f : Int) := by omega
        have HX : Hid (lnA [] s.data.toList = ((L ++ [(s.extract f i).data.toList]) ++ (lnA [] (s.data.toList.drop (i + 1))).1, (lnA [] (s.data.toList.drop (i + 1))).2)) := by
          show _ = _
          rw [HLN.out, take_from hfi, drop_at hil, hc, lnA_line _ _ _ HNO.out]
          simp
        have HBA : Hid ((bas L ++ [s.extract f i]) = bas (L ++ [(s.extract f i).data.toList])) := bas_snoc _ _
        have HO5 : Hid (∀ o, (wr.alloc o).ownsRow w.heap.size 9 1 vr n ((bas L).map Value.string)) := fun o => own_below HOWN.out ((Below.refl _ _).alloc (Nat.le_refl _) _)
        have HB5 : Hid (∀ o, Below w.heap.size w (wr.alloc o)) := fun o => HBE.out.alloc HBE.out.size _
        have hcell : (wr.alloc (.cells #[.string (s.extract f i)] 9)).cell? ⟨wr.heap.size, 0, none⟩ = some (.string (s.extract f i)) := by rw [World.cell?_alloc_new]; rfl
        have HCE := Lib.hid hcell
        clear hcell
        go_wp2_with (first
          | (at_builtin; refine app_txt _ rfl _ _ rfl w.heap.size vr n (bas L) rfl (HO5.out _) HVN.out (s.extract f i) ⟨wr.heap.size, 0, none⟩ rfl HCE.out (by omega) (HB5.out _).size ?_; intro v6 w6 hown6 hv6 hg6; refine Hid.out ?_)
          | go_in)
        refine Lib.hid ?_
        have HO6 : Hid (w6.ownsRow w.heap.size 9 1 v6 (n + 1) ((bas (L ++ [(s.extract f i).data.toList])).map Value.string)) := by show World.ownsRow _ _ _ _ _ _ _; rw [← HBA.out]; exact hown6
        have HV6 : Hid (v6 ≠ .slice none 0 0) := hv6
        have HB6 : Hid (Below w.heap.size w w6) := (HB5.out _).grown hg6 (HB5.out _).size (fun k hk => (HOWN.out.lt k hk).1)
        clear hown6 hv6 hg6
        go_wp2
        go_roundw
        case rel => exact ⟨i + 1, i + 1, n + 1, _, by omega, by omega, by omega, by go_num, by go_num, HV6.out, HO6.out, by simp, HX.out, HB6.out⟩
        case measure => simp [intOf]; omega
      · have hc' : ¬ (s[i].toNat : Int) = 10 := fun e => hc (UInt8.toNat_inj.1 (by show _ = 10; omega))
        have hcb : ((s[i].toNat : Int) == 10) = false := by simpa using hc'
        have HN2 : Hid (∀ b ∈ (s.extract f (i + 1)).data.toList, b ≠ 10) := fun b hb => by
          have e1 := take_from (s := s) (f := f) (i := i + 1) (by omega)
          have e2 := take_from (s := s) (f := f) (i := i) hfi
          rw [drop_at hil] at e2
          have e3 : (s.extract f (i + 1)).data.toList = (s.extract f i).data.toList ++ [s[i]] := by
            refine List.append_cancel_right (bs := s.data.toList.drop (i + 1)) ?_
            rw [← e1, e2]
            simp
          rw [e3, List.mem_append, List.mem_singleton] at hb
          rcases hb with hb | rfl
          · exact HNO.out b hb
          · exact hc
        go_wp2
        go_roundw
        case rel => exact ⟨i + 1, f, n, L, by omega, by omega, by omega, by go_num, rfl, HVN.out, HOWN.out, HN2.out, HLN.out, HBE.out⟩
        case measure => simp [intOf]; omega
    · obtain rfl : i = s.size := by omega
      obtain ⟨g, cap, rfl, hg, hlen, hrw⟩ := own_Ss HOWN.out HVN.out
      have hx : lnA [] (s.data.toList.drop f) = ([], (s.extract f s.size).data.toList) := by
        have e := take_from (s := s) hfi
        have e0 : s.data.toList.drop s.size = [] := List.drop_eq_nil_of_le (by simp)
        rw [e0, List.append_nil] at e
        have e1 := lnA_step [] _ [] HNO.out
        rw [List.append_nil, List.nil_append] at e1
        rw [e, e1]
        rfl
      have hL : lnA [] s.data.toList = (L, (s.extract f s.size).data.toList) := by rw [HLN.out, hx]; simp
      have hdec : ((f : Int) == (s.size : Int)) = decide ((lnA [] s.data.toList).2 = []) := by
        rw [hL]
        have hz : (s.extract f s.size).data.toList = [] ↔ f = s.size := by
          rw [ext_list]
          constructor
          · intro h
            have := congrArg List.length h
            simp at this
            omega
          · intro h
            subst h
            simp
        rw [Bool.eq_iff_iff]
        simp only [beq_iff_eq, decide_eq_true_eq, hz]
        omega
      have HF : Hid (LnR w wr s (.returned (.tuple #[.slice (some ⟨g, 0, none⟩) n cap, .bool ((f : Int) == (s.size : Int))]))) := by
        refine ⟨g, n, cap, by rw [hdec], ?_, hg, ?_, HBE.out⟩
        · rw [hL, ← hlen]
          simp [bas]
        · rw [hL]
          exact hrw
      clear hx hL hdec hrw hg hlen
      go_wp2
      go_ret2
      exact HF.out

end Go.Proofs.YtheponigjofknaaDoor.mt
