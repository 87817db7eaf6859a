import Derived.Test.YtnicjhapalgpdaaGreatDoorVD
namespace Go.Proofs.YtnicjhapalgpdaaGreatDoor.vr
open Go.ChangeShapes Go.WideShapes Go.ChangeAt Go.RowKit Go.Deep Go.Shelf
set_option linter.unusedVariables false
set_option linter.unusedSimpArgs false

/-! ### Versions: the specification's side -/

def ptSc : Pt → List Value
  | .num n => [.string ⟨#[]⟩, .int .i64 (n : Int)]
  | .word l => [.string ⟨l.toArray⟩, .int .i64 0]

def OwnP (B : Nat) (w : World) (v : Value) (ps : List Pt) : Prop := w.ownsRow B 69 2 v ps.length (ps.flatMap ptSc)

theorem own2_zero (w : World) : OwnP w.heap.size (w.alloc (.cells #[] 69)) (.slice (some ⟨w.heap.size, 0, none⟩) 0 0) [] := World.ownsRow_made w #[] 0 (Nat.le_refl _) (by decide) rfl

def PIs (B : Nat) (l : List UInt8) (e : Ending) (w' : World) : Prop := ver l = none ∧ (∃ v, e = .returned (.tuple #[v, .bool false])) ∨ ∃ ps v, ver l = some ps ∧ e = .returned (.tuple #[v, .bool true]) ∧ OwnP B w' v ps

theorem infoLP : (Tryz.prog.info? 69).map (fun i => (i.zero, i.size, i.bytes)) = some (some (.agg #[.string ⟨#[]⟩, .int .i64 0]), 2, 24) := by kernel_rfl

theorem two_new (w : World) (a b : Value) (e : TypeId) : ∀ j v, [a, b][j]? = some v → (w.alloc (.cells #[a, b] e)).cell? ((⟨w.heap.size, 0, none⟩ : Addr).add j) = some v := by
  intro j v h
  rw [addr_add, Nat.zero_add]
  match j, h with
  | 0, h => obtain rfl : a = v := by simpa using h
            simp [go_sem]
  | 1, h => obtain rfl : b = v := by simpa using h
            simp [go_sem]

/-- A row of signs that has been gone through from i to k. -/
structure Row (f : UInt8 → Bool) (s : ByteArray) (i k : Nat) : Prop where
  le : i ≤ k
  up : k ≤ s.size
  all : ∀ c ∈ (s.data.toList.drop i).take (k - i), f c = true

theorem get_drop {s : ByteArray} {i k : Nat} (h0 : i ≤ k) (hk : k < s.size) (hh : k - i < (s.data.toList.drop i).length) : (s.data.toList.drop i)[k - i]'hh = s[k] := by
  have e1 : (s.data.toList.drop i)[k - i]? = some s[k] := by rw [List.getElem?_drop, show i + (k - i) = k by omega]; exact getS hk
  exact Option.some.inj ((List.getElem?_eq_getElem hh).symm.trans e1)

theorem Row.step {f : UInt8 → Bool} {s : ByteArray} {i k : Nat} (h : Row f s i k) (hk : k < s.size) (hf : f s[k] = true) : Row f s i (k + 1) := by
  refine ⟨by have := h.le; omega, hk, ?_⟩
  have h0 := h.le
  intro c hc
  rw [show k + 1 - i = (k - i) + 1 by omega, List.take_succ_eq_append_getElem (by rw [List.length_drop, lenS]; omega)] at hc
  rcases List.mem_append.1 hc with hc | hc
  · exact h.all c hc
  · rw [List.mem_singleton] at hc
    have : c = s[k] := by rw [hc]; exact get_drop h0 hk _
    rw [this]; exact hf

theorem Row.seg {f : UInt8 → Bool} {s : ByteArray} {i k : Nat} (h : Row f s i k) : (s.data.toList.drop i).drop (k - i) = s.data.toList.drop k := by
  rw [List.drop_drop, show i + (k - i) = k by have := h.le; omega]

theorem Row.stop {f : UInt8 → Bool} {s : ByteArray} {i k : Nat} (h : Row f s i k) (hb : ∀ h : k < s.size, f s[k] = false) : (s.data.toList.drop i).takeWhile f = (s.data.toList.drop i).take (k - i) ∧ (s.data.toList.drop i).dropWhile f = s.data.toList.drop k := by
  have := tw_of (f := f) (l := s.data.toList.drop i) (List.take_append_drop (k - i) _).symm h.all (fun c hc => by
    rw [h.seg] at hc
    by_cases hl : k < s.size
    · rw [dropS hl] at hc
      have : c = s[k] := by simpa using hc.symm
      rw [this]; exact hb hl
    · rw [List.drop_eq_nil_of_le (by rw [lenS]; omega)] at hc; cases hc)
  rw [h.seg] at this
  exact this

theorem Row.len {f : UInt8 → Bool} {s : ByteArray} {i k : Nat} (h : Row f s i k) : ((s.data.toList.drop i).take (k - i)).length = k - i := by
  have := h.le; have := h.up
  rw [List.length_take, List.length_drop, lenS]; omega

theorem Row.long {f : UInt8 → Bool} {s : ByteArray} {i k : Nat} (h : Row f s i k) : k - i ≤ ((s.data.toList.drop i).takeWhile f).length := by
  have := tw_long (f := f) (l := s.data.toList.drop i) (List.take_append_drop (k - i) _).symm h.all
  rwa [h.len] at this

theorem Row.num {s : ByteArray} {i k : Nat} (h : Row dig s i k) (hk : k < s.size) : numL ((s.data.toList.drop i).take (k + 1 - i)) = numL ((s.data.toList.drop i).take (k - i)) * 10 + (s[k].toNat - 48) := by
  have h0 := h.le
  rw [show k + 1 - i = (k - i) + 1 by omega, List.take_succ_eq_append_getElem (by rw [List.length_drop, lenS]; omega), numL_snoc, get_drop h0 hk]

theorem at_num {s : ByteArray} {i : Nat} (h : i < s.size) (hd : dig s[i] = true) : prts (s.data.toList.drop i) = if 15 < ((s.data.toList.drop i).takeWhile dig).length then none else (prts ((s.data.toList.drop i).dropWhile dig)).map (Pt.num (numL ((s.data.toList.drop i).takeWhile dig)) :: ·) := prts_num (dropS h) hd
theorem at_word {s : ByteArray} {i : Nat} (h : i < s.size) (hd : dig s[i] = false) (h2 : ltr s[i] = true) : prts (s.data.toList.drop i) = (prts ((s.data.toList.drop i).dropWhile ltr)).map (Pt.word ((s.data.toList.drop i).takeWhile ltr) :: ·) := prts_word (dropS h) hd h2
theorem at_sep {s : ByteArray} {i : Nat} (h : i < s.size) (hd : dig s[i] = false) (h2 : ltr s[i] = false) (h3 : s[i].toNat = 46 ∨ s[i].toNat = 45) : prts (s.data.toList.drop i) = prts (s.data.toList.drop (i + 1)) := by rw [dropS h, prts_sep hd h2 h3]
theorem at_bad {s : ByteArray} {i : Nat} (h : i < s.size) (hd : dig s[i] = false) (h2 : ltr s[i] = false) (h3 : ¬ (s[i].toNat = 46 ∨ s[i].toNat = 45)) : prts (s.data.toList.drop i) = none := by rw [dropS h, prts_bad hd h2 h3]

theorem at_num' {s : ByteArray} {i k : Nat} (h : i < s.size) (hd : dig s[i] = true) (hr : Row dig s i k) (hb : ∀ h : k < s.size, dig s[k] = false) (h15 : k - i ≤ 15) : i < k ∧ prts (s.data.toList.drop i) = (prts (s.data.toList.drop k)).map (Pt.num (numL ((s.data.toList.drop i).take (k - i))) :: ·) := by
  obtain ⟨e1, e2⟩ := hr.stop hb
  refine ⟨?_, by rw [at_num h hd, e1, e2, hr.len, if_neg (by omega)]⟩
  rcases Nat.lt_or_eq_of_le hr.le with h' | rfl
  · exact h'
  · have := hb h; rw [hd] at this; cases this
theorem at_word' {s : ByteArray} {i k : Nat} (h : i < s.size) (hd : dig s[i] = false) (h2 : ltr s[i] = true) (hr : Row ltr s i k) (hb : ∀ h : k < s.size, ltr s[k] = false) : i < k ∧ prts (s.data.toList.drop i) = (prts (s.data.toList.drop k)).map (Pt.word ((s.data.toList.drop i).take (k - i)) :: ·) := by
  obtain ⟨e1, e2⟩ := hr.stop hb
  refine ⟨?_, by rw [at_word h hd h2, e1, e2]⟩
  rcases Nat.lt_or_eq_of_le hr.le with h' | rfl
  · exact h'
  · have := hb h; rw [h2] at this; cases this

theorem own_snoc {B : Nat} {w : World} {v : Value} {done : List Pt} {p : Pt} {cs : List Value} (hc : ptSc p = cs) (h : w.ownsRow B 69 2 v (done.length + 1) (done.flatMap ptSc ++ cs)) : OwnP B w v (done ++ [p]) := by
  unfold OwnP
  rw [List.flatMap_append, List.length_append]
  simp only [List.flatMap_cons, List.flatMap_nil, List.append_nil, hc, List.length_singleton]
  exact h

theorem map_snoc (o : Option (List Pt)) (done : List Pt) (p : Pt) : (o.map (p :: ·)).map (done ++ ·) = o.map ((done ++ [p]) ++ ·) := by
  rw [Option.map_map]; congr 1; funext q; simp

theorem ext_mid {s : ByteArray} {i k : Nat} (h : i ≤ k) (hk : k ≤ s.size) : s.extract i k = ⟨((s.data.toList.drop i).take (k - i)).toArray⟩ := by
  apply ByteArray.ext
  apply Array.toList_inj.1
  rw [Lib.extract_data]

set_option maxHeartbeats 4000000 in
set_option maxRecDepth 100000 in
theorem parts_any (s : ByteArray) (hs : s.size ≤ 1048576) (w : World) :
    Calls Tryz.prog 19 #[.string s] w fun e w' => PIs w.heap.size s.data.toList e w' ∧ Below w.heap.size w w' := by
  by_cases h1 : s.size < 1
  · have HN : Hid (ver s.data.toList = none) := ver_none (.inl (by rw [lenS]; omega))
    go_enter Tryz.func19, Tryz.ntmps19
    go_wp2
    go_ret2
    exact ⟨.inl ⟨HN.out, _, rfl⟩, (Below.refl _ _).alloc (Nat.le_refl _) _⟩
  by_cases h2 : 30 < s.size
  · have HN : Hid (ver s.data.toList = none) := ver_none (.inr (.inl (by rw [lenS]; omega)))
    go_enter Tryz.func19, Tryz.ntmps19
    go_wp2
    go_ret2
    exact ⟨.inl ⟨HN.out, _, rfl⟩, (Below.refl _ _).alloc (Nat.le_refl _) _⟩
  have h0 : 0 < s.size := by omega
  have hb255 : (s[0].toNat : Int) ≤ 255 := by have := s[0].toNat_lt; omega
  cases hd : dig s[0] with
  | false =>
    have HN : Hid (ver s.data.toList = none) := ver_none (.inr (.inr ⟨_, getS h0, hd⟩))
    go_enter Tryz.func19, Tryz.ntmps19
    go_wp2_with (go_at_call 31; refine (digit_any _ _).mono ?_; rintro e w' ⟨rfl, rfl⟩)
    go_ret2
    exact ⟨.inl ⟨HN.out, _, rfl⟩, (Below.refl _ _).alloc (Nat.le_refl _) _⟩
  | true =>
    have HV : Hid (ver s.data.toList = prts s.data.toList) := ver_of (by rw [lenS]; omega) (by rw [lenS]; omega) (fun c hc => by rw [getS h0] at hc; cases hc; exact hd)
    go_enter Tryz.func19, Tryz.ntmps19
    go_wp2_with (go_at_call 31; refine (digit_any _ _).mono ?_; rintro e w' ⟨rfl, hw⟩; obtain rfl := hw.symm; clear hw)
    go_loopw [4, 5, 6, 7] (fun v r _ _ wr => ∃ (i : Nat) (done : List Pt), r = .int .i64 (i : Int) ∧ i ≤ s.size ∧ done.length ≤ i ∧ prts s.data.toList = (prts (s.data.toList.drop i)).map (done ++ ·) ∧ OwnP w.heap.size wr v done ∧ Below w.heap.size w wr) (fun _ r _ _ _ => s.size - (intOf r).toNat)
    case atStart => exact ⟨0, [], rfl, by omega, by simp, by simp, own2_zero w, (Below.refl _ _).alloc (Nat.le_refl _) _⟩
    case round =>
      obtain ⟨i, done, rfl, hi, hlen, hpr, hown, hbel⟩ := hrel
      have HP : Hid (prts s.data.toList = (prts (s.data.toList.drop i)).map (done ++ ·)) := hpr
      have HO : Hid (OwnP w.heap.size wr _ done) := hown
      have hsz := hbel.size
      clear hpr hown
      by_cases hlt : i < s.size
      · have hbi : (s[i].toNat : Int) ≤ 255 := by have := s[i].toNat_lt; omega
        cases hdi : dig s[i] with
        | true =>
          go_wp2_with (go_at_call 31; refine (digit_any _ _).mono ?_; rintro e wr ⟨rfl, rfl⟩)
          go_loopw [5, 7] (fun r n wr2 => ∃ k : Nat, r = .int .i64 (k : Int) ∧ Row dig s i k ∧ k - i ≤ 15 ∧ n = .int .i64 (numL ((s.data.toList.drop i).take (k - i)) : Int) ∧ wr2 = wr) (fun r _ _ => s.size - (intOf r).toNat)
          case atStart => exact ⟨i, rfl, ⟨Nat.le_refl _, by omega, by simp⟩, by omega, by simp [numL], rfl⟩
          case round =>
            obtain ⟨k, rfl, hrow, hk15, rfl, rfl⟩ := hrel
            have hle := hrow.le
            have hup := hrow.up
            have hN15 := numL_lt15 hrow.all (by rw [hrow.len]; exact hk15)
            by_cases hk : k < s.size
            · have hbk : (s[k].toNat : Int) ≤ 255 := by have := s[k].toNat_lt; omega
              cases hdk : dig s[k] with
              | true =>
                have hdd : 48 ≤ (s[k].toNat : Int) ∧ (s[k].toNat : Int) ≤ 57 := by simp only [dig, decide_eq_true_eq] at hdk; omega
                have hrow2 := hrow.step hk hdk
                have HN2 := hrow.num hk
                have HR2 : Hid (Row dig s i (k + 1)) := hrow2
                have HR1 : Hid (Row dig s i k) := hrow
                generalize hNN : numL ((s.data.toList.drop i).take (k - i)) = N at *
                have HN2' : Hid (numL ((s.data.toList.drop i).take (k + 1 - i)) = N * 10 + (s[k].toNat - 48)) := HN2
                clear HN2 hNN hrow hrow2
                by_cases h15 : 15 < k + 1 - i
                · have HS : Hid (ver s.data.toList = none) := by
                    show _ = _
                    rw [HV.out, HP.out, at_num hlt hdi, if_pos (by have := HR2.out.long; omega)]; rfl
                  go_wp2_with (go_at_call 31; refine (digit_any _ _).mono ?_; rintro e wr ⟨rfl, rfl⟩)
                  go_ret2
                  exact ⟨.inl ⟨HS.out, _, rfl⟩, hbel⟩
                · go_wp2_with (go_at_call 31; refine (digit_any _ _).mono ?_; rintro e wr ⟨rfl, rfl⟩)
                  go_roundw
                  case rel => exact ⟨k + 1, by go_num, HR2.out, by omega, by rw [HN2'.out]; congr 1; omega, trivial⟩
                  case measure => simp [intOf]; omega
              | false =>
                obtain ⟨hik, hst⟩ := at_num' hlt hdi hrow (fun _ => hdk) hk15
                have HR1 : Hid (Row dig s i k) := hrow
                generalize hNN : numL ((s.data.toList.drop i).take (k - i)) = N at *
                have HST : Hid (prts s.data.toList = (prts (s.data.toList.drop k)).map ((done ++ [Pt.num N]) ++ ·)) := by show _ = _; rw [HP.out, hst, map_snoc]
                clear hst hrow hNN
                have HO1 : Hid (OwnP w.heap.size (wr.alloc (.cells #[.string ⟨#[]⟩, .int .i64 (N : Int)] 69)) _ done) := HO.out.alloc _
                go_wp2_with (first
                  | (go_at_call 31; refine (digit_any _ _).mono ?_; rintro e wr ⟨rfl, rfl⟩)
                  | (at_builtin; refine app_ownS _ rfl _ _ 51 rfl w.heap.size 69 (.agg #[.string ⟨#[]⟩, .int .i64 0]) 2 24 Tryz.underlying51 infoLP rfl (by omega) _ _ _ rfl HO1.out ⟨wr.heap.size, 0, none⟩ 1 1 [.string ⟨#[]⟩, .int .i64 (N : Int)] rfl rfl (two_new wr _ _ _) ?c2 ?c3 ?c4 ?c5 ?_)
                  | go_in)
                case c2 => intro u hu; simp at hu; rcases hu with rfl | rfl <;> rfl
                case c3 => unfold maxLen; omega
                case c4 => omega
                case c5 => simp; omega
                intro v1 w2 hown2 hg2
                have hb2 : Below w.heap.size w w2 := below_grownS (hbel.alloc hsz _) HO1.out hg2 (by simp; omega)
                have HO2 : Hid (OwnP w.heap.size w2 v1 (done ++ [Pt.num N])) := own_snoc rfl hown2
                clear hown2 hg2
                go_wp2
                go_roundw
                case rel => exact ⟨k, done ++ [Pt.num N], by go_num, by omega, by simp; omega, HST.out, HO2.out, hb2⟩
                case measure => simp [intOf]; omega
            · obtain ⟨hik, hst⟩ := at_num' hlt hdi hrow (fun h => absurd h hk) hk15
              have HR1 : Hid (Row dig s i k) := hrow
              generalize hNN : numL ((s.data.toList.drop i).take (k - i)) = N at *
              have HST : Hid (prts s.data.toList = (prts (s.data.toList.drop k)).map ((done ++ [Pt.num N]) ++ ·)) := by show _ = _; rw [HP.out, hst, map_snoc]
              clear hst hrow hNN
              have HO1 : Hid (OwnP w.heap.size (wr.alloc (.cells #[.string ⟨#[]⟩, .int .i64 (N : Int)] 69)) _ done) := HO.out.alloc _
              go_wp2_with (first
                | (at_builtin; refine app_ownS _ rfl _ _ 51 rfl w.heap.size 69 (.agg #[.string ⟨#[]⟩, .int .i64 0]) 2 24 Tryz.underlying51 infoLP rfl (by omega) _ _ _ rfl HO1.out ⟨wr.heap.size, 0, none⟩ 1 1 [.string ⟨#[]⟩, .int .i64 (N : Int)] rfl rfl (two_new wr _ _ _) ?c2 ?c3 ?c4 ?c5 ?_)
                | go_in)
              case c2 => intro u hu; simp at hu; rcases hu with rfl | rfl <;> rfl
              case c3 => unfold maxLen; omega
              case c4 => omega
              case c5 => simp; omega
              intro v1 w2 hown2 hg2
              have hb2 : Below w.heap.size w w2 := below_grownS (hbel.alloc hsz _) HO1.out hg2 (by simp; omega)
              have HO2 : Hid (OwnP w.heap.size w2 v1 (done ++ [Pt.num N])) := own_snoc rfl hown2
              clear hown2 hg2
              go_wp2
              go_roundw
              case rel => exact ⟨k, done ++ [Pt.num N], by go_num, by omega, by simp; omega, HST.out, HO2.out, hb2⟩
              case measure => simp [intOf]; omega
        | false =>
          cases hli : ltr s[i] with
          | true =>
            go_wp2_with (first
              | (go_at_call 31; refine (digit_any _ _).mono ?_; rintro e wr ⟨rfl, rfl⟩)
              | (go_at_call 32; refine (letter_any _ _).mono ?_; rintro e wr ⟨rfl, rfl⟩))
            go_loopw [5] (fun r wr2 => ∃ k : Nat, r = .int .i64 (k : Int) ∧ Row ltr s i k ∧ wr2 = wr) (fun r _ => s.size - (intOf r).toNat)
            case atStart => exact ⟨i, rfl, ⟨Nat.le_refl _, by omega, by simp⟩, rfl⟩
            case round =>
              obtain ⟨k, rfl, hrow, rfl⟩ := hrel
              have hle := hrow.le
              have hup := hrow.up
              by_cases hk : k < s.size
              · have hbk : (s[k].toNat : Int) ≤ 255 := by have := s[k].toNat_lt; omega
                cases hdk : ltr s[k] with
                | true =>
                  have HR2 : Hid (Row ltr s i (k + 1)) := hrow.step hk hdk
                  clear hrow
                  go_wp2_with (go_at_call 32; refine (letter_any _ _).mono ?_; rintro e wr ⟨rfl, rfl⟩)
                  go_roundw
                  case rel => exact ⟨k + 1, by go_num, HR2.out, trivial⟩
                  case measure => simp [intOf]; omega
                | false =>
                  obtain ⟨hik, hst⟩ := at_word' hlt hdi hli hrow (fun _ => hdk)
                  have HX : Hid (ptSc (Pt.word ((s.data.toList.drop i).take (k - i))) = [.string (s.extract i k), .int .i64 0]) := by show _ = _; rw [ext_mid hle hup]; rfl
                  generalize hNN : Pt.word ((s.data.toList.drop i).take (k - i)) = P at *
                  have HST : Hid (prts s.data.toList = (prts (s.data.toList.drop k)).map ((done ++ [P]) ++ ·)) := by show _ = _; rw [HP.out, hst, map_snoc]
                  clear hst hrow hNN
                  have HO1 : Hid (OwnP w.heap.size (wr.alloc (.cells #[.string (s.extract i k), .int .i64 0] 69)) _ done) := HO.out.alloc _
                  go_wp2_with (first
                    | (go_at_call 32; refine (letter_any _ _).mono ?_; rintro e wr ⟨rfl, rfl⟩)
                    | (at_builtin; refine app_ownS _ rfl _ _ 51 rfl w.heap.size 69 (.agg #[.string ⟨#[]⟩, .int .i64 0]) 2 24 Tryz.underlying51 infoLP rfl (by omega) _ _ _ rfl HO1.out ⟨wr.heap.size, 0, none⟩ 1 1 [.string (s.extract i k), .int .i64 0] rfl rfl (two_new wr _ _ _) ?c2 ?c3 ?c4 ?c5 ?_)
                    | go_in)
                  case c2 => intro u hu; simp at hu; rcases hu with rfl | rfl <;> rfl
                  case c3 => unfold maxLen; omega
                  case c4 => omega
                  case c5 => simp; omega
                  intro v1 w2 hown2 hg2
                  have hb2 : Below w.heap.size w w2 := below_grownS (hbel.alloc hsz _) HO1.out hg2 (by simp; omega)
                  have HO2 : Hid (OwnP w.heap.size w2 v1 (done ++ [P])) := own_snoc HX.out hown2
                  clear hown2 hg2
                  go_wp2
                  go_roundw
                  case rel => exact ⟨k, done ++ [P], by go_num, by omega, by simp; omega, HST.out, HO2.out, hb2⟩
                  case measure => simp [intOf]; omega
              · obtain ⟨hik, hst⟩ := at_word' hlt hdi hli hrow (fun h => absurd h hk)
                have HX : Hid (ptSc (Pt.word ((s.data.toList.drop i).take (k - i))) = [.string (s.extract i k), .int .i64 0]) := by show _ = _; rw [ext_mid hle hup]; rfl
                generalize hNN : Pt.word ((s.data.toList.drop i).take (k - i)) = P at *
                have HST : Hid (prts s.data.toList = (prts (s.data.toList.drop k)).map ((done ++ [P]) ++ ·)) := by show _ = _; rw [HP.out, hst, map_snoc]
                clear hst hrow hNN
                have HO1 : Hid (OwnP w.heap.size (wr.alloc (.cells #[.string (s.extract i k), .int .i64 0] 69)) _ done) := HO.out.alloc _
                go_wp2_with (first
                  | (at_builtin; refine app_ownS _ rfl _ _ 51 rfl w.heap.size 69 (.agg #[.string ⟨#[]⟩, .int .i64 0]) 2 24 Tryz.underlying51 infoLP rfl (by omega) _ _ _ rfl HO1.out ⟨wr.heap.size, 0, none⟩ 1 1 [.string (s.extract i k), .int .i64 0] rfl rfl (two_new wr _ _ _) ?c2 ?c3 ?c4 ?c5 ?_)
                  | go_in)
                case c2 => intro u hu; simp at hu; rcases hu with rfl | rfl <;> rfl
                case c3 => unfold maxLen; omega
                case c4 => omega
                case c5 => simp; omega
                intro v1 w2 hown2 hg2
                have hb2 : Below w.heap.size w w2 := below_grownS (hbel.alloc hsz _) HO1.out hg2 (by simp; omega)
                have HO2 : Hid (OwnP w.heap.size w2 v1 (done ++ [P])) := own_snoc HX.out hown2
                clear hown2 hg2
                go_wp2
                go_roundw
                case rel => exact ⟨k, done ++ [P], by go_num, by omega, by simp; omega, HST.out, HO2.out, hb2⟩
                case measure => simp [intOf]; omega
          | false =>
            by_cases h3 : s[i].toNat = 46 ∨ s[i].toNat = 45
            · have HS : Hid (prts (s.data.toList.drop i) = prts (s.data.toList.drop (i + 1))) := at_sep hlt hdi hli h3
              go_wp2_with (first
                | (go_at_call 31; refine (digit_any _ _).mono ?_; rintro e wr ⟨rfl, rfl⟩)
                | (go_at_call 32; refine (letter_any _ _).mono ?_; rintro e wr ⟨rfl, rfl⟩))
              all_goals first
                | (go_roundw
                   case rel => exact ⟨i + 1, done, by go_num, by omega, by omega, by rw [HP.out, HS.out], HO.out, hbel⟩
                   case measure => simp [intOf]; omega)
                | (exfalso; simp only [beq_eq_false_iff_ne, ne_eq] at *; omega)
            · have HS : Hid (ver s.data.toList = none) := by show _ = _; rw [HV.out, HP.out, at_bad hlt hdi hli h3]; rfl
              have h4 : ((s[i].toNat : Int) == 46) = false := by rw [beq_eq_false_iff_ne]; omega
              have h5 : ((s[i].toNat : Int) == 45) = false := by rw [beq_eq_false_iff_ne]; omega
              clear h3
              go_wp2_with (first
                | (go_at_call 31; refine (digit_any _ _).mono ?_; rintro e w' ⟨rfl, rfl⟩)
                | (go_at_call 32; refine (letter_any _ _).mono ?_; rintro e w' ⟨rfl, rfl⟩))
              go_ret2
              exact ⟨.inl ⟨HS.out, _, rfl⟩, hbel⟩
      · obtain rfl : i = s.size := by omega
        have HF : Hid (ver s.data.toList = some done) := by show _ = _; rw [HV.out, HP.out, List.drop_eq_nil_of_le (by rw [lenS]; omega), prts_nil]; simp
        go_wp2
        go_ret2
        exact ⟨.inr ⟨done, _, HF.out, rfl, HO.out⟩, hbel⟩

end Go.Proofs.YtnicjhapalgpdaaGreatDoor.vr
