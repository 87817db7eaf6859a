import Derived.Test.YtnicjhapalgpdaaGreatDoorVC
namespace Go.Proofs.YtnicjhapalgpdaaGreatDoor.vr
open Go.ChangeShapes Go.WideShapes Go.ChangeAt Go.RowKit Go.Deep Go.Shelf
set_option linter.unusedVariables false
set_option linter.unusedSimpArgs false

def ptIc : Pt → List Value
  | .num n => [.int .i64 1, .int .i64 (n : Int), .string ⟨#[]⟩]
  | .word l => [.int .i64 (-1), .int .i64 0, .string ⟨l.toArray⟩]

theorem ptI_form (p : Pt) : ∃ (x y : Int) (z : ByteArray), ptI p = .agg #[.int .i64 x, .int .i64 y, .string z] ∧ ptIc p = [.int .i64 x, .int .i64 y, .string z] ∧ x ≠ 0 := by
  cases p with
  | num n => exact ⟨1, n, ⟨#[]⟩, rfl, rfl, by omega⟩
  | word l => exact ⟨-1, 0, ⟨l.toArray⟩, rfl, rfl, by omega⟩

theorem fp_size {l : List UInt8} {p : Option Pt} {k : Nat} (h : fp l = some (p, k)) : 1 ≤ k ∧ k ≤ l.length := by
  cases l with
  | nil => cases h
  | cons c r =>
    have e : fp (c :: r) = (if dig c = true then (if 15 < ((c :: r).takeWhile dig).length then none else some (some (Pt.num (numL ((c :: r).takeWhile dig))), ((c :: r).takeWhile dig).length))
      else if ltr c = true then some (some (Pt.word ((c :: r).takeWhile ltr)), ((c :: r).takeWhile ltr).length)
      else if c.toNat = 46 ∨ c.toNat = 45 then some (none, 1) else none) := rfl
    rw [e] at h
    by_cases h1 : dig c = true
    · rw [if_pos h1] at h
      by_cases h2 : 15 < ((c :: r).takeWhile dig).length
      · rw [if_pos h2] at h; cases h
      · rw [if_neg h2] at h
        simp only [Option.some.injEq, Prod.mk.injEq] at h
        rw [← h.2]
        refine ⟨?_, tw_le _ _⟩
        simp [List.takeWhile_cons, h1]
    · rw [if_neg h1] at h
      by_cases h2 : ltr c = true
      · rw [if_pos h2] at h
        simp only [Option.some.injEq, Prod.mk.injEq] at h
        rw [← h.2]
        refine ⟨?_, tw_le _ _⟩
        simp [List.takeWhile_cons, h2]
      · rw [if_neg h2] at h
        by_cases h3 : c.toNat = 46 ∨ c.toNat = 45
        · rw [if_pos h3] at h
          simp only [Option.some.injEq, Prod.mk.injEq] at h
          rw [← h.2]
          simp
        · rw [if_neg h3] at h; cases h

theorem extE {s : ByteArray} {n : Nat} (h : n ≤ s.size) : (s.extract n s.size).data.toList = s.data.toList.drop n := by
  rw [Lib.extract_data, List.take_of_length_le (by rw [List.length_drop, lenS]; omega)]

theorem infoVP : (Tryz.prog.info? 73).map (fun i => (i.zero, i.size, i.bytes)) = some (some noI, 3, 32) := by kernel_rfl

theorem three_new (w : World) (a b c : Value) (e : TypeId) : ∀ j v, [a, b, c][j]? = some v → (w.alloc (.cells #[a, b, c] e)).cell? ((⟨w.heap.size, 0, none⟩ : Addr).add j) = some v := by
  intro j v h
  rw [addr_add, Nat.zero_add]
  obtain ⟨k0, k1, k2⟩ := three_lit w a b c e
  match j, h with
  | 0, h => obtain rfl : a = v := by simpa using h
            exact k0
  | 1, h => obtain rfl : b = v := by simpa using h
            exact k1
  | 2, h => obtain rfl : c = v := by simpa using h
            exact k2

theorem ver_of {l : List UInt8} (h1 : 0 < l.length) (h2 : l.length ≤ 30) (h3 : ∀ c, l[0]? = some c → dig c = true) : ver l = prts l := by
  cases l with
  | nil => simp at h1
  | cons c r =>
    have e : ver (c :: r) = if (c :: r).length ≤ 30 ∧ dig c = true then prts (c :: r) else none := rfl
    rw [e, if_pos ⟨h2, h3 c rfl⟩]
theorem ver_none {l : List UInt8} (h : l.length = 0 ∨ 30 < l.length ∨ ∃ c, l[0]? = some c ∧ dig c = false) : ver l = none := by
  cases l with
  | nil => rfl
  | cons c r =>
    have e : ver (c :: r) = if (c :: r).length ≤ 30 ∧ dig c = true then prts (c :: r) else none := rfl
    rw [e, if_neg]
    rintro ⟨h1, h2⟩
    rcases h with h | h | ⟨d, h, hd⟩
    · simp at h
    · omega
    · have : c = d := by simpa using h
      rw [this, hd] at h2; cases h2

def OwnI (B : Nat) (w : World) (v : Value) (ps : List Pt) : Prop := w.ownsRow B 73 3 v ps.length (ps.flatMap ptIc)

theorem own3_zero (w : World) : OwnI w.heap.size (w.alloc (.cells #[] 73)) (.slice (some ⟨w.heap.size, 0, none⟩) 0 0) [] := World.ownsRow_made w #[] 0 (Nat.le_refl _) (by decide) rfl

/-- What versionOf answers. -/
def VIs (B : Nat) (l : List UInt8) (e : Ending) (w' : World) : Prop := ver l = none ∧ e = .returned (.tuple #[.slice none 0 0, .bool false]) ∨ ∃ ps v, ver l = some ps ∧ e = .returned (.tuple #[v, .bool true]) ∧ OwnI B w' v ps

set_option maxHeartbeats 2000000 in
set_option maxRecDepth 100000 in
theorem versionOf_any (s : ByteArray) (hs : s.size ≤ 1048576) (w : World) :
    Calls Tryz.prog 21 #[.string s] w fun e w' => VIs w.heap.size s.data.toList e w' ∧ Below w.heap.size w w' := by
  by_cases h1 : s.size < 1
  · have HN : Hid (ver s.data.toList = none) := ver_none (.inl (by rw [lenS]; omega))
    go_enter Tryz.func21, Tryz.ntmps21
    go_wp2
    go_ret2
    exact ⟨.inl ⟨HN.out, rfl⟩, Below.refl _ _⟩
  by_cases h2 : 30 < s.size
  · have HN : Hid (ver s.data.toList = none) := ver_none (.inr (.inl (by rw [lenS]; omega)))
    go_enter Tryz.func21, Tryz.ntmps21
    go_wp2
    go_ret2
    exact ⟨.inl ⟨HN.out, rfl⟩, Below.refl _ _⟩
  have h0 : 0 < s.size := by omega
  have hb255 : (s[0].toNat : Int) ≤ 255 := by have := s[0].toNat_lt; omega
  cases hd : dig s[0] with
  | false =>
    have HN : Hid (ver s.data.toList = none) := ver_none (.inr (.inr ⟨_, getS h0, hd⟩))
    go_enter Tryz.func21, Tryz.ntmps21
    go_wp2_with (go_at_call 34; refine (isDigit_any _ _).mono ?_; rintro e w' ⟨rfl, rfl⟩)
    go_ret2
    exact ⟨.inl ⟨HN.out, rfl⟩, Below.refl _ _⟩
  | true =>
    have HV : Hid (ver s.data.toList = prts s.data.toList) := ver_of (by rw [lenS]; omega) (by rw [lenS]; omega) (fun c hc => by rw [getS h0] at hc; cases hc; exact hd)
    go_enter Tryz.func21, Tryz.ntmps21
    go_wp2_with (go_at_call 34; refine (isDigit_any _ _).mono ?_; rintro e w ⟨rfl, rfl⟩)
    go_loopw [4, 5, 6, 7] (fun v r _ _ wr => ∃ (t : ByteArray) (done : List Pt), r = .string t ∧ done.length + t.size ≤ 30 ∧ prts s.data.toList = (prts t.data.toList).map (done ++ ·) ∧ OwnI w.heap.size wr v done ∧ Below w.heap.size w wr) (fun _ r _ _ _ => match r with | .string t => t.size | _ => 0)
    case atStart => exact ⟨s, [], rfl, by simp; omega, by simp, own3_zero w, (Below.refl _ _).alloc (Nat.le_refl _) _⟩
    case round =>
      obtain ⟨t, done, rfl, hlen, hpr, hown, hbel⟩ := hrel
      have HP : Hid (prts s.data.toList = (prts t.data.toList).map (done ++ ·)) := hpr
      have HO : Hid (OwnI w.heap.size wr _ done) := hown
      have hsz := hbel.size
      clear hpr hown
      by_cases ht : t.size = 0
      · have he : t.data.toList = [] := List.length_eq_zero_iff.1 (by rw [lenS]; exact ht)
        have hte : t = ⟨#[]⟩ := by apply ByteArray.ext; apply Array.toList_inj.1; rw [he]
        subst hte
        have HF : Hid (ver s.data.toList = some done) := by show _ = _; rw [HV.out, HP.out, he, prts_nil]; simp
        clear he
        go_wp2
        go_ret2
        exact ⟨.inr ⟨done, _, HF.out, rfl, HO.out⟩, hbel⟩
      · have hne : t.toList.isEmpty = false := by
          rw [ByteArray.toList_eq, List.isEmpty_eq_false_iff]
          intro e
          have := congrArg List.length e
          rw [lenS] at this
          exact ht this
        have hnn : t.data.toList ≠ [] := by intro e; have := lenS t; rw [e] at this; simp at this; omega
        have HPF := prts_fp hnn
        have HF : Hid (∀ W, Calls Tryz.prog 35 #[.string t] W fun e w' => e = .returned (fpV (fp t.data.toList)) ∧ Below W.heap.size W w') := fun W => firstPart_any t (by omega) (by omega) W
        clear hnn
        have hnb : t.size ≤ 30 := by omega
        cases hf : fp t.data.toList with
        | none =>
          rw [hf] at HF HPF
          have HN : Hid (ver s.data.toList = none) := by show _ = _; rw [HV.out, HP.out, HPF]; rfl
          clear HPF
          have HF' : Hid (∀ W, Calls Tryz.prog 35 #[.string t] W fun e w' => e = .returned (.tuple #[.agg #[.int .i64 0, .int .i64 0, .string ⟨#[]⟩], .int .i64 0]) ∧ Below W.heap.size W w') := HF
          go_wp2_with (go_at_call 35; refine (HF'.out _).mono ?_; rintro e w1 ⟨rfl, hl1⟩; obtain ⟨hc, hfz⟩ := bcell hl1)
          go_ret2
          exact ⟨.inl ⟨HN.out, rfl⟩, (hbel.trans (hl1.mono hsz)).alloc (Nat.le_trans hsz hl1.size) _⟩
        | some pk =>
          obtain ⟨p, k⟩ := pk
          have hk := fp_size hf
          rw [lenS] at hk
          rw [hf] at HF HPF
          have HPF' : Hid (prts t.data.toList = (prts (t.data.toList.drop k)).map (p.toList ++ ·)) := HPF
          clear HPF hf
          have hk1 : ¬ (k : Int) = 0 := by omega
          have HX : Hid ((t.extract k t.size).data.toList = t.data.toList.drop k) := extE hk.2
          cases p with
          | none =>
            have HF' : Hid (∀ W, Calls Tryz.prog 35 #[.string t] W fun e w' => e = .returned (.tuple #[.agg #[.int .i64 0, .int .i64 0, .string ⟨#[]⟩], .int .i64 (k : Int)]) ∧ Below W.heap.size W w') := HF
            clear HF
            go_wp2_with (go_at_call 35; refine (HF'.out _).mono ?_; rintro e w1 ⟨rfl, hl1⟩; obtain ⟨hc, hfz⟩ := bcell hl1)
            go_roundw
            case rel => exact ⟨t.extract k t.size, done, rfl, by simp; omega, by rw [HP.out, HPF'.out, HX.out]; simp, own_below (HO.out) (hl1.mono (Nat.le_refl _)) |>.alloc _, (hbel.trans (hl1.mono hsz)).alloc (Nat.le_trans hsz hl1.size) _⟩
            case measure => simp; omega
          | some p =>
            obtain ⟨x, y, z, hI, hIc, hx⟩ := ptI_form p
            have HF' : Hid (∀ W, Calls Tryz.prog 35 #[.string t] W fun e w' => e = .returned (.tuple #[.agg #[.int .i64 x, .int .i64 y, .string z], .int .i64 (k : Int)]) ∧ Below W.heap.size W w') := fun W => by have := HF.out W; simp only [fpV, hI] at this; exact this
            clear HF
            go_wp2_with (first
              | (go_at_call 35; refine (HF'.out _).mono ?_; rintro e w1 ⟨rfl, hl1⟩; obtain ⟨hc, hfz⟩ := bcell hl1; have HO1 : Hid (OwnI w.heap.size ((w1.alloc (.cells #[.int .i64 x, .int .i64 y, .string z] 73)).alloc (.cells #[.int .i64 x, .int .i64 y, .string z] 73)) _ done) := ((own_below HO.out hl1).alloc _).alloc _)
              | (at_builtin; refine app_ownS _ rfl _ _ 42 rfl w.heap.size 73 noI 3 32 Tryz.underlying42 infoVP rfl (by omega) _ _ _ rfl HO1.out ⟨w1.heap.size + 1, 0, none⟩ 1 1 [.int .i64 x, .int .i64 y, .string z] rfl rfl ?c1 ?c2 ?c3 ?c4 ?c5 ?_)
              | go_in)
            case c1 => have h3 := three_new (w1.alloc (.cells #[.int .i64 x, .int .i64 y, .string z] 73)) (.int .i64 x) (.int .i64 y) (.string z) 73; rw [show (w1.alloc (.cells #[.int .i64 x, .int .i64 y, .string z] 73)).heap.size = w1.heap.size + 1 by simp] at h3; exact h3
            case c2 => intro u hu; simp at hu; rcases hu with rfl | rfl | rfl <;> rfl
            case c3 => unfold maxLen; omega
            case c4 => omega
            case c5 => simp; have := hl1.size; omega
            intro v1 w2 hown2 hg2
            have hb2 : Below w.heap.size w w2 := below_grownS (((hbel.trans (hl1.mono hsz)).alloc (Nat.le_trans hsz hl1.size) _).alloc (by simp; have := hl1.size; omega) _) HO1.out hg2 (by simp; have := hl1.size; omega)
            have HO2 : Hid (OwnI w.heap.size w2 v1 (done ++ [p])) := by
              show OwnI _ _ _ _
              unfold OwnI
              rw [List.flatMap_append, List.length_append]
              simp only [List.flatMap_cons, List.flatMap_nil, List.append_nil, hIc, List.length_singleton]
              exact hown2
            clear hown2 hg2
            go_wp2
            go_roundw
            case rel => exact ⟨t.extract k t.size, done ++ [p], rfl, by simp; omega, by rw [HP.out, HPF'.out, HX.out, Option.map_map]; congr 1; funext q; simp, HO2.out, hb2⟩
            case measure => simp; omega

end Go.Proofs.YtnicjhapalgpdaaGreatDoor.vr
