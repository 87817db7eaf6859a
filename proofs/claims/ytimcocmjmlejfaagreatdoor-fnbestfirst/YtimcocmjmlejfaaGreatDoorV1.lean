import Derived.Test.YtimcocmjmlejfaaGreatDoorRows
import Derived.Test.YtimcocmjmlejfaaGreatDoorL
import Derived.Sort.Walk0
import Derived.Lib.ParseIntB
import Derived.Deep.QuietTactic
import Derived.BigQuiet
import Derived.Shelf.Strconv.ParseIntPublic10
import Derived.Ground.NamesProg
import Derived.Deep.RegionHeld3
namespace Go.Proofs.YtimcocmjmlejfaaGreatDoor.vr
open Go.ChangeShapes Go.WideShapes Go.ChangeAt Go.RowKit Go.Deep
set_option linter.unusedVariables false
set_option linter.unusedSimpArgs false

/-! ### Versions: the plain model -/

def dig (c : UInt8) : Bool := decide (48 ≤ c.toNat ∧ c.toNat ≤ 57)
def ltr (c : UInt8) : Bool := decide (97 ≤ c.toNat ∧ c.toNat ≤ 122 ∨ 65 ≤ c.toNat ∧ c.toNat ≤ 90)

inductive Pt where
  | num (n : Nat)
  | word (l : List UInt8)

def numL (l : List UInt8) : Nat := l.foldl (fun a c => a * 10 + (c.toNat - 48)) 0

def prts (l : List UInt8) : Option (List Pt) :=
  match l with
  | [] => some []
  | c :: r =>
    if dig c = true then (if 15 < (c :: r.takeWhile dig).length then none else (prts (r.dropWhile dig)).map (Pt.num (numL (c :: r.takeWhile dig)) :: ·))
    else if ltr c = true then (prts (r.dropWhile ltr)).map (Pt.word (c :: r.takeWhile ltr) :: ·)
    else if c.toNat = 46 ∨ c.toNat = 45 then prts r
    else none
termination_by l.length
decreasing_by
  · have := (List.dropWhile_sublist (l := r) dig).length_le; simp; omega
  · have := (List.dropWhile_sublist (l := r) ltr).length_le; simp; omega
  · simp

theorem prts_nil : prts [] = some [] := by rw [prts]

theorem prts_num {l : List UInt8} {c : UInt8} {r : List UInt8} (hl : l = c :: r) (h : dig c = true) : prts l = if 15 < (l.takeWhile dig).length then none else (prts (l.dropWhile dig)).map (Pt.num (numL (l.takeWhile dig)) :: ·) := by
  subst hl
  rw [prts]
  simp [h, List.takeWhile_cons, List.dropWhile_cons]

theorem prts_word {l : List UInt8} {c : UInt8} {r : List UInt8} (hl : l = c :: r) (h : dig c = false) (h2 : ltr c = true) : prts l = (prts (l.dropWhile ltr)).map (Pt.word (l.takeWhile ltr) :: ·) := by
  subst hl
  rw [prts]
  simp [h, h2, List.takeWhile_cons, List.dropWhile_cons]

theorem prts_sep {c : UInt8} {r : List UInt8} (h : dig c = false) (h2 : ltr c = false) (h3 : c.toNat = 46 ∨ c.toNat = 45) : prts (c :: r) = prts r := by
  rw [prts]
  simp [h, h2, h3]

theorem prts_bad {c : UInt8} {r : List UInt8} (h : dig c = false) (h2 : ltr c = false) (h3 : ¬ (c.toNat = 46 ∨ c.toNat = 45)) : prts (c :: r) = none := by
  rw [prts]
  simp [h, h2, h3]

def ver (l : List UInt8) : Option (List Pt) := match l with
  | [] => none
  | c :: r => if (c :: r).length ≤ 30 ∧ dig c = true then prts (c :: r) else none

theorem ver_short {l : List UInt8} {p : List Pt} (h : ver l = some p) : l.length ≤ 30 ∧ prts l = some p := by
  cases l with
  | nil => cases h
  | cons c r =>
    have e : ver (c :: r) = if (c :: r).length ≤ 30 ∧ dig c = true then prts (c :: r) else none := rfl
    rw [e] at h
    by_cases hh : (c :: r).length ≤ 30 ∧ dig c = true
    · rw [if_pos hh] at h; exact ⟨hh.1, h⟩
    · rw [if_neg hh] at h; cases h

theorem tw_of {f : UInt8 → Bool} {l a b : List UInt8} (h : l = a ++ b) (ha : ∀ c ∈ a, f c = true) (hb : ∀ c, b[0]? = some c → f c = false) : l.takeWhile f = a ∧ l.dropWhile f = b := by
  subst h
  induction a with
  | nil =>
    cases b with
    | nil => simp
    | cons c r => have := hb c rfl; simp [List.takeWhile_cons, List.dropWhile_cons, this]
  | cons c r ih =>
    have h1 := ha c (by simp)
    have h2 := ih (fun x hx => ha x (by simp [hx]))
    simp [List.takeWhile_cons, List.dropWhile_cons, h1, h2.1, h2.2]

theorem tw_long {f : UInt8 → Bool} {l a b : List UInt8} (h : l = a ++ b) (ha : ∀ c ∈ a, f c = true) : a.length ≤ (l.takeWhile f).length := by
  subst h
  induction a with
  | nil => simp
  | cons c r ih =>
    have h1 := ha c (by simp)
    have h2 := ih (fun x hx => ha x (by simp [hx]))
    simp [List.takeWhile_cons, h1] at h2 ⊢
    omega

theorem numL_snoc (l : List UInt8) (c : UInt8) : numL (l ++ [c]) = numL l * 10 + (c.toNat - 48) := by simp [numL]

theorem numL_lt : ∀ (l : List UInt8), (∀ c ∈ l, dig c = true) → numL l < 10 ^ l.length := by
  intro l
  suffices h : ∀ (l : List UInt8) (a k : Nat), a < 10 ^ k → (∀ c ∈ l, dig c = true) → l.foldl (fun a c => a * 10 + (c.toNat - 48)) a < 10 ^ (k + l.length) by
    intro hd
    have := h l 0 0 (by simp) hd
    simpa [numL] using this
  intro l
  induction l with
  | nil => intro a k ha _; simpa using ha
  | cons c r ih =>
    intro a k ha hd
    have hc := hd c (by simp)
    simp only [dig, decide_eq_true_eq] at hc
    have := ih (a * 10 + (c.toNat - 48)) (k + 1) (by rw [Nat.pow_succ]; omega) (fun x hx => hd x (by simp [hx]))
    rw [List.foldl_cons, List.length_cons, show k + (r.length + 1) = k + 1 + r.length from by omega]
    exact this

theorem numL_lt15 {l : List UInt8} (h : ∀ c ∈ l, dig c = true) (hl : l.length ≤ 15) : numL l < 1000000000000000 := by
  have h1 := numL_lt l h
  have h2 : (10 : Nat) ^ l.length ≤ 10 ^ 15 := Nat.pow_le_pow_right (by omega) hl
  have h3 : (10 : Nat) ^ 15 = 1000000000000000 := by decide
  omega

theorem tw_all {f : UInt8 → Bool} {l : List UInt8} : ∀ c ∈ l.takeWhile f, f c = true := by
  induction l with
  | nil => simp
  | cons c r ih =>
    intro x hx
    by_cases h : f c = true
    · simp [List.takeWhile_cons, h] at hx
      rcases hx with rfl | hx
      · exact h
      · exact ih x hx
    · simp [List.takeWhile_cons, h] at hx

/-- What the library's ParseInt says of at most 15 digits. -/
theorem parse15 {l : List UInt8} (h0 : l ≠ []) (h : ∀ c ∈ l, dig c = true) (hl : l.length ≤ 15) : Lib.parseIntB 64 l = .ok (numL l : Int) := by
  have key : ∀ (r : List UInt8) (a k : Nat), a < 10 ^ k → k + r.length ≤ 15 → (∀ c ∈ r, dig c = true) → Lib.parseUintM (2 ^ 64 - 1) a r = .ok (r.foldl (fun a c => a * 10 + (c.toNat - 48)) a) := by
    intro r
    induction r with
    | nil => intro a k _ _ _; rfl
    | cons c r ih =>
      intro a k ha hk hd
      have hc := hd c (by simp)
      simp only [dig, decide_eq_true_eq] at hc
      simp only [List.length_cons] at hk
      have hk2 : (10 : Nat) ^ k ≤ 10 ^ 14 := Nat.pow_le_pow_right (by omega) (by omega)
      have hk3 : (10 : Nat) ^ 14 = 100000000000000 := by decide
      have h64 : (2 : Nat) ^ 64 - 1 = 18446744073709551615 := by decide
      unfold Lib.parseUintM
      rw [if_pos hc, if_neg (by omega), if_neg (by rw [h64]; omega), ih (a * 10 + (c.toNat - 48)) (k + 1) (by rw [Nat.pow_succ]; omega) (by omega) (fun x hx => hd x (by simp [hx]))]
      rfl
  have hn := numL_lt15 h hl
  cases l with
  | nil => exact absurd rfl h0
  | cons c r =>
    have hc := h c (by simp)
    simp only [dig, decide_eq_true_eq] at hc
    have hk := key (c :: r) 0 0 (by decide) (by omega) h
    have hU : Lib.parseUintB 64 (c :: r) = .ok (numL (c :: r)) := by
      unfold Lib.parseUintB
      rw [if_neg (by simp), hk]
      rfl
    unfold Lib.parseIntB
    simp only
    rw [if_neg (by omega), hU]
    simp only
    rw [if_neg (by rintro ⟨_, h2⟩; have h63 : (2 : Nat) ^ (64 - 1) = 9223372036854775808 := by decide
                   omega), if_neg (by rintro ⟨h2, _⟩; omega), if_neg (by omega)]

/-! ### Comparing -/

def cmpL (a b : List UInt8) : Int := if a < b then -1 else if b < a then 1 else 0
def cmpN (a b : Nat) : Int := if a < b then -1 else if b < a then 1 else 0

def cmpPt : Pt → Pt → Int
  | .word a, .word b => cmpL a b
  | .word _, .num _ => -1
  | .num _, .word _ => 1
  | .num a, .num b => cmpN a b

def cmpP : List Pt → List Pt → Int
  | [], [] => 0
  | .word _ :: _, [] => -1
  | .num _ :: _, [] => 1
  | [], .word _ :: _ => 1
  | [], .num _ :: _ => -1
  | x :: a, y :: b => if cmpPt x y = 0 then cmpP a b else cmpPt x y

def cmpV (a b : List UInt8) : Int := match ver a, ver b with
  | some p, some q => cmpP p q
  | _, _ => 2

theorem ll_total {a b : List UInt8} (h1 : ¬ a < b) (h2 : ¬ b < a) : a = b := List.le_antisymm (List.not_lt.1 h2) (List.not_lt.1 h1)

theorem cmpL_zero {a b : List UInt8} : cmpL a b = 0 ↔ a = b := by
  unfold cmpL
  constructor
  · intro h
    split at h
    · cases h
    · split at h
      · cases h
      · rename_i h1 h2; exact ll_total h1 h2
  · rintro rfl
    rw [if_neg (List.lt_irrefl a), if_neg (List.lt_irrefl a)]

theorem cmpN_zero {a b : Nat} : cmpN a b = 0 ↔ a = b := by
  unfold cmpN
  split
  · constructor
    · intro h; cases h
    · intro h; omega
  · split
    · constructor
      · intro h; cases h
      · intro h; omega
    · constructor
      · intro _; omega
      · intro _; rfl

theorem cmpPt_zero {x y : Pt} : cmpPt x y = 0 ↔ x = y := by
  cases x with
  | num a => cases y with
    | num b => simp [cmpPt, cmpN_zero]
    | word b => simp [cmpPt]
  | word a => cases y with
    | num b => simp [cmpPt]
    | word b => simp [cmpPt, cmpL_zero]

end Go.Proofs.YtimcocmjmlejfaaGreatDoor.vr

namespace Go.Proofs.YtimcocmjmlejfaaGreatDoor.vr
open Go.ChangeShapes Go.WideShapes Go.ChangeAt Go.RowKit Go.Deep Go.Shelf
set_option linter.unusedVariables false
set_option linter.unusedSimpArgs false

/-! ### Versions: the program's side -/

end Go.Proofs.YtimcocmjmlejfaaGreatDoor.vr
namespace Go.Proofs
open Go.Shelf
def YtimcocmjmlejfaaGreatDoor.vr.laysPI_ren : Go.Shelf.Ren := ⟨fun | 174 => 90 | 247 => 99 | 245 => 100 | 287 => 103 | 279 => 104 | 280 => 105 | 281 => 106 | 282 => 107 | 321 => 108 | 322 => 109 | 316 => 48 | 171 => 111 | 205 => 110 | 243 => 112 | 246 => 113 | 283 => 114 | 284 => 115 | 285 => 116 | 286 => 117 | 129 => 119 | 317 => 118 | 318 => 120 | 319 => 121 | 320 => 122 | 337 => 123 | 338 => 124 | n => n, fun | 9 => 9 | 3 => 3 | 2 => 2 | 75 => 92 | 85 => 131 | 4 => 4 | 167 => 144 | 5 => 5 | 53 => 145 | 175 => 146 | 46 => 122 | 168 => 148 | 37 => 22 | 0 => 0 | 210 => 153 | 21 => 21 | 127 => 116 | 145 => 158 | 143 => 156 | 171 => 160 | 173 => 163 | 212 => 166 | 51 => 141 | 20 => 20 | 213 => 167 | 232 => 170 | 233 => 171 | 80 => 95 | n => n, fun | 15 => 3 | 16 => 4 | 17 => 5 | 18 => 6 | 19 => 7 | n => n⟩
theorem YtimcocmjmlejfaaGreatDoor.vr.laysPI : Go.Proofs.LaysC.n174 Tryz.prog YtimcocmjmlejfaaGreatDoor.vr.laysPI_ren := {
  mixed := by kernel_rfl
  f129 := Tryz.func119.trans (congrArg some (by kernel_rfl))
  f171 := Tryz.func111.trans (congrArg some (by kernel_rfl))
  f174 := Tryz.func90.trans (congrArg some (by kernel_rfl))
  f205 := Tryz.func110.trans (congrArg some (by kernel_rfl))
  f243 := Tryz.func112.trans (congrArg some (by kernel_rfl))
  f245 := Tryz.func100.trans (congrArg some (by kernel_rfl))
  f246 := Tryz.func113.trans (congrArg some (by kernel_rfl))
  f247 := Tryz.func99.trans (congrArg some (by kernel_rfl))
  f279 := Tryz.func104.trans (congrArg some (by kernel_rfl))
  f280 := Tryz.func105.trans (congrArg some (by kernel_rfl))
  f281 := Tryz.func106.trans (congrArg some (by kernel_rfl))
  f282 := Tryz.func107.trans (congrArg some (by kernel_rfl))
  f283 := Tryz.func114.trans (congrArg some (by kernel_rfl))
  f284 := Tryz.func115.trans (congrArg some (by kernel_rfl))
  f285 := Tryz.func116.trans (congrArg some (by kernel_rfl))
  f286 := Tryz.func117.trans (congrArg some (by kernel_rfl))
  f287 := Tryz.func103.trans (congrArg some (by kernel_rfl))
  f316 := Tryz.func48.trans (congrArg some (by kernel_rfl))
  f317 := Tryz.func118.trans (congrArg some (by kernel_rfl))
  f318 := Tryz.func120.trans (congrArg some (by kernel_rfl))
  f319 := Tryz.func121.trans (congrArg some (by kernel_rfl))
  f320 := Tryz.func122.trans (congrArg some (by kernel_rfl))
  f321 := Tryz.func108.trans (congrArg some (by kernel_rfl))
  f322 := Tryz.func109.trans (congrArg some (by kernel_rfl))
  f337 := Tryz.func123.trans (congrArg some (by kernel_rfl))
  f338 := Tryz.func124.trans (congrArg some (by kernel_rfl))
  t0 := Tryz.underlying0
  a0 := Tryz.isAgg0
  z0 := Tryz.sizeOf0
  v0 := Tryz.zeroValue0
  t2 := Tryz.underlying2
  a2 := Tryz.isAgg2
  z2 := Tryz.sizeOf2
  v2 := Tryz.zeroValue2
  t3 := Tryz.underlying3
  a3 := Tryz.isAgg3
  z3 := Tryz.sizeOf3
  v3 := Tryz.zeroValue3
  t4 := Tryz.underlying4
  a4 := Tryz.isAgg4
  z4 := Tryz.sizeOf4
  v4 := Tryz.zeroValue4
  t5 := Tryz.underlying5
  a5 := Tryz.isAgg5
  z5 := Tryz.sizeOf5
  v5 := Tryz.zeroValue5
  t9 := Tryz.underlying9
  a9 := Tryz.isAgg9
  z9 := Tryz.sizeOf9
  v9 := Tryz.zeroValue9
  t20 := Tryz.underlying20
  a20 := Tryz.isAgg20
  z20 := Tryz.sizeOf20
  v20 := Tryz.zeroValue20
  t21 := Tryz.underlying21
  a21 := Tryz.isAgg21
  z21 := Tryz.sizeOf21
  v21 := Tryz.zeroValue21
  t37 := Tryz.underlying22
  a37 := Tryz.isAgg22
  z37 := Tryz.sizeOf22
  v37 := Tryz.zeroValue22
  t46 := Tryz.underlying122
  a46 := Tryz.isAgg122
  z46 := Tryz.sizeOf122
  v46 := Tryz.zeroValue122
  t51 := Tryz.underlying141
  a51 := Tryz.isAgg141
  z51 := Tryz.sizeOf141
  v51 := Tryz.zeroValue141
  t53 := Tryz.underlying145
  a53 := Tryz.isAgg145
  z53 := Tryz.sizeOf145
  v53 := Tryz.zeroValue145
  t75 := Tryz.underlying92
  a75 := Tryz.isAgg92
  z75 := Tryz.sizeOf92
  v75 := Tryz.zeroValue92
  t85 := Tryz.underlying131
  a85 := Tryz.isAgg131
  z85 := Tryz.sizeOf131
  v85 := Tryz.zeroValue131
  t127 := Tryz.underlying116
  a127 := Tryz.isAgg116
  z127 := Tryz.sizeOf116
  v127 := Tryz.zeroValue116
  t143 := Tryz.underlying156
  a143 := Tryz.isAgg156
  z143 := Tryz.sizeOf156
  v143 := Tryz.zeroValue156
  t145 := Tryz.underlying158
  a145 := Tryz.isAgg158
  z145 := Tryz.sizeOf158
  v145 := Tryz.zeroValue158
  t167 := Tryz.underlying144
  a167 := Tryz.isAgg144
  z167 := Tryz.sizeOf144
  v167 := Tryz.zeroValue144
  t168 := Tryz.underlying148
  a168 := Tryz.isAgg148
  z168 := Tryz.sizeOf148
  v168 := Tryz.zeroValue148
  t171 := Tryz.underlying160
  a171 := Tryz.isAgg160
  z171 := Tryz.sizeOf160
  v171 := Tryz.zeroValue160
  t173 := Tryz.underlying163
  a173 := Tryz.isAgg163
  z173 := Tryz.sizeOf163
  v173 := Tryz.zeroValue163
  t175 := Tryz.underlying146
  a175 := Tryz.isAgg146
  z175 := Tryz.sizeOf146
  v175 := Tryz.zeroValue146
  t210 := Tryz.underlying153
  a210 := Tryz.isAgg153
  z210 := Tryz.sizeOf153
  v210 := Tryz.zeroValue153
  t212 := Tryz.underlying166
  a212 := Tryz.isAgg166
  z212 := Tryz.sizeOf166
  v212 := Tryz.zeroValue166
  t213 := Tryz.underlying167
  a213 := Tryz.isAgg167
  z213 := Tryz.sizeOf167
  t232 := Tryz.underlying170
  a232 := Tryz.isAgg170
  z232 := Tryz.sizeOf170
  v232 := Tryz.zeroValue170
  t233 := Tryz.underlying171
  a233 := Tryz.isAgg171
  z233 := Tryz.sizeOf171
  v233 := Tryz.zeroValue171
  g15 := by kernel_rfl
  g16 := by kernel_rfl
  g17 := by kernel_rfl
  g18 := by kernel_rfl
  g19 := by kernel_rfl
  t80 := Tryz.underlying95
  a80 := Tryz.isAgg95
  z80 := Tryz.sizeOf95
  v80 := Tryz.zeroValue95
  i0 := by kernel_rfl
  i2 := by kernel_rfl
  i3 := by kernel_rfl
  i4 := by kernel_rfl
  i5 := by kernel_rfl
  i9 := by kernel_rfl
  i20 := by kernel_rfl
  i21 := by kernel_rfl
  i37 := by kernel_rfl
  i46 := by kernel_rfl
  i51 := by kernel_rfl
  i53 := by kernel_rfl
  i75 := by kernel_rfl
  i80 := by kernel_rfl
  i85 := by kernel_rfl
  i127 := by kernel_rfl
  i143 := by kernel_rfl
  i145 := by kernel_rfl
  i167 := by kernel_rfl
  i168 := by kernel_rfl
  i171 := by kernel_rfl
  i173 := by kernel_rfl
  i175 := by kernel_rfl
  i210 := by kernel_rfl
  i212 := by kernel_rfl
  i232 := by kernel_rfl
  i233 := by kernel_rfl
  m15 := by kernel_rfl
  m16 := by kernel_rfl
  m17 := by kernel_rfl
  m18 := by kernel_rfl
  m19 := by kernel_rfl
  c0 := by kernel_rfl
  c2 := by kernel_rfl
  c3 := by kernel_rfl
  c4 := by kernel_rfl
  c5 := by kernel_rfl
  c9 := by kernel_rfl
  c20 := by kernel_rfl
  c21 := by kernel_rfl
  c37 := by kernel_rfl
  c46 := by kernel_rfl
  c51 := by kernel_rfl
  c53 := by kernel_rfl
  c75 := by kernel_rfl
  c80 := by kernel_rfl
  c85 := by kernel_rfl
  c127 := by kernel_rfl
  c143 := by kernel_rfl
  c145 := by kernel_rfl
  c167 := by kernel_rfl
  c168 := by kernel_rfl
  c171 := by kernel_rfl
  c173 := by kernel_rfl
  c175 := by kernel_rfl
  c210 := by kernel_rfl
  c212 := by kernel_rfl
  c213 := by kernel_rfl
  c232 := by kernel_rfl
  c233 := by kernel_rfl }
end Go.Proofs
namespace Go.Proofs.YtimcocmjmlejfaaGreatDoor.vr
open Go.ChangeShapes Go.WideShapes Go.ChangeAt Go.RowKit Go.Deep Go.Shelf
set_option linter.unusedVariables false
set_option linter.unusedSimpArgs false

theorem lenS (s : ByteArray) : s.data.toList.length = s.size := Array.length_toList

theorem parseInt_any (s : ByteArray) (h0 : s.data.toList ≠ []) (h : ∀ c ∈ s.data.toList, dig c = true) (hl : s.data.toList.length ≤ 15) (w : World) :
    Calls Tryz.prog 90 #[.string s, .int .i64 10, .int .i64 64] w fun e w' => e = .returned (.tuple #[.int .i64 (numL s.data.toList : Int), .nilIface]) ∧ Below w.heap.size w w' := by
  have hs : s.size ≤ 15 := by rw [← lenS]; exact hl
  refine (Any.strconv_ParseInt_10_at64_ok laysPI s (by omega) _ (parse15 h0 h hl) w).mono ?_
  rintro e w' ⟨rfl, rfl | ⟨t, rfl⟩⟩
  · exact ⟨rfl, Below.refl _ _⟩
  · exact ⟨rfl, ⟨rfl, rfl, rfl, by rw [Lib.bytesWorld_size]; omega, fun j hj => Lib.bytesWorld_at_old w _ t j hj⟩⟩

theorem letter_any (c : UInt8) (w : World) :
    Calls Tryz.prog 58 #[.int .u8 (c.toNat : Int)] w fun e w' => e = .returned (.bool (ltr c)) ∧ w' = w := by
  go_enter Tryz.func58, Tryz.ntmps58
  go_wp2
  all_goals go_ret
  all_goals refine ⟨ret_bool ?_, rfl⟩
  all_goals (rw [Bool.eq_iff_iff]; simp [ltr]; omega)

theorem digit_any (c : UInt8) (w : World) :
    Calls Tryz.prog 57 #[.int .u8 (c.toNat : Int)] w fun e w' => e = .returned (.bool (dig c)) ∧ w' = w := by
  go_enter Tryz.func57, Tryz.ntmps57
  go_wp2
  all_goals go_ret
  all_goals refine ⟨ret_bool ?_, rfl⟩
  all_goals (rw [Bool.eq_iff_iff]; simp [dig]; omega)

theorem isLetter_any (c : UInt8) (w : World) :
    Calls Tryz.prog 77 #[.int .i32 (c.toNat : Int)] w fun e w' => e = .returned (.bool (ltr c)) ∧ w' = w := by
  go_enter Tryz.func77, Tryz.ntmps77
  go_wp2
  all_goals go_ret
  all_goals refine ⟨ret_bool ?_, rfl⟩
  all_goals (rw [Bool.eq_iff_iff]; simp [ltr]; omega)

theorem isDigit_any (c : UInt8) (w : World) :
    Calls Tryz.prog 59 #[.int .i32 (c.toNat : Int)] w fun e w' => e = .returned (.bool (dig c)) ∧ w' = w := by
  go_enter Tryz.func59, Tryz.ntmps59
  go_wp2
  all_goals go_ret
  all_goals refine ⟨ret_bool ?_, rfl⟩
  all_goals (rw [Bool.eq_iff_iff]; simp [dig]; omega)

theorem getS {s : ByteArray} {k : Nat} (h : k < s.size) : s.data.toList[k]? = some s[k] := by
  rw [List.getElem?_eq_getElem (by simpa using h)]; rfl

theorem dropS {s : ByteArray} {k : Nat} (h : k < s.size) : s.data.toList.drop k = s[k] :: s.data.toList.drop (k + 1) := by
  rw [List.drop_eq_getElem_cons (by simpa using h)]; rfl

theorem twS {f : UInt8 → Bool} {s : ByteArray} {k : Nat} (hk : k ≤ s.size) (ha : ∀ c ∈ s.data.toList.take k, f c = true) (hb : ∀ h : k < s.size, f s[k] = false) : (s.data.toList.takeWhile f).length = k := by
  have h1 := (tw_of (f := f) (l := s.data.toList) (List.take_append_drop k _).symm ha (fun c hc => by
    by_cases h : k < s.size
    · rw [dropS h] at hc
      have : c = s[k] := by simpa using hc.symm
      rw [this]; exact hb h
    · rw [List.drop_eq_nil_of_le (by rw [lenS]; omega)] at hc; cases hc)).1
  rw [h1, List.length_take, lenS]; omega

theorem takeS {f : UInt8 → Bool} {s : ByteArray} {k : Nat} (h : k < s.size) (ha : ∀ c ∈ s.data.toList.take k, f c = true) (hf : f s[k] = true) : ∀ c ∈ s.data.toList.take (k + 1), f c = true := by
  intro c hc
  rw [List.take_succ_eq_append_getElem (by simpa using h)] at hc
  rcases List.mem_append.1 hc with hc | hc
  · exact ha c hc
  · have : c = s[k] := by rw [List.mem_singleton] at hc; exact hc
    rw [this]; exact hf

theorem rowSize_dig (s : ByteArray) (hs : s.size ≤ 1000000) (w : World) :
    Calls Tryz.prog 78 #[.string s, .func (.func 59) #[] #[]] w fun e w' => e = .returned (.int .i64 ((s.data.toList.takeWhile dig).length : Int)) ∧ w' = w := by
  go_enter Tryz.func78, Tryz.ntmps78
  go_wp2
  go_loop [5] (fun i => ∃ k : Nat, k ≤ s.size ∧ i = .int .i64 k ∧ ∀ c ∈ s.data.toList.take k, dig c = true) (fun i => s.size - (intOf i).toNat)
  case atStart => exact ⟨0, Nat.zero_le _, rfl, by simp⟩
  case round =>
    obtain ⟨k, hk, rfl, hok⟩ := hrel
    have HO : Hid (∀ c ∈ s.data.toList.take k, dig c = true) := hok
    clear hok
    by_cases hlt : k < s.size
    · have hb255 : (s[k].toNat : Int) ≤ 255 := by have := s[k].toNat_lt; omega
      cases hd : dig s[k] with
      | true =>
        go_wp2_with (go_at_call 59; refine (isDigit_any _ _).mono ?_; rintro e w' ⟨rfl, rfl⟩)
        go_round
        case rel => exact ⟨k + 1, by omega, by go_num, takeS hlt HO.out hd⟩
        case measure => simp [intOf]; omega
      | false =>
        have HK : Hid ((s.data.toList.takeWhile dig).length = k) := twS hk HO.out (fun _ => hd)
        go_wp2_with (go_at_call 59; refine (isDigit_any _ _).mono ?_; rintro e w' ⟨rfl, rfl⟩)
        go_ret
        exact ⟨ret_int (by rw [HK.out]), rfl⟩
    · have HK : Hid ((s.data.toList.takeWhile dig).length = k) := twS hk HO.out (fun h => absurd h hlt)
      go_wp2
      go_ret
      exact ⟨ret_int (by rw [HK.out]), rfl⟩

theorem rowSize_ltr (s : ByteArray) (hs : s.size ≤ 1000000) (w : World) :
    Calls Tryz.prog 78 #[.string s, .func (.func 77) #[] #[]] w fun e w' => e = .returned (.int .i64 ((s.data.toList.takeWhile ltr).length : Int)) ∧ w' = w := by
  go_enter Tryz.func78, Tryz.ntmps78
  go_wp2
  go_loop [5] (fun i => ∃ k : Nat, k ≤ s.size ∧ i = .int .i64 k ∧ ∀ c ∈ s.data.toList.take k, ltr c = true) (fun i => s.size - (intOf i).toNat)
  case atStart => exact ⟨0, Nat.zero_le _, rfl, by simp⟩
  case round =>
    obtain ⟨k, hk, rfl, hok⟩ := hrel
    have HO : Hid (∀ c ∈ s.data.toList.take k, ltr c = true) := hok
    clear hok
    by_cases hlt : k < s.size
    · have hb255 : (s[k].toNat : Int) ≤ 255 := by have := s[k].toNat_lt; omega
      cases hd : ltr s[k] with
      | true =>
        go_wp2_with (go_at_call 77; refine (isLetter_any _ _).mono ?_; rintro e w' ⟨rfl, rfl⟩)
        go_round
        case rel => exact ⟨k + 1, by omega, by go_num, takeS hlt HO.out hd⟩
        case measure => simp [intOf]; omega
      | false =>
        have HK : Hid ((s.data.toList.takeWhile ltr).length = k) := twS hk HO.out (fun _ => hd)
        go_wp2_with (go_at_call 77; refine (isLetter_any _ _).mono ?_; rintro e w' ⟨rfl, rfl⟩)
        go_ret
        exact ⟨ret_int (by rw [HK.out]), rfl⟩
    · have HK : Hid ((s.data.toList.takeWhile ltr).length = k) := twS hk HO.out (fun h => absurd h hlt)
      go_wp2
      go_ret
      exact ⟨ret_int (by rw [HK.out]), rfl⟩

end Go.Proofs.YtimcocmjmlejfaaGreatDoor.vr

namespace Go.Proofs.YtimcocmjmlejfaaGreatDoor.vr
open Go.ChangeShapes Go.WideShapes Go.ChangeAt Go.RowKit Go.Deep Go.Shelf
set_option linter.unusedVariables false
set_option linter.unusedSimpArgs false

/-! ### Structs of three cells -/

theorem set_one {W : World} {b : Nat} {o : Nat} {v : Value} (h : (W.cell? ⟨b, o, none⟩).isSome = true) : (W.setCell ⟨b, o, none⟩ v).cell? ⟨b, o, none⟩ = some v := by
  obtain ⟨u, hu⟩ := Option.isSome_iff_exists.1 h
  exact World.cell?_setCell_same _ _ _ hu
theorem set_oth {W : World} {b o p : Nat} {v : Value} (h : p ≠ o) : (W.setCell ⟨b, o, none⟩ v).cell? ⟨b, p, none⟩ = W.cell? ⟨b, p, none⟩ :=
  World.cell?_setCell_other _ _ _ _ (fun e => h (congrArg Addr.off e).symm)

theorem three_set {W : World} {b : Nat} {v0 v1 v2 : Value} (h0 : (W.cell? ⟨b, 0, none⟩).isSome = true) (h1 : (W.cell? ⟨b, 1, none⟩).isSome = true) (h2 : (W.cell? ⟨b, 2, none⟩).isSome = true) :
    (((W.setCell ⟨b, 0, none⟩ v0).setCell ⟨b, 1, none⟩ v1).setCell ⟨b, 2, none⟩ v2).cell? ⟨b, 0, none⟩ = some v0 ∧
    (((W.setCell ⟨b, 0, none⟩ v0).setCell ⟨b, 1, none⟩ v1).setCell ⟨b, 2, none⟩ v2).cell? ⟨b, 1, none⟩ = some v1 ∧
    (((W.setCell ⟨b, 0, none⟩ v0).setCell ⟨b, 1, none⟩ v1).setCell ⟨b, 2, none⟩ v2).cell? ⟨b, 2, none⟩ = some v2 := by
  refine ⟨?_, ?_, ?_⟩
  · rw [set_oth (by omega), set_oth (by omega), set_one h0]
  · rw [set_oth (by omega), set_one]
    rw [set_oth (by omega)]; exact h1
  · rw [set_one]
    rw [set_oth (by omega), set_oth (by omega)]; exact h2

theorem three_lit (w : World) (a b c : Value) (e : TypeId) : (w.alloc (.cells #[a, b, c] e)).cell? ⟨w.heap.size, 0, none⟩ = some a ∧ (w.alloc (.cells #[a, b, c] e)).cell? ⟨w.heap.size, 1, none⟩ = some b ∧ (w.alloc (.cells #[a, b, c] e)).cell? ⟨w.heap.size, 2, none⟩ = some c := by
  simp [go_sem]

theorem some3 {w w1 : World} {a b c : Value} {e : TypeId} (h : Below (w.alloc (.cells #[a, b, c] e)).heap.size (w.alloc (.cells #[a, b, c] e)) w1) : ∀ i, i < 3 → (w1.cell? ⟨w.heap.size, i, none⟩).isSome = true := by
  intro i hi
  rw [h.cell (p := ⟨w.heap.size, i, none⟩) (by simp)]
  obtain ⟨k0, k1, k2⟩ := three_lit w a b c e
  have h : i = 0 ∨ i = 1 ∨ i = 2 := by omega
  rcases h with rfl | rfl | rfl
  · rw [k0]; rfl
  · rw [k1]; rfl
  · rw [k2]; rfl

theorem below3 {B : Nat} {w w1 : World} {b : Nat} {v0 v1 v2 : Value} (h : Below B w w1) (hb : B ≤ b) : Below B w (((w1.setCell ⟨b, 0, none⟩ v0).setCell ⟨b, 1, none⟩ v1).setCell ⟨b, 2, none⟩ v2) :=
  ((h.setCell hb _).setCell hb _).setCell hb _

theorem bel_lit {w w1 : World} {o : Obj} (h : Below (w.alloc o).heap.size (w.alloc o) w1) : Below w.heap.size w w1 := ((Below.refl _ _).alloc (Nat.le_refl _) _).trans (h.mono (by simp))

theorem ret_two3 {fn : Func} {i j : Tmp} (hf : fn.results = #[.cell i 100, .tmp j]) {tmps : Array Value} {W : World} {b : Nat} {v0 v1 v2 r : Value} {R : Ending → World → Prop} (h4 : tmps.getD i undef = .pointer (some ⟨b, 0, none⟩)) (h5 : tmps.getD j undef = r)
    (k : W.cell? ⟨b, 0, none⟩ = some v0 ∧ W.cell? ⟨b, 1, none⟩ = some v1 ∧ W.cell? ⟨b, 2, none⟩ = some v2) (hR : R (.returned (.tuple #[.agg #[v0, v1, v2], r])) W) :
    bodyPost Tryz.prog fn R Exit.ret { tmps := tmps, defers := [] } W := by
  obtain ⟨k0, k1, k2⟩ := k
  have h4' : tmps[i]?.getD undef = .pointer (some ⟨b, 0, none⟩) := by simpa using h4
  have h5' : tmps[j]?.getD undef = r := by simpa using h5
  exact bodyPost_ret (v := .tuple #[.agg #[v0, v1, v2], r]) (by simp [results, hf, go_sem, h4', h5', k0, k1, k2]) rfl hR

theorem ret_cell3 {fn : Func} {i : Tmp} (hf : fn.results = #[.cell i 100]) {tmps : Array Value} {W : World} {b : Nat} {v0 v1 v2 : Value} {R : Ending → World → Prop} (h4 : tmps.getD i undef = .pointer (some ⟨b, 0, none⟩))
    (k : W.cell? ⟨b, 0, none⟩ = some v0 ∧ W.cell? ⟨b, 1, none⟩ = some v1 ∧ W.cell? ⟨b, 2, none⟩ = some v2) (hR : R (.returned (.agg #[v0, v1, v2])) W) :
    bodyPost Tryz.prog fn R Exit.ret { tmps := tmps, defers := [] } W := by
  obtain ⟨k0, k1, k2⟩ := k
  have h4' : tmps[i]?.getD undef = .pointer (some ⟨b, 0, none⟩) := by simpa using h4
  exact bodyPost_ret (v := .agg #[v0, v1, v2]) (by simp [results, hf, go_sem, h4', k0, k1, k2]) rfl hR

/-! ### The first part of a text -/

def fp (l : List UInt8) : Option (Option Pt × Nat) := match l with
  | [] => none
  | c :: r =>
    if dig c = true then (if 15 < ((c :: r).takeWhile dig).length then none else some (some (Pt.num (numL ((c :: r).takeWhile dig))), ((c :: r).takeWhile dig).length))
    else if ltr c = true then some (some (Pt.word ((c :: r).takeWhile ltr)), ((c :: r).takeWhile ltr).length)
    else if c.toNat = 46 ∨ c.toNat = 45 then some (none, 1) else none

theorem drop_tw (f : UInt8 → Bool) : ∀ l : List UInt8, l.drop (l.takeWhile f).length = l.dropWhile f
  | [] => rfl
  | c :: r => by
    by_cases h : f c = true
    · simp [List.takeWhile_cons, List.dropWhile_cons, h, drop_tw f r]
    · simp [List.takeWhile_cons, List.dropWhile_cons, h]

theorem prts_fp {l : List UInt8} (h : l ≠ []) : prts l = match fp l with
    | none => none
    | some (p, k) => (prts (l.drop k)).map (p.toList ++ ·) := by
  cases l with
  | nil => exact absurd rfl h
  | cons c r =>
    cases hd : dig c with
    | true =>
      rw [prts_num rfl hd]
      by_cases hk : 15 < ((c :: r).takeWhile dig).length
      · simp only [fp, hd, hk, if_true]
      · simp only [fp, hd, hk, if_true, if_false, drop_tw]
        rfl
    | false =>
      cases h2 : ltr c with
      | true =>
        rw [prts_word rfl hd h2]
        simp only [fp, hd, h2, if_true, Bool.false_eq_true, if_false, drop_tw]
        rfl
      | false =>
        by_cases h3 : c.toNat = 46 ∨ c.toNat = 45
        · rw [prts_sep hd h2 h3]
          simp only [fp, hd, h2, h3, if_true]
          simp
        · rw [prts_bad hd h2 h3]
          simp only [fp, hd, h2, h3]
          simp

def ptI : Pt → Value
  | .num n => .agg #[.int .i64 1, .int .i64 (n : Int), .string ⟨#[]⟩]
  | .word l => .agg #[.int .i64 (-1), .int .i64 0, .string ⟨l.toArray⟩]
def noI : Value := .agg #[.int .i64 0, .int .i64 0, .string ⟨#[]⟩]
def fpV : Option (Option Pt × Nat) → Value
  | none => .tuple #[noI, .int .i64 0]
  | some (none, k) => .tuple #[noI, .int .i64 (k : Int)]
  | some (some p, k) => .tuple #[ptI p, .int .i64 (k : Int)]

theorem ext0 {s : ByteArray} {n : Nat} (h : n ≤ s.size) : s.extract 0 n = ⟨(s.data.toList.take n).toArray⟩ := by
  apply ByteArray.ext
  apply Array.toList_inj.1
  rw [Lib.extract_data]
  simp

theorem tw_take (f : UInt8 → Bool) : ∀ l : List UInt8, l.take (l.takeWhile f).length = l.takeWhile f
  | [] => rfl
  | c :: r => by
    by_cases h : f c = true
    · simp [List.takeWhile_cons, h, tw_take f r]
    · simp [List.takeWhile_cons, h]

theorem tw_le (f : UInt8 → Bool) (l : List UInt8) : (l.takeWhile f).length ≤ l.length := (List.takeWhile_sublist f).length_le

set_option maxHeartbeats 1000000 in
set_option maxRecDepth 100000 in
theorem numberOf_any (s : ByteArray) (h0 : 0 < s.size) (hs : s.size ≤ 1000000) (hd : dig s[0] = true) (w : World) :
    Calls Tryz.prog 76 #[.string s] w fun e w' => e = .returned (fpV (fp s.data.toList)) ∧ Below w.heap.size w w' := by
  have hl0 : s.data.toList = s[0] :: s.data.toList.drop 1 := dropS h0
  have HF : Hid (fp s.data.toList = if 15 < (s.data.toList.takeWhile dig).length then none else some (some (Pt.num (numL (s.data.toList.takeWhile dig))), (s.data.toList.takeWhile dig).length)) := by
    show _ = _
    generalize s.data.toList = l at hl0 ⊢
    rw [hl0]
    simp only [fp, hd, if_true]
  have htl : (s.data.toList.takeWhile dig).length ≤ s.size := by rw [← lenS]; exact tw_le _ _
  have hpos : 0 < (s.data.toList.takeWhile dig).length := by
    generalize s.data.toList = l at hl0 ⊢
    rw [hl0]; simp [List.takeWhile_cons, hd]
  obtain ⟨K, hK⟩ : ∃ K, (s.data.toList.takeWhile dig).length = K := ⟨_, rfl⟩
  have HR : Hid (∀ W, Calls Tryz.prog 78 #[.string s, .func (.func 59) #[] #[]] W fun e w' => e = .returned (.int .i64 (K : Int)) ∧ w' = W) := fun W => by have := rowSize_dig s hs W; rwa [hK] at this
  have HX : Hid (s.extract 0 K = ⟨(s.data.toList.takeWhile dig).toArray⟩) := by show _ = _; rw [ext0 (by omega), ← hK, tw_take]
  rw [hK] at HF htl hpos
  clear hl0
  by_cases hb : 15 < K
  · have HV : Hid (fpV (fp s.data.toList) = .tuple #[.agg #[.int .i64 0, .int .i64 0, .string ⟨#[]⟩], .int .i64 0]) := by show _ = _; rw [HF.out, if_pos hb]; rfl
    go_enter Tryz.func76, Tryz.ntmps76
    go_wp2_with (go_at_call 78; refine (HR.out _).mono ?_; rintro e w' ⟨rfl, rfl⟩)
    exact ret_two3 Tryz.results76 rfl rfl (three_lit _ _ _ _ _) ⟨congrArg Ending.returned HV.out.symm, (Below.refl _ _).alloc (Nat.le_refl _) _⟩
  · have HV : Hid (fpV (fp s.data.toList) = .tuple #[.agg #[.int .i64 1, .int .i64 (numL (s.data.toList.takeWhile dig) : Int), .string ⟨#[]⟩], .int .i64 (K : Int)]) := by show _ = _; rw [HF.out, if_neg hb]; rfl
    have HP : Hid (∀ W, Calls Tryz.prog 90 #[.string (s.extract 0 K), .int .i64 10, .int .i64 64] W fun e w' => e = .returned (.tuple #[.int .i64 (numL (s.data.toList.takeWhile dig) : Int), .nilIface]) ∧ Below W.heap.size W w') := fun W => by
      rw [HX.out]
      have := parseInt_any ⟨(s.data.toList.takeWhile dig).toArray⟩ (by simp only [ne_eq]; intro e; have := congrArg List.length e; rw [hK] at this; simp at this; omega) (by simpa using tw_all) (by simp only []; rw [hK]; omega) W
      simpa using this
    clear hK
    go_enter Tryz.func76, Tryz.ntmps76
    go_wp2_with (first
      | (go_at_call 78; refine (HR.out _).mono ?_; rintro e w' ⟨rfl, rfl⟩)
      | (go_at_call 90; refine (HP.out _).mono ?_; rintro e w1 ⟨rfl, hl1⟩; obtain ⟨hc, hfz⟩ := bcell hl1))
    have hso := some3 hl1
    exact ret_two3 Tryz.results76 rfl rfl (three_set (hso 0 (by omega)) (hso 1 (by omega)) (hso 2 (by omega))) ⟨congrArg Ending.returned HV.out.symm, below3 (bel_lit hl1) (Nat.le_refl _)⟩

end Go.Proofs.YtimcocmjmlejfaaGreatDoor.vr

namespace Go.Proofs.YtimcocmjmlejfaaGreatDoor.vr
open Go.ChangeShapes Go.WideShapes Go.ChangeAt Go.RowKit Go.Deep Go.Shelf
set_option linter.unusedVariables false
set_option linter.unusedSimpArgs false

theorem fpV_form (o : Option (Option Pt × Nat)) : ∃ (x y : Int) (z : ByteArray) (k : Nat), fpV o = .tuple #[.agg #[.int .i64 x, .int .i64 y, .string z], .int .i64 (k : Int)] := by
  match o with
  | none => exact ⟨0, 0, ⟨#[]⟩, 0, rfl⟩
  | some (none, k) => exact ⟨0, 0, ⟨#[]⟩, k, rfl⟩
  | some (some (.num n), k) => exact ⟨1, n, ⟨#[]⟩, k, rfl⟩
  | some (some (.word l), k) => exact ⟨-1, 0, ⟨l.toArray⟩, k, rfl⟩

theorem fp_word {s : ByteArray} (h0 : 0 < s.size) (hd : dig s[0] = false) (h2 : ltr s[0] = true) : fp s.data.toList = some (some (Pt.word (s.data.toList.takeWhile ltr)), (s.data.toList.takeWhile ltr).length) := by
  have hl0 : s.data.toList = s[0] :: s.data.toList.drop 1 := dropS h0
  generalize s.data.toList = l at hl0 ⊢
  rw [hl0]
  simp only [fp, hd, h2, if_true, if_false, Bool.false_eq_true]
theorem fp_sep {s : ByteArray} (h0 : 0 < s.size) (hd : dig s[0] = false) (h2 : ltr s[0] = false) (h3 : s[0].toNat = 46 ∨ s[0].toNat = 45) : fp s.data.toList = some (none, 1) := by
  have hl0 : s.data.toList = s[0] :: s.data.toList.drop 1 := dropS h0
  generalize s.data.toList = l at hl0 ⊢
  rw [hl0]
  simp only [fp, hd, h2, h3, if_true, if_false, Bool.false_eq_true]
theorem fp_bad {s : ByteArray} (h0 : 0 < s.size) (hd : dig s[0] = false) (h2 : ltr s[0] = false) (h3 : ¬ (s[0].toNat = 46 ∨ s[0].toNat = 45)) : fp s.data.toList = none := by
  have hl0 : s.data.toList = s[0] :: s.data.toList.drop 1 := dropS h0
  generalize s.data.toList = l at hl0 ⊢
  rw [hl0]
  simp only [fp, hd, h2, h3, if_false, Bool.false_eq_true]

set_option maxHeartbeats 1000000 in
set_option maxRecDepth 100000 in
theorem firstPart_any (s : ByteArray) (h0 : 0 < s.size) (hs : s.size ≤ 1000000) (w : World) :
    Calls Tryz.prog 60 #[.string s] w fun e w' => e = .returned (fpV (fp s.data.toList)) ∧ Below w.heap.size w w' := by
  have hb255 : (s[0].toNat : Int) ≤ 255 := by have := s[0].toNat_lt; omega
  cases hd : dig s[0] with
  | true =>
    obtain ⟨x, y, z, k, hV⟩ := fpV_form (fp s.data.toList)
    have HN : Hid (∀ W, Calls Tryz.prog 76 #[.string s] W fun e w' => e = .returned (.tuple #[.agg #[.int .i64 x, .int .i64 y, .string z], .int .i64 (k : Int)]) ∧ Below W.heap.size W w') := fun W => by have := numberOf_any s h0 hs hd W; rwa [hV] at this
    have HV : Hid (fpV (fp s.data.toList) = .tuple #[.agg #[.int .i64 x, .int .i64 y, .string z], .int .i64 (k : Int)]) := hV
    clear hV
    go_enter Tryz.func60, Tryz.ntmps60
    go_wp2_with (first
      | (go_at_call 59; refine (isDigit_any _ _).mono ?_; rintro e w' ⟨rfl, rfl⟩)
      | (go_at_call 76; refine (HN.out _).mono ?_; rintro e w1 ⟨rfl, hl1⟩; obtain ⟨hc, hfz⟩ := bcell hl1))
    have hso := some3 hl1
    exact ret_two3 Tryz.results60 rfl rfl (three_set (hso 0 (by omega)) (hso 1 (by omega)) (hso 2 (by omega))) ⟨congrArg Ending.returned HV.out.symm, below3 (bel_lit hl1) (Nat.le_refl _)⟩
  | false =>
    cases h2 : ltr s[0] with
    | true =>
      have htl : (s.data.toList.takeWhile ltr).length ≤ s.size := by rw [← lenS]; exact tw_le _ _
      obtain ⟨K, hK⟩ : ∃ K, (s.data.toList.takeWhile ltr).length = K := ⟨_, rfl⟩
      have HR : Hid (∀ W, Calls Tryz.prog 78 #[.string s, .func (.func 77) #[] #[]] W fun e w' => e = .returned (.int .i64 (K : Int)) ∧ w' = W) := fun W => by have := rowSize_ltr s hs W; rwa [hK] at this
      have HV : Hid (fpV (fp s.data.toList) = .tuple #[.agg #[.int .i64 (-1), .int .i64 0, .string (s.extract 0 K)], .int .i64 (K : Int)]) := by
        show _ = _
        rw [fp_word h0 hd h2, ext0 (by omega), ← hK, tw_take]; rfl
      rw [hK] at htl
      clear hK
      go_enter Tryz.func60, Tryz.ntmps60
      go_wp2_with (first
        | (go_at_call 59; refine (isDigit_any _ _).mono ?_; rintro e w' ⟨rfl, rfl⟩)
        | (go_at_call 77; refine (isLetter_any _ _).mono ?_; rintro e w' ⟨rfl, rfl⟩)
        | (go_at_call 78; refine (HR.out _).mono ?_; rintro e w' ⟨rfl, rfl⟩))
      exact ret_two3 Tryz.results60 rfl rfl (three_lit _ _ _ _ _) ⟨congrArg Ending.returned HV.out.symm, (Below.refl _ _).alloc (Nat.le_refl _) _⟩
    | false =>
      by_cases h3 : s[0].toNat = 46 ∨ s[0].toNat = 45
      · have HV : Hid (fpV (fp s.data.toList) = .tuple #[.agg #[.int .i64 0, .int .i64 0, .string ⟨#[]⟩], .int .i64 1]) := by show _ = _; rw [fp_sep h0 hd h2 h3]; rfl
        go_enter Tryz.func60, Tryz.ntmps60
        go_wp2_with (first
          | (go_at_call 59; refine (isDigit_any _ _).mono ?_; rintro e w' ⟨rfl, rfl⟩)
          | (go_at_call 77; refine (isLetter_any _ _).mono ?_; rintro e w' ⟨rfl, rfl⟩))
        all_goals first
          | exact ret_two3 Tryz.results60 rfl rfl (three_lit _ _ _ _ _) ⟨congrArg Ending.returned HV.out.symm, (Below.refl _ _).alloc (Nat.le_refl _) _⟩
          | (exfalso; simp only [beq_eq_false_iff_ne, ne_eq] at *; omega)
      · have HV : Hid (fpV (fp s.data.toList) = .tuple #[.agg #[.int .i64 0, .int .i64 0, .string ⟨#[]⟩], .int .i64 0]) := by show _ = _; rw [fp_bad h0 hd h2 h3]; rfl
        have h4 : ((s[0].toNat : Int) == 46) = false := by rw [beq_eq_false_iff_ne]; omega
        have h5 : ((s[0].toNat : Int) == 45) = false := by rw [beq_eq_false_iff_ne]; omega
        clear h3
        go_enter Tryz.func60, Tryz.ntmps60
        go_wp2_with (first
          | (go_at_call 59; refine (isDigit_any _ _).mono ?_; rintro e w' ⟨rfl, rfl⟩)
          | (go_at_call 77; refine (isLetter_any _ _).mono ?_; rintro e w' ⟨rfl, rfl⟩))
        exact ret_two3 Tryz.results60 rfl rfl (three_lit _ _ _ _ _) ⟨congrArg Ending.returned HV.out.symm, (Below.refl _ _).alloc (Nat.le_refl _) _⟩

end Go.Proofs.YtimcocmjmlejfaaGreatDoor.vr

namespace Go.Proofs.YtimcocmjmlejfaaGreatDoor.vr
open Go.ChangeShapes Go.WideShapes Go.ChangeAt Go.RowKit Go.Deep Go.Shelf
set_option linter.unusedVariables false
set_option linter.unusedSimpArgs false

def ptIc : Pt → List Value
  | .num n => [.int .i64 1, .int .i64 (n : Int), .string ⟨#[]⟩]
  | .word l => [.int .i64 (-1), .int .i64 0, .string ⟨l.toArray⟩]

theorem ptI_form (p : Pt) : ∃ (x y : Int) (z : ByteArray), ptI p = .agg #[.int .i64 x, .int .i64 y, .string z] ∧ ptIc p = [.int .i64 x, .int .i64 y, .string z] ∧ x ≠ 0 := by
  cases p with
  | num n => exact ⟨1, n, ⟨#[]⟩, rfl, rfl, by omega⟩
  | word l => exact ⟨-1, 0, ⟨l.toArray⟩, rfl, rfl, by omega⟩

theorem fp_size {l : List UInt8} {p : Option Pt} {k : Nat} (h : fp l = some (p, k)) : 1 ≤ k ∧ k ≤ l.length := by
  cases l with
  | nil => cases h
  | cons c r =>
    have e : fp (c :: r) = (if dig c = true then (if 15 < ((c :: r).takeWhile dig).length then none else some (some (Pt.num (numL ((c :: r).takeWhile dig))), ((c :: r).takeWhile dig).length))
      else if ltr c = true then some (some (Pt.word ((c :: r).takeWhile ltr)), ((c :: r).takeWhile ltr).length)
      else if c.toNat = 46 ∨ c.toNat = 45 then some (none, 1) else none) := rfl
    rw [e] at h
    by_cases h1 : dig c = true
    · rw [if_pos h1] at h
      by_cases h2 : 15 < ((c :: r).takeWhile dig).length
      · rw [if_pos h2] at h; cases h
      · rw [if_neg h2] at h
        simp only [Option.some.injEq, Prod.mk.injEq] at h
        rw [← h.2]
        refine ⟨?_, tw_le _ _⟩
        simp [List.takeWhile_cons, h1]
    · rw [if_neg h1] at h
      by_cases h2 : ltr c = true
      · rw [if_pos h2] at h
        simp only [Option.some.injEq, Prod.mk.injEq] at h
        rw [← h.2]
        refine ⟨?_, tw_le _ _⟩
        simp [List.takeWhile_cons, h2]
      · rw [if_neg h2] at h
        by_cases h3 : c.toNat = 46 ∨ c.toNat = 45
        · rw [if_pos h3] at h
          simp only [Option.some.injEq, Prod.mk.injEq] at h
          rw [← h.2]
          simp
        · rw [if_neg h3] at h; cases h

theorem extE {s : ByteArray} {n : Nat} (h : n ≤ s.size) : (s.extract n s.size).data.toList = s.data.toList.drop n := by
  rw [Lib.extract_data, List.take_of_length_le (by rw [List.length_drop, lenS]; omega)]

theorem infoVP : (Tryz.prog.info? 100).map (fun i => (i.zero, i.size, i.bytes)) = some (some noI, 3, 32) := by kernel_rfl

theorem three_new (w : World) (a b c : Value) (e : TypeId) : ∀ j v, [a, b, c][j]? = some v → (w.alloc (.cells #[a, b, c] e)).cell? ((⟨w.heap.size, 0, none⟩ : Addr).add j) = some v := by
  intro j v h
  rw [addr_add, Nat.zero_add]
  obtain ⟨k0, k1, k2⟩ := three_lit w a b c e
  match j, h with
  | 0, h => obtain rfl : a = v := by simpa using h
            exact k0
  | 1, h => obtain rfl : b = v := by simpa using h
            exact k1
  | 2, h => obtain rfl : c = v := by simpa using h
            exact k2

theorem ver_of {l : List UInt8} (h1 : 0 < l.length) (h2 : l.length ≤ 30) (h3 : ∀ c, l[0]? = some c → dig c = true) : ver l = prts l := by
  cases l with
  | nil => simp at h1
  | cons c r =>
    have e : ver (c :: r) = if (c :: r).length ≤ 30 ∧ dig c = true then prts (c :: r) else none := rfl
    rw [e, if_pos ⟨h2, h3 c rfl⟩]
theorem ver_none {l : List UInt8} (h : l.length = 0 ∨ 30 < l.length ∨ ∃ c, l[0]? = some c ∧ dig c = false) : ver l = none := by
  cases l with
  | nil => rfl
  | cons c r =>
    have e : ver (c :: r) = if (c :: r).length ≤ 30 ∧ dig c = true then prts (c :: r) else none := rfl
    rw [e, if_neg]
    rintro ⟨h1, h2⟩
    rcases h with h | h | ⟨d, h, hd⟩
    · simp at h
    · omega
    · have : c = d := by simpa using h
      rw [this, hd] at h2; cases h2

def OwnI (B : Nat) (w : World) (v : Value) (ps : List Pt) : Prop := w.ownsRow B 100 3 v ps.length (ps.flatMap ptIc)

theorem own3_zero (w : World) : OwnI w.heap.size (w.alloc (.cells #[] 100)) (.slice (some ⟨w.heap.size, 0, none⟩) 0 0) [] := World.ownsRow_made w #[] 0 (Nat.le_refl _) (by decide) rfl

/-- What versionOf answers. -/
def VIs (B : Nat) (l : List UInt8) (e : Ending) (w' : World) : Prop := ver l = none ∧ e = .returned (.tuple #[.slice none 0 0, .bool false]) ∨ ∃ ps v, ver l = some ps ∧ e = .returned (.tuple #[v, .bool true]) ∧ OwnI B w' v ps

set_option maxHeartbeats 2000000 in
set_option maxRecDepth 100000 in
theorem versionOf_any (s : ByteArray) (hs : s.size ≤ 1048576) (w : World) :
    Calls Tryz.prog 35 #[.string s] w fun e w' => VIs w.heap.size s.data.toList e w' ∧ Below w.heap.size w w' := by
  by_cases h1 : s.size < 1
  · have HN : Hid (ver s.data.toList = none) := ver_none (.inl (by rw [lenS]; omega))
    go_enter Tryz.func35, Tryz.ntmps35
    go_wp2
    go_ret2
    exact ⟨.inl ⟨HN.out, rfl⟩, Below.refl _ _⟩
  by_cases h2 : 30 < s.size
  · have HN : Hid (ver s.data.toList = none) := ver_none (.inr (.inl (by rw [lenS]; omega)))
    go_enter Tryz.func35, Tryz.ntmps35
    go_wp2
    go_ret2
    exact ⟨.inl ⟨HN.out, rfl⟩, Below.refl _ _⟩
  have h0 : 0 < s.size := by omega
  have hb255 : (s[0].toNat : Int) ≤ 255 := by have := s[0].toNat_lt; omega
  cases hd : dig s[0] with
  | false =>
    have HN : Hid (ver s.data.toList = none) := ver_none (.inr (.inr ⟨_, getS h0, hd⟩))
    go_enter Tryz.func35, Tryz.ntmps35
    go_wp2_with (go_at_call 59; refine (isDigit_any _ _).mono ?_; rintro e w' ⟨rfl, rfl⟩)
    go_ret2
    exact ⟨.inl ⟨HN.out, rfl⟩, Below.refl _ _⟩
  | true =>
    have HV : Hid (ver s.data.toList = prts s.data.toList) := ver_of (by rw [lenS]; omega) (by rw [lenS]; omega) (fun c hc => by rw [getS h0] at hc; cases hc; exact hd)
    go_enter Tryz.func35, Tryz.ntmps35
    go_wp2_with (go_at_call 59; refine (isDigit_any _ _).mono ?_; rintro e w ⟨rfl, rfl⟩)
    go_loopw [4, 5, 6, 7] (fun v r _ _ wr => ∃ (t : ByteArray) (done : List Pt), r = .string t ∧ done.length + t.size ≤ 30 ∧ prts s.data.toList = (prts t.data.toList).map (done ++ ·) ∧ OwnI w.heap.size wr v done ∧ Below w.heap.size w wr) (fun _ r _ _ _ => match r with | .string t => t.size | _ => 0)
    case atStart => exact ⟨s, [], rfl, by simp; omega, by simp, own3_zero w, (Below.refl _ _).alloc (Nat.le_refl _) _⟩
    case round =>
      obtain ⟨t, done, rfl, hlen, hpr, hown, hbel⟩ := hrel
      have HP : Hid (prts s.data.toList = (prts t.data.toList).map (done ++ ·)) := hpr
      have HO : Hid (OwnI w.heap.size wr _ done) := hown
      have hsz := hbel.size
      clear hpr hown
      by_cases ht : t.size = 0
      · have he : t.data.toList = [] := List.length_eq_zero_iff.1 (by rw [lenS]; exact ht)
        have hte : t = ⟨#[]⟩ := by apply ByteArray.ext; apply Array.toList_inj.1; rw [he]
        subst hte
        have HF : Hid (ver s.data.toList = some done) := by show _ = _; rw [HV.out, HP.out, he, prts_nil]; simp
        clear he
        go_wp2
        go_ret2
        exact ⟨.inr ⟨done, _, HF.out, rfl, HO.out⟩, hbel⟩
      · have hne : t.toList.isEmpty = false := by
          rw [ByteArray.toList_eq, List.isEmpty_eq_false_iff]
          intro e
          have := congrArg List.length e
          rw [lenS] at this
          exact ht this
        have hnn : t.data.toList ≠ [] := by intro e; have := lenS t; rw [e] at this; simp at this; omega
        have HPF := prts_fp hnn
        have HF : Hid (∀ W, Calls Tryz.prog 60 #[.string t] W fun e w' => e = .returned (fpV (fp t.data.toList)) ∧ Below W.heap.size W w') := fun W => firstPart_any t (by omega) (by omega) W
        clear hnn
        have hnb : t.size ≤ 30 := by omega
        cases hf : fp t.data.toList with
        | none =>
          rw [hf] at HF HPF
          have HN : Hid (ver s.data.toList = none) := by show _ = _; rw [HV.out, HP.out, HPF]; rfl
          clear HPF
          have HF' : Hid (∀ W, Calls Tryz.prog 60 #[.string t] W fun e w' => e = .returned (.tuple #[.agg #[.int .i64 0, .int .i64 0, .string ⟨#[]⟩], .int .i64 0]) ∧ Below W.heap.size W w') := HF
          go_wp2_with (go_at_call 60; refine (HF'.out _).mono ?_; rintro e w1 ⟨rfl, hl1⟩; obtain ⟨hc, hfz⟩ := bcell hl1)
          go_ret2
          exact ⟨.inl ⟨HN.out, rfl⟩, (hbel.trans (hl1.mono hsz)).alloc (Nat.le_trans hsz hl1.size) _⟩
        | some pk =>
          obtain ⟨p, k⟩ := pk
          have hk := fp_size hf
          rw [lenS] at hk
          rw [hf] at HF HPF
          have HPF' : Hid (prts t.data.toList = (prts (t.data.toList.drop k)).map (p.toList ++ ·)) := HPF
          clear HPF hf
          have hk1 : ¬ (k : Int) = 0 := by omega
          have HX : Hid ((t.extract k t.size).data.toList = t.data.toList.drop k) := extE hk.2
          cases p with
          | none =>
            have HF' : Hid (∀ W, Calls Tryz.prog 60 #[.string t] W fun e w' => e = .returned (.tuple #[.agg #[.int .i64 0, .int .i64 0, .string ⟨#[]⟩], .int .i64 (k : Int)]) ∧ Below W.heap.size W w') := HF
            clear HF
            go_wp2_with (go_at_call 60; refine (HF'.out _).mono ?_; rintro e w1 ⟨rfl, hl1⟩; obtain ⟨hc, hfz⟩ := bcell hl1)
            go_roundw
            case rel => exact ⟨t.extract k t.size, done, rfl, by simp; omega, by rw [HP.out, HPF'.out, HX.out]; simp, own_below (HO.out) (hl1.mono (Nat.le_refl _)) |>.alloc _, (hbel.trans (hl1.mono hsz)).alloc (Nat.le_trans hsz hl1.size) _⟩
            case measure => simp; omega
          | some p =>
            obtain ⟨x, y, z, hI, hIc, hx⟩ := ptI_form p
            have HF' : Hid (∀ W, Calls Tryz.prog 60 #[.string t] W fun e w' => e = .returned (.tuple #[.agg #[.int .i64 x, .int .i64 y, .string z], .int .i64 (k : Int)]) ∧ Below W.heap.size W w') := fun W => by have := HF.out W; simp only [fpV, hI] at this; exact this
            clear HF
            go_wp2_with (first
              | (go_at_call 60; refine (HF'.out _).mono ?_; rintro e w1 ⟨rfl, hl1⟩; obtain ⟨hc, hfz⟩ := bcell hl1; have HO1 : Hid (OwnI w.heap.size ((w1.alloc (.cells #[.int .i64 x, .int .i64 y, .string z] 100)).alloc (.cells #[.int .i64 x, .int .i64 y, .string z] 100)) _ done) := ((own_below HO.out hl1).alloc _).alloc _)
              | (at_builtin; refine app_ownS _ rfl _ _ 57 rfl w.heap.size 100 noI 3 32 Tryz.underlying57 infoVP rfl (by omega) _ _ _ rfl HO1.out ⟨w1.heap.size + 1, 0, none⟩ 1 1 [.int .i64 x, .int .i64 y, .string z] rfl rfl ?c1 ?c2 ?c3 ?c4 ?c5 ?_)
              | go_in)
            case c1 => have h3 := three_new (w1.alloc (.cells #[.int .i64 x, .int .i64 y, .string z] 100)) (.int .i64 x) (.int .i64 y) (.string z) 100; rw [show (w1.alloc (.cells #[.int .i64 x, .int .i64 y, .string z] 100)).heap.size = w1.heap.size + 1 by simp] at h3; exact h3
            case c2 => intro u hu; simp at hu; rcases hu with rfl | rfl | rfl <;> rfl
            case c3 => unfold maxLen; omega
            case c4 => omega
            case c5 => simp; have := hl1.size; omega
            intro v1 w2 hown2 hg2
            have hb2 : Below w.heap.size w w2 := below_grownS (((hbel.trans (hl1.mono hsz)).alloc (Nat.le_trans hsz hl1.size) _).alloc (by simp; have := hl1.size; omega) _) HO1.out hg2 (by simp; have := hl1.size; omega)
            have HO2 : Hid (OwnI w.heap.size w2 v1 (done ++ [p])) := by
              show OwnI _ _ _ _
              unfold OwnI
              rw [List.flatMap_append, List.length_append]
              simp only [List.flatMap_cons, List.flatMap_nil, List.append_nil, hIc, List.length_singleton]
              exact hown2
            clear hown2 hg2
            go_wp2
            go_roundw
            case rel => exact ⟨t.extract k t.size, done ++ [p], rfl, by simp; omega, by rw [HP.out, HPF'.out, HX.out, Option.map_map]; congr 1; funext q; simp, HO2.out, hb2⟩
            case measure => simp; omega

end Go.Proofs.YtimcocmjmlejfaaGreatDoor.vr

namespace Go.Proofs.YtimcocmjmlejfaaGreatDoor.vr
open Go.ChangeShapes Go.WideShapes Go.ChangeAt Go.RowKit Go.Deep Go.Shelf
set_option linter.unusedVariables false
set_option linter.unusedSimpArgs false

/-! ### Versions: the specification's side -/

def ptSc : Pt → List Value
  | .num n => [.string ⟨#[]⟩, .int .i64 (n : Int)]
  | .word l => [.string ⟨l.toArray⟩, .int .i64 0]

def OwnP (B : Nat) (w : World) (v : Value) (ps : List Pt) : Prop := w.ownsRow B 98 2 v ps.length (ps.flatMap ptSc)

theorem own2_zero (w : World) : OwnP w.heap.size (w.alloc (.cells #[] 98)) (.slice (some ⟨w.heap.size, 0, none⟩) 0 0) [] := World.ownsRow_made w #[] 0 (Nat.le_refl _) (by decide) rfl

def PIs (B : Nat) (l : List UInt8) (e : Ending) (w' : World) : Prop := ver l = none ∧ (∃ v, e = .returned (.tuple #[v, .bool false])) ∨ ∃ ps v, ver l = some ps ∧ e = .returned (.tuple #[v, .bool true]) ∧ OwnP B w' v ps

theorem infoLP : (Tryz.prog.info? 98).map (fun i => (i.zero, i.size, i.bytes)) = some (some (.agg #[.string ⟨#[]⟩, .int .i64 0]), 2, 24) := by kernel_rfl

theorem two_new (w : World) (a b : Value) (e : TypeId) : ∀ j v, [a, b][j]? = some v → (w.alloc (.cells #[a, b] e)).cell? ((⟨w.heap.size, 0, none⟩ : Addr).add j) = some v := by
  intro j v h
  rw [addr_add, Nat.zero_add]
  match j, h with
  | 0, h => obtain rfl : a = v := by simpa using h
            simp [go_sem]
  | 1, h => obtain rfl : b = v := by simpa using h
            simp [go_sem]

/-- A row of signs that has been gone through from i to k. -/
structure Row (f : UInt8 → Bool) (s : ByteArray) (i k : Nat) : Prop where
  le : i ≤ k
  up : k ≤ s.size
  all : ∀ c ∈ (s.data.toList.drop i).take (k - i), f c = true

theorem get_drop {s : ByteArray} {i k : Nat} (h0 : i ≤ k) (hk : k < s.size) (hh : k - i < (s.data.toList.drop i).length) : (s.data.toList.drop i)[k - i]'hh = s[k] := by
  have e1 : (s.data.toList.drop i)[k - i]? = some s[k] := by rw [List.getElem?_drop, show i + (k - i) = k by omega]; exact getS hk
  exact Option.some.inj ((List.getElem?_eq_getElem hh).symm.trans e1)

theorem Row.step {f : UInt8 → Bool} {s : ByteArray} {i k : Nat} (h : Row f s i k) (hk : k < s.size) (hf : f s[k] = true) : Row f s i (k + 1) := by
  refine ⟨by have := h.le; omega, hk, ?_⟩
  have h0 := h.le
  intro c hc
  rw [show k + 1 - i = (k - i) + 1 by omega, List.take_succ_eq_append_getElem (by rw [List.length_drop, lenS]; omega)] at hc
  rcases List.mem_append.1 hc with hc | hc
  · exact h.all c hc
  · rw [List.mem_singleton] at hc
    have : c = s[k] := by rw [hc]; exact get_drop h0 hk _
    rw [this]; exact hf

theorem Row.seg {f : UInt8 → Bool} {s : ByteArray} {i k : Nat} (h : Row f s i k) : (s.data.toList.drop i).drop (k - i) = s.data.toList.drop k := by
  rw [List.drop_drop, show i + (k - i) = k by have := h.le; omega]

theorem Row.stop {f : UInt8 → Bool} {s : ByteArray} {i k : Nat} (h : Row f s i k) (hb : ∀ h : k < s.size, f s[k] = false) : (s.data.toList.drop i).takeWhile f = (s.data.toList.drop i).take (k - i) ∧ (s.data.toList.drop i).dropWhile f = s.data.toList.drop k := by
  have := tw_of (f := f) (l := s.data.toList.drop i) (List.take_append_drop (k - i) _).symm h.all (fun c hc => by
    rw [h.seg] at hc
    by_cases hl : k < s.size
    · rw [dropS hl] at hc
      have : c = s[k] := by simpa using hc.symm
      rw [this]; exact hb hl
    · rw [List.drop_eq_nil_of_le (by rw [lenS]; omega)] at hc; cases hc)
  rw [h.seg] at this
  exact this

theorem Row.len {f : UInt8 → Bool} {s : ByteArray} {i k : Nat} (h : Row f s i k) : ((s.data.toList.drop i).take (k - i)).length = k - i := by
  have := h.le; have := h.up
  rw [List.length_take, List.length_drop, lenS]; omega

theorem Row.long {f : UInt8 → Bool} {s : ByteArray} {i k : Nat} (h : Row f s i k) : k - i ≤ ((s.data.toList.drop i).takeWhile f).length := by
  have := tw_long (f := f) (l := s.data.toList.drop i) (List.take_append_drop (k - i) _).symm h.all
  rwa [h.len] at this

theorem Row.num {s : ByteArray} {i k : Nat} (h : Row dig s i k) (hk : k < s.size) : numL ((s.data.toList.drop i).take (k + 1 - i)) = numL ((s.data.toList.drop i).take (k - i)) * 10 + (s[k].toNat - 48) := by
  have h0 := h.le
  rw [show k + 1 - i = (k - i) + 1 by omega, List.take_succ_eq_append_getElem (by rw [List.length_drop, lenS]; omega), numL_snoc, get_drop h0 hk]

theorem at_num {s : ByteArray} {i : Nat} (h : i < s.size) (hd : dig s[i] = true) : prts (s.data.toList.drop i) = if 15 < ((s.data.toList.drop i).takeWhile dig).length then none else (prts ((s.data.toList.drop i).dropWhile dig)).map (Pt.num (numL ((s.data.toList.drop i).takeWhile dig)) :: ·) := prts_num (dropS h) hd
theorem at_word {s : ByteArray} {i : Nat} (h : i < s.size) (hd : dig s[i] = false) (h2 : ltr s[i] = true) : prts (s.data.toList.drop i) = (prts ((s.data.toList.drop i).dropWhile ltr)).map (Pt.word ((s.data.toList.drop i).takeWhile ltr) :: ·) := prts_word (dropS h) hd h2
theorem at_sep {s : ByteArray} {i : Nat} (h : i < s.size) (hd : dig s[i] = false) (h2 : ltr s[i] = false) (h3 : s[i].toNat = 46 ∨ s[i].toNat = 45) : prts (s.data.toList.drop i) = prts (s.data.toList.drop (i + 1)) := by rw [dropS h, prts_sep hd h2 h3]
theorem at_bad {s : ByteArray} {i : Nat} (h : i < s.size) (hd : dig s[i] = false) (h2 : ltr s[i] = false) (h3 : ¬ (s[i].toNat = 46 ∨ s[i].toNat = 45)) : prts (s.data.toList.drop i) = none := by rw [dropS h, prts_bad hd h2 h3]

theorem at_num' {s : ByteArray} {i k : Nat} (h : i < s.size) (hd : dig s[i] = true) (hr : Row dig s i k) (hb : ∀ h : k < s.size, dig s[k] = false) (h15 : k - i ≤ 15) : i < k ∧ prts (s.data.toList.drop i) = (prts (s.data.toList.drop k)).map (Pt.num (numL ((s.data.toList.drop i).take (k - i))) :: ·) := by
  obtain ⟨e1, e2⟩ := hr.stop hb
  refine ⟨?_, by rw [at_num h hd, e1, e2, hr.len, if_neg (by omega)]⟩
  rcases Nat.lt_or_eq_of_le hr.le with h' | rfl
  · exact h'
  · have := hb h; rw [hd] at this; cases this
theorem at_word' {s : ByteArray} {i k : Nat} (h : i < s.size) (hd : dig s[i] = false) (h2 : ltr s[i] = true) (hr : Row ltr s i k) (hb : ∀ h : k < s.size, ltr s[k] = false) : i < k ∧ prts (s.data.toList.drop i) = (prts (s.data.toList.drop k)).map (Pt.word ((s.data.toList.drop i).take (k - i)) :: ·) := by
  obtain ⟨e1, e2⟩ := hr.stop hb
  refine ⟨?_, by rw [at_word h hd h2, e1, e2]⟩
  rcases Nat.lt_or_eq_of_le hr.le with h' | rfl
  · exact h'
  · have := hb h; rw [h2] at this; cases this

theorem own_snoc {B : Nat} {w : World} {v : Value} {done : List Pt} {p : Pt} {cs : List Value} (hc : ptSc p = cs) (h : w.ownsRow B 98 2 v (done.length + 1) (done.flatMap ptSc ++ cs)) : OwnP B w v (done ++ [p]) := by
  unfold OwnP
  rw [List.flatMap_append, List.length_append]
  simp only [List.flatMap_cons, List.flatMap_nil, List.append_nil, hc, List.length_singleton]
  exact h

theorem map_snoc (o : Option (List Pt)) (done : List Pt) (p : Pt) : (o.map (p :: ·)).map (done ++ ·) = o.map ((done ++ [p]) ++ ·) := by
  rw [Option.map_map]; congr 1; funext q; simp

theorem ext_mid {s : ByteArray} {i k : Nat} (h : i ≤ k) (hk : k ≤ s.size) : s.extract i k = ⟨((s.data.toList.drop i).take (k - i)).toArray⟩ := by
  apply ByteArray.ext
  apply Array.toList_inj.1
  rw [Lib.extract_data]

set_option maxHeartbeats 4000000 in
set_option maxRecDepth 100000 in
theorem parts_any (s : ByteArray) (hs : s.size ≤ 1048576) (w : World) :
    Calls Tryz.prog 34 #[.string s] w fun e w' => PIs w.heap.size s.data.toList e w' ∧ Below w.heap.size w w' := by
  by_cases h1 : s.size < 1
  · have HN : Hid (ver s.data.toList = none) := ver_none (.inl (by rw [lenS]; omega))
    go_enter Tryz.func34, Tryz.ntmps34
    go_wp2
    go_ret2
    exact ⟨.inl ⟨HN.out, _, rfl⟩, (Below.refl _ _).alloc (Nat.le_refl _) _⟩
  by_cases h2 : 30 < s.size
  · have HN : Hid (ver s.data.toList = none) := ver_none (.inr (.inl (by rw [lenS]; omega)))
    go_enter Tryz.func34, Tryz.ntmps34
    go_wp2
    go_ret2
    exact ⟨.inl ⟨HN.out, _, rfl⟩, (Below.refl _ _).alloc (Nat.le_refl _) _⟩
  have h0 : 0 < s.size := by omega
  have hb255 : (s[0].toNat : Int) ≤ 255 := by have := s[0].toNat_lt; omega
  cases hd : dig s[0] with
  | false =>
    have HN : Hid (ver s.data.toList = none) := ver_none (.inr (.inr ⟨_, getS h0, hd⟩))
    go_enter Tryz.func34, Tryz.ntmps34
    go_wp2_with (go_at_call 57; refine (digit_any _ _).mono ?_; rintro e w' ⟨rfl, rfl⟩)
    go_ret2
    exact ⟨.inl ⟨HN.out, _, rfl⟩, (Below.refl _ _).alloc (Nat.le_refl _) _⟩
  | true =>
    have HV : Hid (ver s.data.toList = prts s.data.toList) := ver_of (by rw [lenS]; omega) (by rw [lenS]; omega) (fun c hc => by rw [getS h0] at hc; cases hc; exact hd)
    go_enter Tryz.func34, Tryz.ntmps34
    go_wp2_with (go_at_call 57; refine (digit_any _ _).mono ?_; rintro e w' ⟨rfl, hw⟩; obtain rfl := hw.symm; clear hw)
    go_loopw [4, 5, 6, 7] (fun v r _ _ wr => ∃ (i : Nat) (done : List Pt), r = .int .i64 (i : Int) ∧ i ≤ s.size ∧ done.length ≤ i ∧ prts s.data.toList = (prts (s.data.toList.drop i)).map (done ++ ·) ∧ OwnP w.heap.size wr v done ∧ Below w.heap.size w wr) (fun _ r _ _ _ => s.size - (intOf r).toNat)
    case atStart => exact ⟨0, [], rfl, by omega, by simp, by simp, own2_zero w, (Below.refl _ _).alloc (Nat.le_refl _) _⟩
    case round =>
      obtain ⟨i, done, rfl, hi, hlen, hpr, hown, hbel⟩ := hrel
      have HP : Hid (prts s.data.toList = (prts (s.data.toList.drop i)).map (done ++ ·)) := hpr
      have HO : Hid (OwnP w.heap.size wr _ done) := hown
      have hsz := hbel.size
      clear hpr hown
      by_cases hlt : i < s.size
      · have hbi : (s[i].toNat : Int) ≤ 255 := by have := s[i].toNat_lt; omega
        cases hdi : dig s[i] with
        | true =>
          go_wp2_with (go_at_call 57; refine (digit_any _ _).mono ?_; rintro e wr ⟨rfl, rfl⟩)
          go_loopw [5, 7] (fun r n wr2 => ∃ k : Nat, r = .int .i64 (k : Int) ∧ Row dig s i k ∧ k - i ≤ 15 ∧ n = .int .i64 (numL ((s.data.toList.drop i).take (k - i)) : Int) ∧ wr2 = wr) (fun r _ _ => s.size - (intOf r).toNat)
          case atStart => exact ⟨i, rfl, ⟨Nat.le_refl _, by omega, by simp⟩, by omega, by simp [numL], rfl⟩
          case round =>
            obtain ⟨k, rfl, hrow, hk15, rfl, rfl⟩ := hrel
            have hle := hrow.le
            have hup := hrow.up
            have hN15 := numL_lt15 hrow.all (by rw [hrow.len]; exact hk15)
            by_cases hk : k < s.size
            · have hbk : (s[k].toNat : Int) ≤ 255 := by have := s[k].toNat_lt; omega
              cases hdk : dig s[k] with
              | true =>
                have hdd : 48 ≤ (s[k].toNat : Int) ∧ (s[k].toNat : Int) ≤ 57 := by simp only [dig, decide_eq_true_eq] at hdk; omega
                have hrow2 := hrow.step hk hdk
                have HN2 := hrow.num hk
                have HR2 : Hid (Row dig s i (k + 1)) := hrow2
                have HR1 : Hid (Row dig s i k) := hrow
                generalize hNN : numL ((s.data.toList.drop i).take (k - i)) = N at *
                have HN2' : Hid (numL ((s.data.toList.drop i).take (k + 1 - i)) = N * 10 + (s[k].toNat - 48)) := HN2
                clear HN2 hNN hrow hrow2
                by_cases h15 : 15 < k + 1 - i
                · have HS : Hid (ver s.data.toList = none) := by
                    show _ = _
                    rw [HV.out, HP.out, at_num hlt hdi, if_pos (by have := HR2.out.long; omega)]; rfl
                  go_wp2_with (go_at_call 57; refine (digit_any _ _).mono ?_; rintro e wr ⟨rfl, rfl⟩)
                  go_ret2
                  exact ⟨.inl ⟨HS.out, _, rfl⟩, hbel⟩
                · go_wp2_with (go_at_call 57; refine (digit_any _ _).mono ?_; rintro e wr ⟨rfl, rfl⟩)
                  go_roundw
                  case rel => exact ⟨k + 1, by go_num, HR2.out, by omega, by rw [HN2'.out]; congr 1; omega, trivial⟩
                  case measure => simp [intOf]; omega
              | false =>
                obtain ⟨hik, hst⟩ := at_num' hlt hdi hrow (fun _ => hdk) hk15
                have HR1 : Hid (Row dig s i k) := hrow
                generalize hNN : numL ((s.data.toList.drop i).take (k - i)) = N at *
                have HST : Hid (prts s.data.toList = (prts (s.data.toList.drop k)).map ((done ++ [Pt.num N]) ++ ·)) := by show _ = _; rw [HP.out, hst, map_snoc]
                clear hst hrow hNN
                have HO1 : Hid (OwnP w.heap.size (wr.alloc (.cells #[.string ⟨#[]⟩, .int .i64 (N : Int)] 98)) _ done) := HO.out.alloc _
                go_wp2_with (first
                  | (go_at_call 57; refine (digit_any _ _).mono ?_; rintro e wr ⟨rfl, rfl⟩)
                  | (at_builtin; refine app_ownS _ rfl _ _ 65 rfl w.heap.size 98 (.agg #[.string ⟨#[]⟩, .int .i64 0]) 2 24 Tryz.underlying65 infoLP rfl (by omega) _ _ _ rfl HO1.out ⟨wr.heap.size, 0, none⟩ 1 1 [.string ⟨#[]⟩, .int .i64 (N : Int)] rfl rfl (two_new wr _ _ _) ?c2 ?c3 ?c4 ?c5 ?_)
                  | go_in)
                case c2 => intro u hu; simp at hu; rcases hu with rfl | rfl <;> rfl
                case c3 => unfold maxLen; omega
                case c4 => omega
                case c5 => simp; omega
                intro v1 w2 hown2 hg2
                have hb2 : Below w.heap.size w w2 := below_grownS (hbel.alloc hsz _) HO1.out hg2 (by simp; omega)
                have HO2 : Hid (OwnP w.heap.size w2 v1 (done ++ [Pt.num N])) := own_snoc rfl hown2
                clear hown2 hg2
                go_wp2
                go_roundw
                case rel => exact ⟨k, done ++ [Pt.num N], by go_num, by omega, by simp; omega, HST.out, HO2.out, hb2⟩
                case measure => simp [intOf]; omega
            · obtain ⟨hik, hst⟩ := at_num' hlt hdi hrow (fun h => absurd h hk) hk15
              have HR1 : Hid (Row dig s i k) := hrow
              generalize hNN : numL ((s.data.toList.drop i).take (k - i)) = N at *
              have HST : Hid (prts s.data.toList = (prts (s.data.toList.drop k)).map ((done ++ [Pt.num N]) ++ ·)) := by show _ = _; rw [HP.out, hst, map_snoc]
              clear hst hrow hNN
              have HO1 : Hid (OwnP w.heap.size (wr.alloc (.cells #[.string ⟨#[]⟩, .int .i64 (N : Int)] 98)) _ done) := HO.out.alloc _
              go_wp2_with (first
                | (at_builtin; refine app_ownS _ rfl _ _ 65 rfl w.heap.size 98 (.agg #[.string ⟨#[]⟩, .int .i64 0]) 2 24 Tryz.underlying65 infoLP rfl (by omega) _ _ _ rfl HO1.out ⟨wr.heap.size, 0, none⟩ 1 1 [.string ⟨#[]⟩, .int .i64 (N : Int)] rfl rfl (two_new wr _ _ _) ?c2 ?c3 ?c4 ?c5 ?_)
                | go_in)
              case c2 => intro u hu; simp at hu; rcases hu with rfl | rfl <;> rfl
              case c3 => unfold maxLen; omega
              case c4 => omega
              case c5 => simp; omega
              intro v1 w2 hown2 hg2
              have hb2 : Below w.heap.size w w2 := below_grownS (hbel.alloc hsz _) HO1.out hg2 (by simp; omega)
              have HO2 : Hid (OwnP w.heap.size w2 v1 (done ++ [Pt.num N])) := own_snoc rfl hown2
              clear hown2 hg2
              go_wp2
              go_roundw
              case rel => exact ⟨k, done ++ [Pt.num N], by go_num, by omega, by simp; omega, HST.out, HO2.out, hb2⟩
              case measure => simp [intOf]; omega
        | false =>
          cases hli : ltr s[i] with
          | true =>
            go_wp2_with (first
              | (go_at_call 57; refine (digit_any _ _).mono ?_; rintro e wr ⟨rfl, rfl⟩)
              | (go_at_call 58; refine (letter_any _ _).mono ?_; rintro e wr ⟨rfl, rfl⟩))
            go_loopw [5] (fun r wr2 => ∃ k : Nat, r = .int .i64 (k : Int) ∧ Row ltr s i k ∧ wr2 = wr) (fun r _ => s.size - (intOf r).toNat)
            case atStart => exact ⟨i, rfl, ⟨Nat.le_refl _, by omega, by simp⟩, rfl⟩
            case round =>
              obtain ⟨k, rfl, hrow, rfl⟩ := hrel
              have hle := hrow.le
              have hup := hrow.up
              by_cases hk : k < s.size
              · have hbk : (s[k].toNat : Int) ≤ 255 := by have := s[k].toNat_lt; omega
                cases hdk : ltr s[k] with
                | true =>
                  have HR2 : Hid (Row ltr s i (k + 1)) := hrow.step hk hdk
                  clear hrow
                  go_wp2_with (go_at_call 58; refine (letter_any _ _).mono ?_; rintro e wr ⟨rfl, rfl⟩)
                  go_roundw
                  case rel => exact ⟨k + 1, by go_num, HR2.out, trivial⟩
                  case measure => simp [intOf]; omega
                | false =>
                  obtain ⟨hik, hst⟩ := at_word' hlt hdi hli hrow (fun _ => hdk)
                  have HX : Hid (ptSc (Pt.word ((s.data.toList.drop i).take (k - i))) = [.string (s.extract i k), .int .i64 0]) := by show _ = _; rw [ext_mid hle hup]; rfl
                  generalize hNN : Pt.word ((s.data.toList.drop i).take (k - i)) = P at *
                  have HST : Hid (prts s.data.toList = (prts (s.data.toList.drop k)).map ((done ++ [P]) ++ ·)) := by show _ = _; rw [HP.out, hst, map_snoc]
                  clear hst hrow hNN
                  have HO1 : Hid (OwnP w.heap.size (wr.alloc (.cells #[.string (s.extract i k), .int .i64 0] 98)) _ done) := HO.out.alloc _
                  go_wp2_with (first
                    | (go_at_call 58; refine (letter_any _ _).mono ?_; rintro e wr ⟨rfl, rfl⟩)
                    | (at_builtin; refine app_ownS _ rfl _ _ 65 rfl w.heap.size 98 (.agg #[.string ⟨#[]⟩, .int .i64 0]) 2 24 Tryz.underlying65 infoLP rfl (by omega) _ _ _ rfl HO1.out ⟨wr.heap.size, 0, none⟩ 1 1 [.string (s.extract i k), .int .i64 0] rfl rfl (two_new wr _ _ _) ?c2 ?c3 ?c4 ?c5 ?_)
                    | go_in)
                  case c2 => intro u hu; simp at hu; rcases hu with rfl | rfl <;> rfl
                  case c3 => unfold maxLen; omega
                  case c4 => omega
                  case c5 => simp; omega
                  intro v1 w2 hown2 hg2
                  have hb2 : Below w.heap.size w w2 := below_grownS (hbel.alloc hsz _) HO1.out hg2 (by simp; omega)
                  have HO2 : Hid (OwnP w.heap.size w2 v1 (done ++ [P])) := own_snoc HX.out hown2
                  clear hown2 hg2
                  go_wp2
                  go_roundw
                  case rel => exact ⟨k, done ++ [P], by go_num, by omega, by simp; omega, HST.out, HO2.out, hb2⟩
                  case measure => simp [intOf]; omega
              · obtain ⟨hik, hst⟩ := at_word' hlt hdi hli hrow (fun h => absurd h hk)
                have HX : Hid (ptSc (Pt.word ((s.data.toList.drop i).take (k - i))) = [.string (s.extract i k), .int .i64 0]) := by show _ = _; rw [ext_mid hle hup]; rfl
                generalize hNN : Pt.word ((s.data.toList.drop i).take (k - i)) = P at *
                have HST : Hid (prts s.data.toList = (prts (s.data.toList.drop k)).map ((done ++ [P]) ++ ·)) := by show _ = _; rw [HP.out, hst, map_snoc]
                clear hst hrow hNN
                have HO1 : Hid (OwnP w.heap.size (wr.alloc (.cells #[.string (s.extract i k), .int .i64 0] 98)) _ done) := HO.out.alloc _
                go_wp2_with (first
                  | (at_builtin; refine app_ownS _ rfl _ _ 65 rfl w.heap.size 98 (.agg #[.string ⟨#[]⟩, .int .i64 0]) 2 24 Tryz.underlying65 infoLP rfl (by omega) _ _ _ rfl HO1.out ⟨wr.heap.size, 0, none⟩ 1 1 [.string (s.extract i k), .int .i64 0] rfl rfl (two_new wr _ _ _) ?c2 ?c3 ?c4 ?c5 ?_)
                  | go_in)
                case c2 => intro u hu; simp at hu; rcases hu with rfl | rfl <;> rfl
                case c3 => unfold maxLen; omega
                case c4 => omega
                case c5 => simp; omega
                intro v1 w2 hown2 hg2
                have hb2 : Below w.heap.size w w2 := below_grownS (hbel.alloc hsz _) HO1.out hg2 (by simp; omega)
                have HO2 : Hid (OwnP w.heap.size w2 v1 (done ++ [P])) := own_snoc HX.out hown2
                clear hown2 hg2
                go_wp2
                go_roundw
                case rel => exact ⟨k, done ++ [P], by go_num, by omega, by simp; omega, HST.out, HO2.out, hb2⟩
                case measure => simp [intOf]; omega
          | false =>
            by_cases h3 : s[i].toNat = 46 ∨ s[i].toNat = 45
            · have HS : Hid (prts (s.data.toList.drop i) = prts (s.data.toList.drop (i + 1))) := at_sep hlt hdi hli h3
              go_wp2_with (first
                | (go_at_call 57; refine (digit_any _ _).mono ?_; rintro e wr ⟨rfl, rfl⟩)
                | (go_at_call 58; refine (letter_any _ _).mono ?_; rintro e wr ⟨rfl, rfl⟩))
              all_goals first
                | (go_roundw
                   case rel => exact ⟨i + 1, done, by go_num, by omega, by omega, by rw [HP.out, HS.out], HO.out, hbel⟩
                   case measure => simp [intOf]; omega)
                | (exfalso; simp only [beq_eq_false_iff_ne, ne_eq] at *; omega)
            · have HS : Hid (ver s.data.toList = none) := by show _ = _; rw [HV.out, HP.out, at_bad hlt hdi hli h3]; rfl
              have h4 : ((s[i].toNat : Int) == 46) = false := by rw [beq_eq_false_iff_ne]; omega
              have h5 : ((s[i].toNat : Int) == 45) = false := by rw [beq_eq_false_iff_ne]; omega
              clear h3
              go_wp2_with (first
                | (go_at_call 57; refine (digit_any _ _).mono ?_; rintro e w' ⟨rfl, rfl⟩)
                | (go_at_call 58; refine (letter_any _ _).mono ?_; rintro e w' ⟨rfl, rfl⟩))
              go_ret2
              exact ⟨.inl ⟨HS.out, _, rfl⟩, hbel⟩
      · obtain rfl : i = s.size := by omega
        have HF : Hid (ver s.data.toList = some done) := by show _ = _; rw [HV.out, HP.out, List.drop_eq_nil_of_le (by rw [lenS]; omega), prts_nil]; simp
        go_wp2
        go_ret2
        exact ⟨.inr ⟨done, _, HF.out, rfl, HO.out⟩, hbel⟩

end Go.Proofs.YtimcocmjmlejfaaGreatDoor.vr

namespace Go.Proofs.YtimcocmjmlejfaaGreatDoor.vr
open Go.ChangeShapes Go.WideShapes Go.ChangeAt Go.RowKit Go.Deep Go.Shelf
set_option linter.unusedVariables false
set_option linter.unusedSimpArgs false

set_option maxRecDepth 100000 in
theorem iok_any (s : ByteArray) (hs : s.size ≤ 1048576) (w : World) :
    Calls Tryz.prog 45 #[.string s] w fun e w' => e = .returned (.bool (ver s.data.toList).isSome) ∧ Below w.heap.size w w' := by
  go_enter Tryz.func45, Tryz.ntmps45
  go_wp2_with (go_at_call 35; refine (versionOf_any s hs _).mono ?_; rintro e w1 ⟨⟨h, rfl⟩ | ⟨ps, v, h, rfl, ho⟩, hl1⟩)
  all_goals go_ret
  all_goals exact ⟨ret_bool (by rw [h]; rfl), hl1⟩

set_option maxRecDepth 100000 in
theorem sok_any (s : ByteArray) (hs : s.size ≤ 1048576) (w : World) :
    Calls Tryz.prog 12 #[.string s] w fun e w' => e = .returned (.bool (ver s.data.toList).isSome) ∧ Below w.heap.size w w' := by
  go_enter Tryz.func12, Tryz.ntmps12
  go_wp2_with (go_at_call 34; refine (parts_any s hs _).mono ?_; rintro e w1 ⟨⟨h, v, rfl⟩ | ⟨ps, v, h, rfl, ho⟩, hl1⟩)
  all_goals go_ret
  all_goals exact ⟨ret_bool (by rw [h]; rfl), hl1⟩

end Go.Proofs.YtimcocmjmlejfaaGreatDoor.vr

namespace Go.Proofs.YtimcocmjmlejfaaGreatDoor.vr
open Go.ChangeShapes Go.WideShapes Go.ChangeAt Go.RowKit Go.Deep Go.Shelf
set_option linter.unusedVariables false
set_option linter.unusedSimpArgs false

/-! ### Rows of parts, wherever they lie -/

theorem flat_at {f : Pt → List Value} {sz : Nat} (hf : ∀ p, (f p).length = sz) : ∀ (ps : List Pt) (k : Nat) (p : Pt) (j : Nat) (u : Value), ps[k]? = some p → (f p)[j]? = some u → (ps.flatMap f)[k * sz + j]? = some u
  | [], k, p, j, u, h, _ => by simp at h
  | q :: r, 0, p, j, u, h, hu => by
    obtain rfl : q = p := by simpa using h
    rw [List.flatMap_cons, Nat.zero_mul, Nat.zero_add, List.getElem?_append_left]
    · exact hu
    · exact (List.getElem?_eq_some_iff.1 hu).1
  | q :: r, k + 1, p, j, u, h, hu => by
    have := flat_at hf r k p j u (by simpa using h) hu
    rw [List.flatMap_cons, List.getElem?_append_right (by rw [hf, Nat.succ_mul]; omega), hf]
    rw [show (k + 1) * sz + j - sz = k * sz + j by rw [Nat.succ_mul]; omega]
    exact this

theorem ptIc_len (p : Pt) : (ptIc p).length = 3 := by cases p <;> rfl
theorem ptSc_len (p : Pt) : (ptSc p).length = 2 := by cases p <;> rfl

def RowC (sz : Nat) (f : Pt → List Value) (w : World) (v : Value) (ps : List Pt) : Prop :=
  ∃ a cap, v = .slice a ps.length cap ∧ ps.length ≤ cap ∧ (ps = [] ∨ ∃ bb, a = some ⟨bb, 0, none⟩ ∧ ∀ k p j u, ps[k]? = some p → (f p)[j]? = some u → w.cell? ⟨bb, k * sz + j, none⟩ = some u)

theorem RowC.below {sz : Nat} {f : Pt → List Value} {w w' : World} {v : Value} {ps : List Pt} (h : RowC sz f w v ps) (hb : Below w.heap.size w w') : RowC sz f w' v ps := by
  obtain ⟨a, cap, e, hc, h⟩ := h
  refine ⟨a, cap, e, hc, ?_⟩
  rcases h with h | ⟨bb, ha, h⟩
  · exact .inl h
  · exact .inr ⟨bb, ha, fun k p j u h1 h2 => (hb.cell (p := ⟨bb, _, none⟩) (World.block_lt_of_cell? _ _ (h k p j u h1 h2))).trans (h k p j u h1 h2)⟩

theorem RowC.own {sz : Nat} {f : Pt → List Value} {w : World} {B e : Nat} {v : Value} {ps : List Pt} (hf : ∀ p, (f p).length = sz) (hsz : 0 < sz) (h : w.ownsRow B e sz v ps.length (ps.flatMap f)) : RowC sz f w v ps := by
  have h0 := h
  obtain ⟨hl, h⟩ := h
  rcases h with ⟨hv, hn⟩ | ⟨g, cap, cur, rfl, hb, hg, hcs⟩
  · have : ps = [] := List.length_eq_zero_iff.1 hn
    subst this
    exact ⟨none, 0, hv, Nat.le_refl _, .inl rfl⟩
  · refine ⟨_, cap, rfl, hcs.1, .inr ⟨g, rfl, fun k p j u h1 h2 => ?_⟩⟩
    have := h0.cells (g := g) rfl (k * sz + j) u (flat_at hf ps k p j u h1 h2)
    rwa [addr_add, Nat.zero_add] at this

def RowI := RowC 3 ptIc
def RowP := RowC 2 ptSc
theorem OwnI.row {B : Nat} {w : World} {v : Value} {ps : List Pt} (h : OwnI B w v ps) : RowI w v ps := RowC.own ptIc_len (by omega) h
theorem OwnP.row {B : Nat} {w : World} {v : Value} {ps : List Pt} (h : OwnP B w v ps) : RowP w v ps := RowC.own ptSc_len (by omega) h
theorem RowI.nil (w : World) : RowI w (.slice none 0 0) [] := ⟨none, 0, rfl, Nat.le_refl _, .inl rfl⟩

def optI : Option Pt → Value
  | none => noI
  | some p => ptI p

set_option maxHeartbeats 1000000 in
set_option maxRecDepth 100000 in
theorem part_any (ps : List Pt) (i : Nat) (v : Value) (w : World) (hR : RowI w v ps) (hn : ps.length ≤ 1000) (hi : i ≤ 1000) :
    Calls Tryz.prog 61 #[v, .int .i64 (i : Int)] w fun e w' => e = .returned (optI ps[i]?) ∧ Below w.heap.size w w' := by
  obtain ⟨a, cap, rfl, hcap, hc⟩ := hR
  by_cases h : i < ps.length
  · rcases hc with rfl | ⟨bb, rfl, hc⟩
    · simp at h
    obtain ⟨p, hp⟩ : ∃ p, ps[i]? = some p := ⟨_, List.getElem?_eq_getElem h⟩
    obtain ⟨x, y, z, hI, hIc, hx⟩ := ptI_form p
    have c0 := hc i p 0 _ hp (by rw [hIc]; rfl)
    have c1 := hc i p 1 _ hp (by rw [hIc]; rfl)
    have c2 := hc i p 2 _ hp (by rw [hIc]; rfl)
    have B0 : Below w.heap.size w (w.alloc (.cells #[.int .i64 0, .int .i64 0, .string ⟨#[]⟩] 100)) := (Below.refl _ _).alloc (Nat.le_refl _) _
    have d0 := (B0.cell (p := ⟨bb, _, none⟩) (World.block_lt_of_cell? _ _ c0)).trans c0
    have d1 := (B0.cell (p := ⟨bb, _, none⟩) (World.block_lt_of_cell? _ _ c1)).trans c1
    have d2 := (B0.cell (p := ⟨bb, _, none⟩) (World.block_lt_of_cell? _ _ c2)).trans c2
    rw [Nat.add_zero] at c0 d0
    have HV : Hid (optI ps[i]? = .agg #[.int .i64 x, .int .i64 y, .string z]) := by show _ = _; rw [hp]; exact hI
    clear hc hp hI hIc
    go_enter Tryz.func61, Tryz.ntmps61
    go_wp2
    refine ret_cell3 Tryz.results61 rfl (three_lit _ _ _ _ _) ⟨congrArg Ending.returned HV.out.symm, (Below.refl _ _).alloc (Nat.le_refl _) _⟩
  · have HV : Hid (optI ps[i]? = .agg #[.int .i64 0, .int .i64 0, .string ⟨#[]⟩]) := by show _ = _; rw [List.getElem?_eq_none (by omega)]; rfl
    go_enter Tryz.func61, Tryz.ntmps61
    go_wp2
    refine ret_cell3 Tryz.results61 rfl (three_lit _ _ _ _ _) ⟨congrArg Ending.returned HV.out.symm, (Below.refl _ _).alloc (Nat.le_refl _) _⟩

/-! ### The library's comparisons -/

def cmpZ (a b : Int) : Int := if a < b then -1 else if b < a then 1 else 0

theorem nanI (a : Int) (w : World) : Calls Tryz.prog 91 #[.int .i64 a] w fun e w' => e = .returned (.bool false) ∧ w' = w := by
  go_enter Tryz.func91, Tryz.ntmps91
  go_wp2
  go_ret
  exact ⟨ret_bool (by simp), rfl⟩
theorem nanL (a : Int) (w : World) : Calls Tryz.prog 92 #[.int .i64 a] w fun e w' => e = .returned (.bool false) ∧ w' = w := by
  go_enter Tryz.func92, Tryz.ntmps92
  go_wp2
  go_ret
  exact ⟨ret_bool (by simp), rfl⟩
theorem nanS (a : ByteArray) (w : World) : Calls Tryz.prog 93 #[.string a] w fun e w' => e = .returned (.bool false) ∧ w' = w := by
  go_enter Tryz.func93, Tryz.ntmps93
  go_wp2
  go_ret
  exact ⟨ret_bool (by simp), rfl⟩

theorem compareI (a b : Int) (w : World) : Calls Tryz.prog 80 #[.int .i64 a, .int .i64 b] w fun e w' => e = .returned (.int .i64 (cmpZ a b)) ∧ w' = w := by
  have hz : cmpZ a b = if a < b then -1 else if b < a then 1 else 0 := rfl
  by_cases h1 : a < b
  · rw [if_pos h1] at hz
    rw [hz]
    clear hz
    go_enter Tryz.func80, Tryz.ntmps80
    go_wp2_with (go_at_call 91; refine (nanI _ _).mono ?_; rintro e w ⟨rfl, rfl⟩)
    go_ret
    exact ⟨rfl, rfl⟩
  · rw [if_neg h1] at hz
    by_cases h2 : b < a
    · rw [if_pos h2] at hz
      rw [hz]
      clear hz
      go_enter Tryz.func80, Tryz.ntmps80
      go_wp2_with (go_at_call 91; refine (nanI _ _).mono ?_; rintro e w ⟨rfl, rfl⟩)
      go_ret
      exact ⟨rfl, rfl⟩
    · rw [if_neg h2] at hz
      rw [hz]
      clear hz
      go_enter Tryz.func80, Tryz.ntmps80
      go_wp2_with (go_at_call 91; refine (nanI _ _).mono ?_; rintro e w ⟨rfl, rfl⟩)
      go_ret
      exact ⟨rfl, rfl⟩

theorem compareL (a b : Int) (w : World) : Calls Tryz.prog 81 #[.int .i64 a, .int .i64 b] w fun e w' => e = .returned (.int .i64 (cmpZ a b)) ∧ w' = w := by
  have hz : cmpZ a b = if a < b then -1 else if b < a then 1 else 0 := rfl
  by_cases h1 : a < b
  · rw [if_pos h1] at hz
    rw [hz]
    clear hz
    go_enter Tryz.func81, Tryz.ntmps81
    go_wp2_with (go_at_call 92; refine (nanL _ _).mono ?_; rintro e w ⟨rfl, rfl⟩)
    go_ret
    exact ⟨rfl, rfl⟩
  · rw [if_neg h1] at hz
    by_cases h2 : b < a
    · rw [if_pos h2] at hz
      rw [hz]
      clear hz
      go_enter Tryz.func81, Tryz.ntmps81
      go_wp2_with (go_at_call 92; refine (nanL _ _).mono ?_; rintro e w ⟨rfl, rfl⟩)
      go_ret
      exact ⟨rfl, rfl⟩
    · rw [if_neg h2] at hz
      rw [hz]
      clear hz
      go_enter Tryz.func81, Tryz.ntmps81
      go_wp2_with (go_at_call 92; refine (nanL _ _).mono ?_; rintro e w ⟨rfl, rfl⟩)
      go_ret
      exact ⟨rfl, rfl⟩

theorem bl (x y : ByteArray) : Op.bytesLess x.toList y.toList = decide (x.data.toList < y.data.toList) := by rw [ByteArray.toList_eq, ByteArray.toList_eq, Go.Proofs.bytesLess_eq]

set_option maxRecDepth 100000 in
theorem compareS (a b : ByteArray) (w : World) : Calls Tryz.prog 82 #[.string a, .string b] w fun e w' => e = .returned (.int .i64 (cmpL a.data.toList b.data.toList)) ∧ w' = w := by
  have hz : cmpL a.data.toList b.data.toList = if a.data.toList < b.data.toList then -1 else if b.data.toList < a.data.toList then 1 else 0 := rfl
  have e1 := bl a b
  by_cases h1 : a.data.toList < b.data.toList
  · rw [if_pos h1] at hz
    rw [hz]
    have e1' : Op.bytesLess a.toList b.toList = true := by rw [e1]; exact decide_eq_true h1
    clear hz e1 h1
    go_enter Tryz.func82, Tryz.ntmps82
    go_wp2_with (go_at_call 93; refine (nanS _ _).mono ?_; rintro e w ⟨rfl, rfl⟩)
    go_ret
    exact ⟨rfl, rfl⟩
  · rw [if_neg h1] at hz
    have e1' : Op.bytesLess a.toList b.toList = false := by rw [e1]; exact decide_eq_false h1
    by_cases h2 : b.data.toList < a.data.toList
    · rw [if_pos h2] at hz
      rw [hz]
      have e2 : (a.toList == b.toList) = false := by rw [beq_eq_false_iff_ne, ByteArray.toList_eq, ByteArray.toList_eq]; intro e; rw [e] at h2; exact List.lt_irrefl _ h2
      clear hz e1 h1 h2
      go_enter Tryz.func82, Tryz.ntmps82
      go_wp2_with (go_at_call 93; refine (nanS _ _).mono ?_; rintro e w ⟨rfl, rfl⟩)
      all_goals first
        | (go_ret; exact ⟨rfl, rfl⟩)
        | (exfalso; simp_all)
    · rw [if_neg h2] at hz
      rw [hz]
      have e0 := ll_total h1 h2
      have e2 : a.toList = b.toList := by rw [ByteArray.toList_eq, ByteArray.toList_eq]; exact e0
      have e3 : a = b := by apply ByteArray.ext; exact Array.toList_inj.1 e0
      subst e3
      clear hz e1 h1 h2 e0 e2
      go_enter Tryz.func82, Tryz.ntmps82
      go_wp2_with (go_at_call 93; refine (nanS _ _).mono ?_; rintro e w ⟨rfl, rfl⟩)
      go_ret
      exact ⟨rfl, rfl⟩

def orI (a b c : Int) : Int := if a ≠ 0 then a else if b ≠ 0 then b else c

set_option maxHeartbeats 1000000 in
theorem or_any (a b c : Int) (g : Nat) (w : World) (h0 : w.cell? ⟨g, 0, none⟩ = some (.int .i64 a)) (h1 : w.cell? ⟨g, 1, none⟩ = some (.int .i64 b)) (h2 : w.cell? ⟨g, 2, none⟩ = some (.int .i64 c)) :
    Calls Tryz.prog 79 #[.slice (some ⟨g, 0, none⟩) 3 3] w fun e w' => e = .returned (.int .i64 (orI a b c)) ∧ w' = w := by
  go_enter Tryz.func79, Tryz.ntmps79
  go_wp2
  go_loop [5, 8] (fun _ i => i = .int .i64 0 ∨ i = .int .i64 1 ∧ a = 0 ∨ i = .int .i64 2 ∧ a = 0 ∧ b = 0 ∨ i = .int .i64 3 ∧ a = 0 ∧ b = 0 ∧ c = 0) (fun _ i => 4 - (intOf i).toNat)
  case atStart => exact .inl rfl
  case round =>
    rcases hrel with rfl | ⟨rfl, rfl⟩ | ⟨rfl, rfl, rfl⟩ | ⟨rfl, rfl, rfl, rfl⟩
    · by_cases ha : a = 0
      · subst ha
        go_wp2
        go_round
        case rel => simp
        case measure => simp [intOf]
      · have HO : Hid (orI a b c = a) := if_pos ha
        go_wp2
        go_ret
        exact ⟨ret_int HO.out.symm, rfl⟩
    · by_cases hb : b = 0
      · subst hb
        go_wp2
        go_round
        case rel => simp
        case measure => simp [intOf]
      · have HO : Hid (orI 0 b c = b) := by show _ = _; unfold orI; rw [if_neg (by omega), if_pos hb]
        go_wp2
        go_ret
        exact ⟨ret_int HO.out.symm, rfl⟩
    · by_cases hc : c = 0
      · subst hc
        go_wp2
        go_round
        case rel => simp
        case measure => simp [intOf]
      · have HO : Hid (orI 0 0 c = c) := by show _ = _; unfold orI; rw [if_neg (by omega), if_neg (by omega)]
        go_wp2
        go_ret
        exact ⟨ret_int HO.out.symm, rfl⟩
    · go_wp2
      go_ret
      exact ⟨rfl, rfl⟩

/-! ### Two parts held against each other -/

def cmpO : Option Pt → Option Pt → Int
  | some x, some y => cmpPt x y
  | some (.word _), none => -1
  | some (.num _), none => 1
  | none, some (.word _) => 1
  | none, some (.num _) => -1
  | none, none => 0

theorem optI_form (o : Option Pt) : ∃ (x y : Int) (z : ByteArray), optI o = .agg #[.int .i64 x, .int .i64 y, .string z] := by
  cases o with
  | none => exact ⟨0, 0, ⟨#[]⟩, rfl⟩
  | some p => obtain ⟨x, y, z, h, _⟩ := ptI_form p; exact ⟨x, y, z, h⟩

theorem agg3 {x y x' y' : Int} {z z' : ByteArray} (h : (Value.agg #[.int .i64 x, .int .i64 y, .string z]) = .agg #[.int .i64 x', .int .i64 y', .string z']) : x = x' ∧ y = y' ∧ z = z' := by
  simpa using h

theorem optI_or {o q : Option Pt} {x y x' y' : Int} {z z' : ByteArray} (h : optI o = .agg #[.int .i64 x, .int .i64 y, .string z]) (h' : optI q = .agg #[.int .i64 x', .int .i64 y', .string z']) :
    orI (cmpZ x x') (cmpZ y y') (cmpL z.data.toList z'.data.toList) = cmpO o q := by
  have key : ∀ (a b : Nat), cmpZ (a : Int) (b : Int) = cmpN a b := by intro a b; unfold cmpZ cmpN; simp only [Int.ofNat_lt]
  have l0 : cmpL [] [] = 0 := cmpL_zero.2 rfl
  have z0 : ∀ a, cmpZ a a = 0 := by intro a; unfold cmpZ; rw [if_neg (by omega), if_neg (by omega)]
  cases o with
  | none =>
    obtain ⟨rfl, rfl, rfl⟩ := agg3 h
    cases q with
    | none =>
      obtain ⟨rfl, rfl, rfl⟩ := agg3 h'
      simp [orI, z0, l0, cmpO]
    | some p =>
      cases p with
      | num n =>
        obtain ⟨rfl, rfl, rfl⟩ := agg3 h'
        simp [orI, cmpZ, cmpO]
      | word l =>
        obtain ⟨rfl, rfl, rfl⟩ := agg3 h'
        simp [orI, cmpZ, cmpO]
  | some p =>
    cases p with
    | num n =>
      obtain ⟨rfl, rfl, rfl⟩ := agg3 h
      cases q with
      | none =>
        obtain ⟨rfl, rfl, rfl⟩ := agg3 h'
        simp [orI, cmpZ, cmpO]
      | some p =>
        cases p with
        | num m =>
          obtain ⟨rfl, rfl, rfl⟩ := agg3 h'
          rw [z0, key]
          simp only [orI, l0, cmpO, cmpPt]
          by_cases hh : cmpN n m = 0 <;> simp [hh]
        | word l =>
          obtain ⟨rfl, rfl, rfl⟩ := agg3 h'
          simp [orI, cmpZ, cmpO, cmpPt]
    | word l =>
      obtain ⟨rfl, rfl, rfl⟩ := agg3 h
      cases q with
      | none =>
        obtain ⟨rfl, rfl, rfl⟩ := agg3 h'
        simp [orI, cmpZ, cmpO]
      | some p =>
        cases p with
        | num m =>
          obtain ⟨rfl, rfl, rfl⟩ := agg3 h'
          simp [orI, cmpZ, cmpO, cmpPt]
        | word m =>
          obtain ⟨rfl, rfl, rfl⟩ := agg3 h'
          rw [z0, z0]
          simp [orI, cmpO, cmpPt]

theorem cmpO_zero {o q : Option Pt} : cmpO o q = 0 ↔ o = q := by
  cases o with
  | none =>
    cases q with
    | none => simp [cmpO]
    | some p => cases p <;> simp [cmpO]
  | some p =>
    cases q with
    | none => cases p <;> simp [cmpO]
    | some r => simp [cmpO, cmpPt_zero]

theorem cmpP_cons (x y : Pt) (a b : List Pt) : cmpP (x :: a) (y :: b) = if cmpPt x y = 0 then cmpP a b else cmpPt x y := by cases x <;> cases y <;> rfl

theorem cmpP_eq : ∀ (a b : List Pt) (i : Nat), cmpO a[i]? b[i]? = 0 → cmpP (a.drop i) (b.drop i) = cmpP (a.drop (i + 1)) (b.drop (i + 1))
  | [], [], i, h => by simp
  | [], y :: b, 0, h => by rw [cmpO_zero] at h; simp at h
  | x :: a, [], 0, h => by rw [cmpO_zero] at h; simp at h
  | x :: a, y :: b, 0, h => by
    have h' : cmpPt x y = 0 := by simpa [cmpO] using h
    show cmpP (x :: a) (y :: b) = cmpP a b
    rw [cmpP_cons, if_pos h']
  | [], y :: b, i + 1, h => by
    have := cmpP_eq [] b i (by simpa using h)
    simpa using this
  | x :: a, [], i + 1, h => by
    have := cmpP_eq a [] i (by simpa using h)
    simpa using this
  | x :: a, y :: b, i + 1, h => by
    have := cmpP_eq a b i (by simpa using h)
    simpa using this

theorem cmpP_ne : ∀ (a b : List Pt) (i : Nat), cmpO a[i]? b[i]? ≠ 0 → cmpP (a.drop i) (b.drop i) = cmpO a[i]? b[i]?
  | [], [], i, h => absurd (by simp [cmpO]) h
  | [], y :: b, 0, h => by cases y <;> rfl
  | x :: a, [], 0, h => by cases x <;> rfl
  | x :: a, y :: b, 0, h => by
    have h' : ¬ cmpPt x y = 0 := by simpa [cmpO] using h
    show cmpP (x :: a) (y :: b) = cmpPt x y
    rw [cmpP_cons, if_neg h']
  | [], y :: b, i + 1, h => by
    have := cmpP_ne [] b i (by simpa using h)
    simpa using this
  | x :: a, [], i + 1, h => by
    have := cmpP_ne a [] i (by simpa using h)
    simpa using this
  | x :: a, y :: b, i + 1, h => by
    have := cmpP_ne a b i (by simpa using h)
    simpa using this

end Go.Proofs.YtimcocmjmlejfaaGreatDoor.vr

namespace Go.Proofs.YtimcocmjmlejfaaGreatDoor.vr
open Go.ChangeShapes Go.WideShapes Go.ChangeAt Go.RowKit Go.Deep Go.Shelf
set_option linter.unusedVariables false
set_option linter.unusedSimpArgs false

theorem or_new (a b c : Int) (g : Nat) (w : World) (hg : g = w.heap.size) :
    Calls Tryz.prog 79 #[.slice (some ⟨g, 0, none⟩) 3 3] (w.alloc (.cells #[.int .i64 a, .int .i64 b, .int .i64 c] 3)) fun e w' => e = .returned (.int .i64 (orI a b c)) ∧ w' = w.alloc (.cells #[.int .i64 a, .int .i64 b, .int .i64 c] 3) := by
  subst hg
  obtain ⟨k0, k1, k2⟩ := three_lit w (.int .i64 a) (.int .i64 b) (.int .i64 c) 3
  exact or_any a b c _ _ k0 k1 k2

set_option maxHeartbeats 2000000 in
set_option maxRecDepth 100000 in
theorem pcompare_any (x y x' y' : Int) (z z' : ByteArray) (w : World) :
    Calls Tryz.prog 62 #[.agg #[.int .i64 x, .int .i64 y, .string z], .agg #[.int .i64 x', .int .i64 y', .string z']] w fun e w' => e = .returned (.int .i64 (orI (cmpZ x x') (cmpZ y y') (cmpL z.data.toList z'.data.toList))) ∧ Below w.heap.size w w' := by
  have HG : Hid (w.heap.size + 1 + 1 = ((w.alloc (.cells #[.int .i64 x, .int .i64 y, .string z] 100)).alloc (.cells #[.int .i64 x', .int .i64 y', .string z'] 100)).drew.heap.size) := by show _ = _; simp
  go_enter Tryz.func62, Tryz.ntmps62
  go_wp2_with fail
  go_region_held3 (fun w' => (w'.cell? ⟨w.heap.size, 0, none⟩ = some (.int .i64 x) ∧ w'.cell? ⟨w.heap.size, 1, none⟩ = some (.int .i64 y) ∧ w'.cell? ⟨w.heap.size, 2, none⟩ = some (.string z)) ∧ (w'.cell? ⟨w.heap.size + 1, 0, none⟩ = some (.int .i64 x') ∧ w'.cell? ⟨w.heap.size + 1, 1, none⟩ = some (.int .i64 y') ∧ w'.cell? ⟨w.heap.size + 1, 2, none⟩ = some (.string z')))
    (first | go_keep | (simp [go_sem]))
    (first
      | ((go_at_call 80; refine (compareI _ _ _).mono ?_; rintro e w1 ⟨rfl, hw1⟩; obtain rfl := hw1.symm; clear hw1))
      | ((go_at_call 81; refine (compareL _ _ _).mono ?_; rintro e w1 ⟨rfl, hw1⟩; obtain rfl := hw1.symm; clear hw1))
      | ((go_at_call 82; refine (compareS _ _ _).mono ?_; rintro e w1 ⟨rfl, hw1⟩; obtain rfl := hw1.symm; clear hw1))
      | ((go_at_call 79; refine (or_new (cmpZ x x') (cmpZ y y') (cmpL z.data.toList z'.data.toList) (w.heap.size + 1 + 1) ((w.alloc (.cells #[.int .i64 x, .int .i64 y, .string z] 100)).alloc (.cells #[.int .i64 x', .int .i64 y', .string z'] 100)).drew HG.out).mono ?_; rintro e w1 ⟨rfl, hw1⟩; obtain rfl := hw1.symm; clear hw1)))
  go_wp2_with fail
  go_ret
  exact ⟨rfl, ((((Below.refl _ _).alloc (Nat.le_refl _) _).alloc (by simp) _).drew).alloc (by simp; omega) _⟩

set_option maxHeartbeats 2000000 in
set_option maxRecDepth 100000 in
theorem vcompare_any (A B : List Pt) (va vb : Value) (w : World) (hA : RowI w va A) (hB : RowI w vb B) (hnA : A.length ≤ 100) (hnB : B.length ≤ 100) :
    Calls Tryz.prog 36 #[va, vb] w fun e w' => e = .returned (.int .i64 (cmpP A B)) ∧ Below w.heap.size w w' := by
  have HA : Hid (∀ (i : Nat) wr, i ≤ 1000 → Below w.heap.size w wr → Calls Tryz.prog 61 #[va, .int .i64 (i : Int)] wr fun e w' => e = .returned (optI A[i]?) ∧ Below wr.heap.size wr w') := fun i wr hi hb => part_any A i va wr (hA.below hb) (by omega) hi
  have HB : Hid (∀ (i : Nat) wr, i ≤ 1000 → Below w.heap.size w wr → Calls Tryz.prog 61 #[vb, .int .i64 (i : Int)] wr fun e w' => e = .returned (optI B[i]?) ∧ Below wr.heap.size wr w') := fun i wr hi hb => part_any B i vb wr (hB.below hb) (by omega) hi
  obtain ⟨a, cap, rfl, _, _⟩ := hA
  obtain ⟨b, cap', rfl, _, _⟩ := hB
  go_enter Tryz.func36, Tryz.ntmps36
  go_wp2
  go_loopw [5, 11] (fun _ r wr => ∃ i : Nat, r = .int .i64 (i : Int) ∧ (i : Int) ≤ max (A.length : Int) (B.length : Int) ∧ cmpP A B = cmpP (A.drop i) (B.drop i) ∧ Below w.heap.size w wr) (fun _ r _ => (max (A.length : Int) (B.length : Int)).toNat - (intOf r).toNat)
  case atStart => exact ⟨0, rfl, by omega, by simp, Below.refl _ _⟩
  case round =>
    obtain ⟨i, rfl, hi, hcm, hbel⟩ := hrel
    have hsz := hbel.size
    have HC : Hid (cmpP A B = cmpP (A.drop i) (B.drop i)) := hcm
    clear hcm
    by_cases hlt : (i : Int) < max (A.length : Int) (B.length : Int)
    · obtain ⟨x, y, z, hx⟩ := optI_form A[i]?
      obtain ⟨x', y', z', hx'⟩ := optI_form B[i]?
      have PA : Hid (∀ wr, Below w.heap.size w wr → Calls Tryz.prog 61 #[.slice a A.length cap, .int .i64 (i : Int)] wr fun e w' => e = .returned (.agg #[.int .i64 x, .int .i64 y, .string z]) ∧ Below wr.heap.size wr w') := fun wr hb => by have := HA.out i wr (by omega) hb; rwa [hx] at this
      have PB : Hid (∀ wr, Below w.heap.size w wr → Calls Tryz.prog 61 #[.slice b B.length cap', .int .i64 (i : Int)] wr fun e w' => e = .returned (.agg #[.int .i64 x', .int .i64 y', .string z']) ∧ Below wr.heap.size wr w') := fun wr hb => by have := HB.out i wr (by omega) hb; rwa [hx'] at this
      have HOR := optI_or hx hx'
      have F1 : Hid True := trivial
      have F2 : Hid True := trivial
      have F3 : Hid True := trivial
      have F4 : Hid True := trivial
      by_cases hq : A[i]? = B[i]?
      · rw [hq] at hx
        obtain ⟨rfl, rfl, rfl⟩ := agg3 (hx.symm.trans hx')
        have HE : Hid (cmpP (A.drop i) (B.drop i) = cmpP (A.drop (i + 1)) (B.drop (i + 1))) := cmpP_eq A B i (cmpO_zero.2 hq)
        clear hx hx' HOR hq
        go_wp2_with (first
          | (go_at_call 61; have := F1.out; refine (PA.out _ hbel).mono ?_; rintro e w1 ⟨rfl, hl1⟩; have hb1 := hbel.trans (hl1.mono hsz); clear F1)
          | (go_at_call 61; have := F2.out; refine (PB.out _ hb1).mono ?_; rintro e w2 ⟨rfl, hl2⟩; have hb2 := hb1.trans (hl2.mono hb1.size); clear F2))
        go_roundw
        case rel => exact ⟨i + 1, by go_num, by omega, by rw [HC.out, HE.out], hb2⟩
        case measure => simp [intOf]; omega
      · have HE : Hid (cmpP A B = orI (cmpZ x x') (cmpZ y y') (cmpL z.data.toList z'.data.toList)) := by show _ = _; rw [HC.out, HOR]; exact cmpP_ne A B i (fun h => hq (cmpO_zero.1 h))
        have hne : ¬ (x = x' ∧ y = y' ∧ z = z') := by
          rintro ⟨rfl, rfl, rfl⟩
          have z0 : ∀ a, cmpZ a a = 0 := by intro a; unfold cmpZ; rw [if_neg (by omega), if_neg (by omega)]
          rw [z0, z0, cmpL_zero.2 rfl] at HOR
          exact hq (cmpO_zero.1 HOR.symm)
        clear hx hx' HOR hq
        go_wp2_with (first
          | (go_at_call 61; have := F1.out; refine (PA.out _ hbel).mono ?_; rintro e w1 ⟨rfl, hl1⟩; have hb1 := hbel.trans (hl1.mono hsz); clear F1)
          | (go_at_call 61; have := F2.out; refine (PB.out _ hb1).mono ?_; rintro e w2 ⟨rfl, hl2⟩; have hb2 := hb1.trans (hl2.mono hb1.size); clear F2)
          | (go_at_call 61; have := F3.out; refine (PA.out _ hb2).mono ?_; rintro e w3 ⟨rfl, hl3⟩; have hb3 := hb2.trans (hl3.mono hb2.size); clear F3)
          | (go_at_call 61; have := F4.out; refine (PB.out _ hb3).mono ?_; rintro e w4 ⟨rfl, hl4⟩; have hb4 := hb3.trans (hl4.mono hb3.size); clear F4)
          | (go_at_call 62; refine (pcompare_any _ _ _ _ _ _ _).mono ?_; rintro e w5 ⟨rfl, hl5⟩; have hb5 := hb4.trans (hl5.mono hb4.size)))
        all_goals first
          | (subst_vars; go_ret; exact ⟨ret_int HE.out.symm, hb5⟩)
          | (exfalso; rename_i h1 h2 h3; exact hne ⟨h1, h2, by apply ByteArray.ext; rw [ByteArray.toList_eq, ByteArray.toList_eq] at h3; exact Array.toList_inj.1 h3⟩)
    · go_wp2
      go_ret
      refine ⟨ret_int ?_, hbel⟩
      rw [HC.out, List.drop_eq_nil_of_le (by omega), List.drop_eq_nil_of_le (by omega)]
      rfl

end Go.Proofs.YtimcocmjmlejfaaGreatDoor.vr

namespace Go.Proofs.YtimcocmjmlejfaaGreatDoor.vr
open Go.ChangeShapes Go.WideShapes Go.ChangeAt Go.RowKit Go.Deep Go.Shelf
set_option linter.unusedVariables false
set_option linter.unusedSimpArgs false

def Full (ps : List Pt) : Prop := ∀ p ∈ ps, ∀ l, p = .word l → l ≠ []

theorem prts_full (l : List UInt8) : ∀ ps, prts l = some ps → Full ps := by
  induction h : l.length using Nat.strongRecOn generalizing l with
  | ind n ih =>
    intro ps hp
    cases l with
    | nil => rw [prts_nil] at hp; cases hp; intro p hp; simp at hp
    | cons c r =>
      rw [prts] at hp
      split at hp
      · split at hp
        · cases hp
        · obtain ⟨qs, hq, rfl⟩ := Option.map_eq_some_iff.1 hp
          have hlt : (r.dropWhile dig).length < n := by have := (List.dropWhile_sublist (l := r) dig).length_le; simp at h; omega
          have := ih _ hlt (r.dropWhile dig) rfl qs hq
          intro p hp l hl
          rcases List.mem_cons.1 hp with rfl | hp
          · cases hl
          · exact this p hp l hl
      · split at hp
        · obtain ⟨qs, hq, rfl⟩ := Option.map_eq_some_iff.1 hp
          have hlt : (r.dropWhile ltr).length < n := by have := (List.dropWhile_sublist (l := r) ltr).length_le; simp at h; omega
          have := ih _ hlt (r.dropWhile ltr) rfl qs hq
          intro p hp l hl
          rcases List.mem_cons.1 hp with rfl | hp
          · cases hl; simp
          · exact this p hp l hl
        · split at hp
          · exact ih _ (by simp at h; omega) r rfl ps hp
          · cases hp

theorem ver_full {l : List UInt8} {ps : List Pt} (h : ver l = some ps) : Full ps := prts_full l ps (ver_short h).2

theorem prts_len (l : List UInt8) : ∀ ps, prts l = some ps → ps.length ≤ l.length := by
  induction h : l.length using Nat.strongRecOn generalizing l with
  | ind n ih =>
    intro ps hp
    cases l with
    | nil => rw [prts_nil] at hp; cases hp; simp
    | cons c r =>
      rw [prts] at hp
      split at hp
      · split at hp
        · cases hp
        · obtain ⟨qs, hq, rfl⟩ := Option.map_eq_some_iff.1 hp
          have h0 := (List.dropWhile_sublist (l := r) dig).length_le
          have := ih _ (by simp at h; omega) (r.dropWhile dig) rfl qs hq
          simp at h ⊢; omega
      · split at hp
        · obtain ⟨qs, hq, rfl⟩ := Option.map_eq_some_iff.1 hp
          have h0 := (List.dropWhile_sublist (l := r) ltr).length_le
          have := ih _ (by simp at h; omega) (r.dropWhile ltr) rfl qs hq
          simp at h ⊢; omega
        · split at hp
          · have := ih _ (by simp at h; omega) r rfl ps hp
            simp at h; omega
          · cases hp

theorem ver_len {l : List UInt8} {ps : List Pt} (h : ver l = some ps) : ps.length ≤ 30 := by
  have h1 := ver_short h
  have := prts_len l ps h1.2
  omega

def rankO : Option Pt → Int
  | none => 1
  | some (.word _) => 0
  | some (.num _) => 2

theorem at_P {w : World} {bb : Nat} {ps : List Pt} (hc : ∀ k p j u, ps[k]? = some p → (ptSc p)[j]? = some u → w.cell? ⟨bb, k * 2 + j, none⟩ = some u) :
    (∀ k l, ps[k]? = some (.word l) → w.cell? ⟨bb, k * 2, none⟩ = some (.string ⟨l.toArray⟩)) ∧ (∀ k (n : Nat), ps[k]? = some (.num n) → w.cell? ⟨bb, k * 2, none⟩ = some (.string ⟨#[]⟩) ∧ w.cell? ⟨bb, k * 2 + 1, none⟩ = some (.int .i64 (n : Int))) :=
  ⟨fun k l h => hc k _ 0 _ h rfl, fun k n h => ⟨hc k _ 0 _ h rfl, hc k _ 1 _ h rfl⟩⟩

set_option maxHeartbeats 1000000 in
set_option maxRecDepth 100000 in
theorem rank_any (ps : List Pt) (i : Nat) (v : Value) (w : World) (hR : RowP w v ps) (hF : Full ps) (hn : ps.length ≤ 1000) (hi : i ≤ 1000) :
    Calls Tryz.prog 73 #[v, .int .i64 (i : Int)] w fun e w' => e = .returned (.int .i64 (rankO ps[i]?)) ∧ w' = w := by
  obtain ⟨a, cap, rfl, hcap, hc⟩ := hR
  by_cases h : i < ps.length
  · have h' : (i : Int) < (ps.length : Int) := by omega
    rcases hc with rfl | ⟨bb, rfl, hc⟩
    · simp at h
    obtain ⟨p, hp⟩ : ∃ p, ps[i]? = some p := ⟨_, List.getElem?_eq_getElem h⟩
    obtain ⟨q1, q2⟩ := at_P hc
    cases p with
    | num n =>
      obtain ⟨c0, c1⟩ := q2 i n hp
      rw [hp]
      clear q1 q2 hc hp
      go_enter Tryz.func73, Tryz.ntmps73
      go_wp2
      go_ret
      exact ⟨rfl, rfl⟩
    | word l =>
      have c0 := q1 i l hp
      have hl : l ≠ [] := hF (.word l) (List.mem_of_getElem? hp) l rfl
      have he : (⟨l.toArray⟩ : ByteArray).toList.isEmpty = false := by rw [ByteArray.toList_eq]; simp [hl]
      rw [hp]
      clear q1 q2 hc hp
      generalize (⟨l.toArray⟩ : ByteArray) = L at *
      go_enter Tryz.func73, Tryz.ntmps73
      go_wp2
      go_ret
      exact ⟨rfl, rfl⟩
  · have h' : ¬ (i : Int) < (ps.length : Int) := by omega
    rw [List.getElem?_eq_none (by omega)]
    go_enter Tryz.func73, Tryz.ntmps73
    go_wp2
    go_ret
    exact ⟨rfl, rfl⟩

theorem dr2 (w : World) (n a : Nat) : ∃ m, (w.drewN n).drewN a = w.drewN m := ⟨n + a, by simp⟩
theorem dr3 (w : World) (n a b : Nat) : ∃ m, ((w.drewN n).drewN a).drewN b = w.drewN m := ⟨n + a + b, by simp [Nat.add_assoc]⟩

theorem RowP.drew {w : World} {v : Value} {ps : List Pt} (h : RowP w v ps) (n : Nat) : RowP (w.drewN n) v ps := RowC.below h (Go.below_drewN (Below.refl _ _) n)

set_option maxHeartbeats 4000000 in
set_option maxRecDepth 100000 in
theorem scompare_any (A B : List Pt) (va vb : Value) (w : World) (hA : RowP w va A) (hB : RowP w vb B) (fA : Full A) (fB : Full B) (hnA : A.length ≤ 100) (hnB : B.length ≤ 100) :
    Calls Tryz.prog 53 #[va, vb] w fun e w' => e = .returned (.int .i64 (cmpP A B)) ∧ ∃ n, w' = w.drewN n := by
  have HA : Hid (∀ (i n : Nat), i ≤ 1000 → Calls Tryz.prog 73 #[va, .int .i64 (i : Int)] (w.drewN n) fun e w' => e = .returned (.int .i64 (rankO A[i]?)) ∧ w' = w.drewN n) := fun i n hi => rank_any A i va _ (hA.drew n) fA (by omega) hi
  have HB : Hid (∀ (i n : Nat), i ≤ 1000 → Calls Tryz.prog 73 #[vb, .int .i64 (i : Int)] (w.drewN n) fun e w' => e = .returned (.int .i64 (rankO B[i]?)) ∧ w' = w.drewN n) := fun i n hi => rank_any B i vb _ (hB.drew n) fB (by omega) hi
  obtain ⟨a, cap, rfl, _, hca⟩ := hA
  obtain ⟨b, cap', rfl, _, hcb⟩ := hB
  have HCA : Hid (A = [] ∨ ∃ bb, a = some ⟨bb, 0, none⟩ ∧ (∀ k l, A[k]? = some (.word l) → w.cell? ⟨bb, k * 2, none⟩ = some (.string ⟨l.toArray⟩)) ∧ (∀ k (n : Nat), A[k]? = some (.num n) → w.cell? ⟨bb, k * 2, none⟩ = some (.string ⟨#[]⟩) ∧ w.cell? ⟨bb, k * 2 + 1, none⟩ = some (.int .i64 (n : Int)))) := by
    rcases hca with h | ⟨bb, h1, h2⟩
    · exact .inl h
    · exact .inr ⟨bb, h1, at_P h2⟩
  have HCB : Hid (B = [] ∨ ∃ bb, b = some ⟨bb, 0, none⟩ ∧ (∀ k l, B[k]? = some (.word l) → w.cell? ⟨bb, k * 2, none⟩ = some (.string ⟨l.toArray⟩)) ∧ (∀ k (n : Nat), B[k]? = some (.num n) → w.cell? ⟨bb, k * 2, none⟩ = some (.string ⟨#[]⟩) ∧ w.cell? ⟨bb, k * 2 + 1, none⟩ = some (.int .i64 (n : Int)))) := by
    rcases hcb with h | ⟨bb, h1, h2⟩
    · exact .inl h
    · exact .inr ⟨bb, h1, at_P h2⟩
  clear hca hcb fA fB
  go_enter Tryz.func53, Tryz.ntmps53
  go_wp2
  go_loopw [5, 6, 7] (fun r _ _ wr => ∃ i : Nat, r = .int .i64 (i : Int) ∧ (i : Int) ≤ max (A.length : Int) (B.length : Int) ∧ cmpP A B = cmpP (A.drop i) (B.drop i) ∧ ∃ n, wr = w.drewN n) (fun r _ _ _ => (max (A.length : Int) (B.length : Int)).toNat - (intOf r).toNat)
  case atStart => exact ⟨0, rfl, by omega, by simp, 0, rfl⟩
  case round =>
    obtain ⟨i, rfl, hi, hcm, n, rfl⟩ := hrel
    have HC : Hid (cmpP A B = cmpP (A.drop i) (B.drop i)) := hcm
    clear hcm
    by_cases hlt : (i : Int) < max (A.length : Int) (B.length : Int)
    · have F1 : Hid True := trivial
      have F2 : Hid True := trivial
      have HEQ := cmpP_eq A B i
      have HNE := cmpP_ne A B i
      cases hpa : A[i]? with
      | none =>
        cases hpb : B[i]? with
        | none =>
          have hlA : ¬ (i : Int) < (A.length : Int) := by rw [List.getElem?_eq_none_iff] at hpa; omega
          have hlB : ¬ (i : Int) < (B.length : Int) := by rw [List.getElem?_eq_none_iff] at hpb; omega
          omega
        | some q =>
          cases q with
          | word lb =>
            have hlA : ¬ (i : Int) < (A.length : Int) := by rw [List.getElem?_eq_none_iff] at hpa; omega
            have hlB : (i : Int) < (B.length : Int) := by have := (List.getElem?_eq_some_iff.1 hpb).1; omega
            have PA : Hid (∀ n, Calls Tryz.prog 73 #[.slice a A.length cap, .int .i64 (i : Int)] (w.drewN n) fun e w' => e = .returned (.int .i64 1) ∧ w' = w.drewN n) := fun n => by have := HA.out i n (by omega); rwa [hpa] at this
            have PB : Hid (∀ n, Calls Tryz.prog 73 #[.slice b B.length cap', .int .i64 (i : Int)] (w.drewN n) fun e w' => e = .returned (.int .i64 0) ∧ w' = w.drewN n) := fun n => by have := HB.out i n (by omega); rwa [hpb] at this
            have HCM : cmpO none (some (.word lb)) = 1 := rfl
            have HE : Hid (cmpP A B = 1) := by show _ = _; rw [HC.out, HNE (by rw [hpa, hpb, HCM]; decide), hpa, hpb, HCM]
            clear HEQ HNE hpa hpb HCM HCA HCB
            go_wp2_with (first
              | (go_at_call 73; have := F1.out; refine (PA.out _).mono ?_; rintro e w1 ⟨rfl, hw1⟩; obtain rfl := hw1.symm; clear hw1 F1)
              | (go_at_call 73; have := F2.out; refine (PB.out _).mono ?_; rintro e w1 ⟨rfl, hw1⟩; obtain rfl := hw1.symm; clear hw1 F2))
            go_quiet (fail)
            go_wp2
            go_quiet (fail)
            go_wp2
            go_ret
            exact ⟨ret_int HE.out.symm, by first | exact dr2 _ _ _ | exact dr3 _ _ _ _ | exact ⟨_, rfl⟩⟩
          | num nb =>
            have hlA : ¬ (i : Int) < (A.length : Int) := by rw [List.getElem?_eq_none_iff] at hpa; omega
            have hlB : (i : Int) < (B.length : Int) := by have := (List.getElem?_eq_some_iff.1 hpb).1; omega
            have PA : Hid (∀ n, Calls Tryz.prog 73 #[.slice a A.length cap, .int .i64 (i : Int)] (w.drewN n) fun e w' => e = .returned (.int .i64 1) ∧ w' = w.drewN n) := fun n => by have := HA.out i n (by omega); rwa [hpa] at this
            have PB : Hid (∀ n, Calls Tryz.prog 73 #[.slice b B.length cap', .int .i64 (i : Int)] (w.drewN n) fun e w' => e = .returned (.int .i64 2) ∧ w' = w.drewN n) := fun n => by have := HB.out i n (by omega); rwa [hpb] at this
            have HCM : cmpO none (some (.num nb)) = (-1) := rfl
            have HE : Hid (cmpP A B = (-1)) := by show _ = _; rw [HC.out, HNE (by rw [hpa, hpb, HCM]; decide), hpa, hpb, HCM]
            clear HEQ HNE hpa hpb HCM HCA HCB
            go_wp2_with (first
              | (go_at_call 73; have := F1.out; refine (PA.out _).mono ?_; rintro e w1 ⟨rfl, hw1⟩; obtain rfl := hw1.symm; clear hw1 F1)
              | (go_at_call 73; have := F2.out; refine (PB.out _).mono ?_; rintro e w1 ⟨rfl, hw1⟩; obtain rfl := hw1.symm; clear hw1 F2))
            go_quiet (fail)
            go_wp2
            go_ret
            exact ⟨ret_int HE.out.symm, by first | exact dr2 _ _ _ | exact dr3 _ _ _ _ | exact ⟨_, rfl⟩⟩
      | some p =>
        cases p with
        | word la =>
          cases hpb : B[i]? with
          | none =>
            have hlA : (i : Int) < (A.length : Int) := by have := (List.getElem?_eq_some_iff.1 hpa).1; omega
            have hlB : ¬ (i : Int) < (B.length : Int) := by rw [List.getElem?_eq_none_iff] at hpb; omega
            have PA : Hid (∀ n, Calls Tryz.prog 73 #[.slice a A.length cap, .int .i64 (i : Int)] (w.drewN n) fun e w' => e = .returned (.int .i64 0) ∧ w' = w.drewN n) := fun n => by have := HA.out i n (by omega); rwa [hpa] at this
            have PB : Hid (∀ n, Calls Tryz.prog 73 #[.slice b B.length cap', .int .i64 (i : Int)] (w.drewN n) fun e w' => e = .returned (.int .i64 1) ∧ w' = w.drewN n) := fun n => by have := HB.out i n (by omega); rwa [hpb] at this
            have HCM : cmpO (some (.word la)) none = (-1) := rfl
            have HE : Hid (cmpP A B = (-1)) := by show _ = _; rw [HC.out, HNE (by rw [hpa, hpb, HCM]; decide), hpa, hpb, HCM]
            clear HEQ HNE hpa hpb HCM HCA HCB
            go_wp2_with (first
              | (go_at_call 73; have := F1.out; refine (PA.out _).mono ?_; rintro e w1 ⟨rfl, hw1⟩; obtain rfl := hw1.symm; clear hw1 F1)
              | (go_at_call 73; have := F2.out; refine (PB.out _).mono ?_; rintro e w1 ⟨rfl, hw1⟩; obtain rfl := hw1.symm; clear hw1 F2))
            go_quiet (fail)
            go_wp2
            go_ret
            exact ⟨ret_int HE.out.symm, by first | exact dr2 _ _ _ | exact dr3 _ _ _ _ | exact ⟨_, rfl⟩⟩
          | some q =>
            cases q with
            | word lb =>
              have hlA : (i : Int) < (A.length : Int) := by have := (List.getElem?_eq_some_iff.1 hpa).1; omega
              have hlB : (i : Int) < (B.length : Int) := by have := (List.getElem?_eq_some_iff.1 hpb).1; omega
              have PA : Hid (∀ n, Calls Tryz.prog 73 #[.slice a A.length cap, .int .i64 (i : Int)] (w.drewN n) fun e w' => e = .returned (.int .i64 0) ∧ w' = w.drewN n) := fun n => by have := HA.out i n (by omega); rwa [hpa] at this
              have PB : Hid (∀ n, Calls Tryz.prog 73 #[.slice b B.length cap', .int .i64 (i : Int)] (w.drewN n) fun e w' => e = .returned (.int .i64 0) ∧ w' = w.drewN n) := fun n => by have := HB.out i n (by omega); rwa [hpb] at this
              rcases HCA.out with h0 | ⟨bA, rfl, qwA, qnA⟩
              · rw [h0] at hpa; simp at hpa
              rcases HCB.out with h0 | ⟨bB, rfl, qwB, qnB⟩
              · rw [h0] at hpb; simp at hpb
              have cA := qwA i la hpa
              have cB := qwB i lb hpb
              have HLA : Hid ((⟨la.toArray⟩ : ByteArray).data.toList = la) := by show _ = _; simp
              have HLB : Hid ((⟨lb.toArray⟩ : ByteArray).data.toList = lb) := by show _ = _; simp
              clear qwA qnA qwB qnB HCA HCB
              by_cases hl1 : la < lb
              · have HCM : cmpO (some (.word la)) (some (.word lb)) = -1 := if_pos hl1
                have HE : Hid (cmpP A B = (-1)) := by show _ = _; rw [HC.out, HNE (by rw [hpa, hpb, HCM]; decide), hpa, hpb, HCM]
                have hb1 : Op.bytesLess (⟨la.toArray⟩ : ByteArray).toList (⟨lb.toArray⟩ : ByteArray).toList = true := by rw [bl, HLA.out, HLB.out]; exact decide_eq_true hl1
                clear HEQ HNE hpa hpb HCM hl1 HLA HLB
                generalize (⟨la.toArray⟩ : ByteArray) = SA at *
                generalize (⟨lb.toArray⟩ : ByteArray) = SB at *
                go_wp2_with (first
                  | (go_at_call 73; have := F1.out; refine (PA.out _).mono ?_; rintro e w1 ⟨rfl, hw1⟩; obtain rfl := hw1.symm; clear hw1 F1)
                  | (go_at_call 73; have := F2.out; refine (PB.out _).mono ?_; rintro e w1 ⟨rfl, hw1⟩; obtain rfl := hw1.symm; clear hw1 F2))
                go_quiet (fail)
                go_wp2
                go_ret
                exact ⟨ret_int HE.out.symm, by first | exact dr2 _ _ _ | exact dr3 _ _ _ _ | exact ⟨_, rfl⟩⟩
              · have hb1 : Op.bytesLess (⟨la.toArray⟩ : ByteArray).toList (⟨lb.toArray⟩ : ByteArray).toList = false := by rw [bl, HLA.out, HLB.out]; exact decide_eq_false hl1
                by_cases hl2 : lb < la
                · have HCM : cmpO (some (.word la)) (some (.word lb)) = 1 := (if_neg hl1).trans (if_pos hl2)
                  have HE : Hid (cmpP A B = 1) := by show _ = _; rw [HC.out, HNE (by rw [hpa, hpb, HCM]; decide), hpa, hpb, HCM]
                  have hb2 : ((⟨la.toArray⟩ : ByteArray).toList == (⟨lb.toArray⟩ : ByteArray).toList) = false := by rw [beq_eq_false_iff_ne, ByteArray.toList_eq, ByteArray.toList_eq, HLA.out, HLB.out]; intro e; rw [e] at hl2; exact List.lt_irrefl _ hl2
                  clear HEQ HNE hpa hpb HCM hl1 hl2 HLA HLB
                  generalize (⟨la.toArray⟩ : ByteArray) = SA at *
                  generalize (⟨lb.toArray⟩ : ByteArray) = SB at *
                  go_wp2_with (first
                    | (go_at_call 73; have := F1.out; refine (PA.out _).mono ?_; rintro e w1 ⟨rfl, hw1⟩; obtain rfl := hw1.symm; clear hw1 F1)
                    | (go_at_call 73; have := F2.out; refine (PB.out _).mono ?_; rintro e w1 ⟨rfl, hw1⟩; obtain rfl := hw1.symm; clear hw1 F2))
                  go_quiet (fail)
                  go_wp2
                  go_quiet (fail)
                  go_wp2
                  go_ret
                  exact ⟨ret_int HE.out.symm, by first | exact dr2 _ _ _ | exact dr3 _ _ _ _ | exact ⟨_, rfl⟩⟩
                · obtain rfl := ll_total hl1 hl2
                  have HCM : cmpO (some (.word la)) (some (.word la)) = 0 := (if_neg hl1).trans (if_neg hl2)
                  have HE : Hid (cmpP (A.drop i) (B.drop i) = cmpP (A.drop (i + 1)) (B.drop (i + 1))) := HEQ (by rw [hpa, hpb]; exact HCM)
                  have hb2 : ((⟨la.toArray⟩ : ByteArray).toList == (⟨la.toArray⟩ : ByteArray).toList) = true := beq_self_eq_true _
                  clear HEQ HNE hpa hpb HCM hl1 hl2 HLA HLB
                  generalize (⟨la.toArray⟩ : ByteArray) = SA at *
                  go_wp2_with (first
                    | (go_at_call 73; have := F1.out; refine (PA.out _).mono ?_; rintro e w1 ⟨rfl, hw1⟩; obtain rfl := hw1.symm; clear hw1 F1)
                    | (go_at_call 73; have := F2.out; refine (PB.out _).mono ?_; rintro e w1 ⟨rfl, hw1⟩; obtain rfl := hw1.symm; clear hw1 F2))
                  go_quiet (fail)
                  go_wp2
                  go_quiet (fail)
                  go_wp2
                  go_roundw
                  case rel => exact ⟨i + 1, by go_num, by omega, by rw [HC.out, HE.out], by first | exact dr2 _ _ _ | exact dr3 _ _ _ _ | exact ⟨_, rfl⟩⟩
                  case measure => simp [intOf]; omega
            | num nb =>
              have hlA : (i : Int) < (A.length : Int) := by have := (List.getElem?_eq_some_iff.1 hpa).1; omega
              have hlB : (i : Int) < (B.length : Int) := by have := (List.getElem?_eq_some_iff.1 hpb).1; omega
              have PA : Hid (∀ n, Calls Tryz.prog 73 #[.slice a A.length cap, .int .i64 (i : Int)] (w.drewN n) fun e w' => e = .returned (.int .i64 0) ∧ w' = w.drewN n) := fun n => by have := HA.out i n (by omega); rwa [hpa] at this
              have PB : Hid (∀ n, Calls Tryz.prog 73 #[.slice b B.length cap', .int .i64 (i : Int)] (w.drewN n) fun e w' => e = .returned (.int .i64 2) ∧ w' = w.drewN n) := fun n => by have := HB.out i n (by omega); rwa [hpb] at this
              have HCM : cmpO (some (.word la)) (some (.num nb)) = (-1) := rfl
              have HE : Hid (cmpP A B = (-1)) := by show _ = _; rw [HC.out, HNE (by rw [hpa, hpb, HCM]; decide), hpa, hpb, HCM]
              clear HEQ HNE hpa hpb HCM HCA HCB
              go_wp2_with (first
                | (go_at_call 73; have := F1.out; refine (PA.out _).mono ?_; rintro e w1 ⟨rfl, hw1⟩; obtain rfl := hw1.symm; clear hw1 F1)
                | (go_at_call 73; have := F2.out; refine (PB.out _).mono ?_; rintro e w1 ⟨rfl, hw1⟩; obtain rfl := hw1.symm; clear hw1 F2))
              go_quiet (fail)
              go_wp2
              go_ret
              exact ⟨ret_int HE.out.symm, by first | exact dr2 _ _ _ | exact dr3 _ _ _ _ | exact ⟨_, rfl⟩⟩
        | num na =>
          cases hpb : B[i]? with
          | none =>
            have hlA : (i : Int) < (A.length : Int) := by have := (List.getElem?_eq_some_iff.1 hpa).1; omega
            have hlB : ¬ (i : Int) < (B.length : Int) := by rw [List.getElem?_eq_none_iff] at hpb; omega
            have PA : Hid (∀ n, Calls Tryz.prog 73 #[.slice a A.length cap, .int .i64 (i : Int)] (w.drewN n) fun e w' => e = .returned (.int .i64 2) ∧ w' = w.drewN n) := fun n => by have := HA.out i n (by omega); rwa [hpa] at this
            have PB : Hid (∀ n, Calls Tryz.prog 73 #[.slice b B.length cap', .int .i64 (i : Int)] (w.drewN n) fun e w' => e = .returned (.int .i64 1) ∧ w' = w.drewN n) := fun n => by have := HB.out i n (by omega); rwa [hpb] at this
            have HCM : cmpO (some (.num na)) none = 1 := rfl
            have HE : Hid (cmpP A B = 1) := by show _ = _; rw [HC.out, HNE (by rw [hpa, hpb, HCM]; decide), hpa, hpb, HCM]
            clear HEQ HNE hpa hpb HCM HCA HCB
            go_wp2_with (first
              | (go_at_call 73; have := F1.out; refine (PA.out _).mono ?_; rintro e w1 ⟨rfl, hw1⟩; obtain rfl := hw1.symm; clear hw1 F1)
              | (go_at_call 73; have := F2.out; refine (PB.out _).mono ?_; rintro e w1 ⟨rfl, hw1⟩; obtain rfl := hw1.symm; clear hw1 F2))
            go_quiet (fail)
            go_wp2
            go_quiet (fail)
            go_wp2
            go_ret
            exact ⟨ret_int HE.out.symm, by first | exact dr2 _ _ _ | exact dr3 _ _ _ _ | exact ⟨_, rfl⟩⟩
          | some q =>
            cases q with
            | word lb =>
              have hlA : (i : Int) < (A.length : Int) := by have := (List.getElem?_eq_some_iff.1 hpa).1; omega
              have hlB : (i : Int) < (B.length : Int) := by have := (List.getElem?_eq_some_iff.1 hpb).1; omega
              have PA : Hid (∀ n, Calls Tryz.prog 73 #[.slice a A.length cap, .int .i64 (i : Int)] (w.drewN n) fun e w' => e = .returned (.int .i64 2) ∧ w' = w.drewN n) := fun n => by have := HA.out i n (by omega); rwa [hpa] at this
              have PB : Hid (∀ n, Calls Tryz.prog 73 #[.slice b B.length cap', .int .i64 (i : Int)] (w.drewN n) fun e w' => e = .returned (.int .i64 0) ∧ w' = w.drewN n) := fun n => by have := HB.out i n (by omega); rwa [hpb] at this
              have HCM : cmpO (some (.num na)) (some (.word lb)) = 1 := rfl
              have HE : Hid (cmpP A B = 1) := by show _ = _; rw [HC.out, HNE (by rw [hpa, hpb, HCM]; decide), hpa, hpb, HCM]
              clear HEQ HNE hpa hpb HCM HCA HCB
              go_wp2_with (first
                | (go_at_call 73; have := F1.out; refine (PA.out _).mono ?_; rintro e w1 ⟨rfl, hw1⟩; obtain rfl := hw1.symm; clear hw1 F1)
                | (go_at_call 73; have := F2.out; refine (PB.out _).mono ?_; rintro e w1 ⟨rfl, hw1⟩; obtain rfl := hw1.symm; clear hw1 F2))
              go_quiet (fail)
              go_wp2
              go_quiet (fail)
              go_wp2
              go_ret
              exact ⟨ret_int HE.out.symm, by first | exact dr2 _ _ _ | exact dr3 _ _ _ _ | exact ⟨_, rfl⟩⟩
            | num nb =>
              have hlA : (i : Int) < (A.length : Int) := by have := (List.getElem?_eq_some_iff.1 hpa).1; omega
              have hlB : (i : Int) < (B.length : Int) := by have := (List.getElem?_eq_some_iff.1 hpb).1; omega
              have PA : Hid (∀ n, Calls Tryz.prog 73 #[.slice a A.length cap, .int .i64 (i : Int)] (w.drewN n) fun e w' => e = .returned (.int .i64 2) ∧ w' = w.drewN n) := fun n => by have := HA.out i n (by omega); rwa [hpa] at this
              have PB : Hid (∀ n, Calls Tryz.prog 73 #[.slice b B.length cap', .int .i64 (i : Int)] (w.drewN n) fun e w' => e = .returned (.int .i64 2) ∧ w' = w.drewN n) := fun n => by have := HB.out i n (by omega); rwa [hpb] at this
              rcases HCA.out with h0 | ⟨bA, rfl, qwA, qnA⟩
              · rw [h0] at hpa; simp at hpa
              rcases HCB.out with h0 | ⟨bB, rfl, qwB, qnB⟩
              · rw [h0] at hpb; simp at hpb
              have cA := (qnA i na hpa).2
              have cB := (qnB i nb hpb).2
              clear qwA qnA qwB qnB HCA HCB
              by_cases hl1 : na < nb
              · have HCM : cmpO (some (.num na)) (some (.num nb)) = -1 := if_pos hl1
                have HE : Hid (cmpP A B = (-1)) := by show _ = _; rw [HC.out, HNE (by rw [hpa, hpb, HCM]; decide), hpa, hpb, HCM]
                have hd1 : decide ((na : Int) < (nb : Int)) = true := decide_eq_true (by omega)
                clear HEQ HNE hpa hpb HCM
                go_wp2_with (first
                  | (go_at_call 73; have := F1.out; refine (PA.out _).mono ?_; rintro e w1 ⟨rfl, hw1⟩; obtain rfl := hw1.symm; clear hw1 F1)
                  | (go_at_call 73; have := F2.out; refine (PB.out _).mono ?_; rintro e w1 ⟨rfl, hw1⟩; obtain rfl := hw1.symm; clear hw1 F2))
                go_quiet (fail)
                go_wp2
                go_ret
                exact ⟨ret_int HE.out.symm, by first | exact dr2 _ _ _ | exact dr3 _ _ _ _ | exact ⟨_, rfl⟩⟩
              · have hd1 : decide ((na : Int) < (nb : Int)) = false := decide_eq_false (by omega)
                by_cases hl2 : nb < na
                · have HCM : cmpO (some (.num na)) (some (.num nb)) = 1 := (if_neg hl1).trans (if_pos hl2)
                  have HE : Hid (cmpP A B = 1) := by show _ = _; rw [HC.out, HNE (by rw [hpa, hpb, HCM]; decide), hpa, hpb, HCM]
                  have hd2 : decide ((nb : Int) < (na : Int)) = true := decide_eq_true (by omega)
                  clear HEQ HNE hpa hpb HCM
                  go_wp2_with (first
                    | (go_at_call 73; have := F1.out; refine (PA.out _).mono ?_; rintro e w1 ⟨rfl, hw1⟩; obtain rfl := hw1.symm; clear hw1 F1)
                    | (go_at_call 73; have := F2.out; refine (PB.out _).mono ?_; rintro e w1 ⟨rfl, hw1⟩; obtain rfl := hw1.symm; clear hw1 F2))
                  go_quiet (fail)
                  go_wp2
                  go_quiet (fail)
                  go_wp2
                  go_ret
                  exact ⟨ret_int HE.out.symm, by first | exact dr2 _ _ _ | exact dr3 _ _ _ _ | exact ⟨_, rfl⟩⟩
                · have HCM : cmpO (some (.num na)) (some (.num nb)) = 0 := (if_neg hl1).trans (if_neg hl2)
                  have HE : Hid (cmpP (A.drop i) (B.drop i) = cmpP (A.drop (i + 1)) (B.drop (i + 1))) := HEQ (by rw [hpa, hpb]; exact HCM)
                  have hd2 : decide ((nb : Int) < (na : Int)) = false := decide_eq_false (by omega)
                  clear HEQ HNE hpa hpb HCM
                  go_wp2_with (first
                    | (go_at_call 73; have := F1.out; refine (PA.out _).mono ?_; rintro e w1 ⟨rfl, hw1⟩; obtain rfl := hw1.symm; clear hw1 F1)
                    | (go_at_call 73; have := F2.out; refine (PB.out _).mono ?_; rintro e w1 ⟨rfl, hw1⟩; obtain rfl := hw1.symm; clear hw1 F2))
                  go_quiet (fail)
                  go_wp2
                  go_quiet (fail)
                  go_wp2
                  go_roundw
                  case rel => exact ⟨i + 1, by go_num, by omega, by rw [HC.out, HE.out], by first | exact dr2 _ _ _ | exact dr3 _ _ _ _ | exact ⟨_, rfl⟩⟩
                  case measure => simp [intOf]; omega
    · have h1 : ¬ (i : Int) < (A.length : Int) := by omega
      have h2 : ¬ (i : Int) < (B.length : Int) := by omega
      go_wp2
      go_ret
      refine ⟨ret_int ?_, n, rfl⟩
      rw [HC.out, List.drop_eq_nil_of_le (by omega), List.drop_eq_nil_of_le (by omega)]
      rfl

end Go.Proofs.YtimcocmjmlejfaaGreatDoor.vr

namespace Go.Proofs.YtimcocmjmlejfaaGreatDoor.vr
open Go.ChangeShapes Go.WideShapes Go.ChangeAt Go.RowKit Go.Deep Go.Shelf
set_option linter.unusedVariables false
set_option linter.unusedSimpArgs false

theorem versionOf_no {s : ByteArray} (hs : s.size ≤ 1048576) (h : ver s.data.toList = none) (w : World) :
    Calls Tryz.prog 35 #[.string s] w fun e w' => e = .returned (.tuple #[.slice none 0 0, .bool false]) ∧ Below w.heap.size w w' := by
  refine (versionOf_any s hs w).mono ?_
  rintro e w' ⟨⟨_, rfl⟩ | ⟨ps, v, h1, _⟩, hl⟩
  · exact ⟨rfl, hl⟩
  · rw [h] at h1; cases h1
theorem versionOf_yes {s : ByteArray} {ps : List Pt} (hs : s.size ≤ 1048576) (h : ver s.data.toList = some ps) (w : World) :
    Calls Tryz.prog 35 #[.string s] w fun e w' => ∃ a cap, e = .returned (.tuple #[.slice a ps.length cap, .bool true]) ∧ RowI w' (.slice a ps.length cap) ps ∧ Below w.heap.size w w' := by
  refine (versionOf_any s hs w).mono ?_
  rintro e w' ⟨⟨h1, rfl⟩ | ⟨qs, v, h1, rfl, ho⟩, hl⟩
  · rw [h] at h1; cases h1
  · rw [h] at h1
    cases h1
    have hr := ho.row
    obtain ⟨a, cap, rfl, _⟩ := ho.row
    exact ⟨a, cap, rfl, hr, hl⟩

theorem parts_no {s : ByteArray} (hs : s.size ≤ 1048576) (h : ver s.data.toList = none) (w : World) :
    Calls Tryz.prog 34 #[.string s] w fun e w' => (∃ v, e = .returned (.tuple #[v, .bool false])) ∧ Below w.heap.size w w' := by
  refine (parts_any s hs w).mono ?_
  rintro e w' ⟨⟨_, he⟩ | ⟨ps, v, h1, _⟩, hl⟩
  · exact ⟨he, hl⟩
  · rw [h] at h1; cases h1
theorem parts_yes {s : ByteArray} {ps : List Pt} (hs : s.size ≤ 1048576) (h : ver s.data.toList = some ps) (w : World) :
    Calls Tryz.prog 34 #[.string s] w fun e w' => ∃ a cap, e = .returned (.tuple #[.slice a ps.length cap, .bool true]) ∧ RowP w' (.slice a ps.length cap) ps ∧ Below w.heap.size w w' := by
  refine (parts_any s hs w).mono ?_
  rintro e w' ⟨⟨h1, _⟩ | ⟨qs, v, h1, rfl, ho⟩, hl⟩
  · rw [h] at h1; cases h1
  · rw [h] at h1
    cases h1
    have hr := ho.row
    obtain ⟨a, cap, rfl, _⟩ := ho.row
    exact ⟨a, cap, rfl, hr, hl⟩

theorem cmpV_no {a b : List UInt8} (h : ver a = none ∨ ver b = none) : cmpV a b = 2 := by
  unfold cmpV
  rcases h with h | h
  · rw [h]
  · cases ha : ver a <;> rw [h]
theorem cmpV_yes {a b : List UInt8} {p q : List Pt} (h : ver a = some p) (h2 : ver b = some q) : cmpV a b = cmpP p q := by unfold cmpV; rw [h, h2]

set_option maxHeartbeats 1000000 in
set_option maxRecDepth 100000 in
theorem icmp_any (s t : ByteArray) (hs : s.size ≤ 1048576) (ht : t.size ≤ 1048576) (w : World) :
    Calls Tryz.prog 14 #[.string s, .string t] w fun e w' => e = .returned (.int .i64 (cmpV s.data.toList t.data.toList)) ∧ Below w.heap.size w w' := by
  have F1 : Hid True := trivial
  cases hv : ver s.data.toList with
  | none =>
    have HV : Hid (cmpV s.data.toList t.data.toList = 2) := cmpV_no (.inl hv)
    have H1 : Hid (∀ W, Calls Tryz.prog 35 #[.string s] W fun e w' => e = .returned (.tuple #[.slice none 0 0, .bool false]) ∧ Below W.heap.size W w') := fun W => versionOf_no hs hv W
    have H2 : Hid (∀ W, Calls Tryz.prog 35 #[.string t] W fun e w' => ∃ a n c b, e = .returned (.tuple #[.slice a n c, .bool b]) ∧ Below W.heap.size W w') := fun W => (versionOf_any t ht W).mono (by
      rintro e w' ⟨⟨_, rfl⟩ | ⟨ps, v, h1, rfl, ho⟩, hl⟩
      · exact ⟨_, _, _, _, rfl, hl⟩
      · obtain ⟨a, cap, rfl, _⟩ := ho.row; exact ⟨_, _, _, _, rfl, hl⟩)
    clear hv
    go_enter Tryz.func14, Tryz.ntmps14
    go_wp2_with (first
      | (go_at_call 35; have := F1.out; refine (H1.out _).mono ?_; rintro e w1 ⟨rfl, hl1⟩; clear F1)
      | (go_at_call 35; refine (H2.out _).mono ?_; rintro e w2 ⟨a2, n2, c2, b2, rfl, hl2⟩))
    go_ret
    exact ⟨ret_int HV.out.symm, hl1.trans (hl2.mono hl1.size)⟩
  | some ps =>
    have H1 : Hid (∀ W, Calls Tryz.prog 35 #[.string s] W fun e w' => ∃ a cap, e = .returned (.tuple #[.slice a ps.length cap, .bool true]) ∧ RowI w' (.slice a ps.length cap) ps ∧ Below W.heap.size W w') := fun W => versionOf_yes hs hv W
    cases hu : ver t.data.toList with
    | none =>
      have HV : Hid (cmpV s.data.toList t.data.toList = 2) := cmpV_no (.inr hu)
      have H2 : Hid (∀ W, Calls Tryz.prog 35 #[.string t] W fun e w' => e = .returned (.tuple #[.slice none 0 0, .bool false]) ∧ Below W.heap.size W w') := fun W => versionOf_no ht hu W
      clear hv hu
      go_enter Tryz.func14, Tryz.ntmps14
      go_wp2_with (first
        | (go_at_call 35; have := F1.out; refine (H1.out _).mono ?_; rintro e w1 ⟨a1, c1, rfl, hr1, hl1⟩; clear F1)
        | (go_at_call 35; refine (H2.out _).mono ?_; rintro e w2 ⟨rfl, hl2⟩))
      go_ret
      exact ⟨ret_int HV.out.symm, hl1.trans (hl2.mono hl1.size)⟩
    | some qs =>
      have HV : Hid (cmpV s.data.toList t.data.toList = cmpP ps qs) := cmpV_yes hv hu
      have n1 := ver_len hv
      have n2 := ver_len hu
      have H2 : Hid (∀ W, Calls Tryz.prog 35 #[.string t] W fun e w' => ∃ a cap, e = .returned (.tuple #[.slice a qs.length cap, .bool true]) ∧ RowI w' (.slice a qs.length cap) qs ∧ Below W.heap.size W w') := fun W => versionOf_yes ht hu W
      clear hv hu
      go_enter Tryz.func14, Tryz.ntmps14
      go_wp2_with (first
        | (go_at_call 35; have := F1.out; refine (H1.out _).mono ?_; rintro e w1 ⟨a1, c1, rfl, hr1, hl1⟩; clear F1)
        | (go_at_call 35; refine (H2.out _).mono ?_; rintro e w2 ⟨a2, c2, rfl, hr2, hl2⟩)
        | (go_at_call 36; refine (vcompare_any ps qs _ _ _ (RowC.below hr1 hl2) hr2 (Nat.le_trans n1 (by decide)) (Nat.le_trans n2 (by decide))).mono ?_; rintro e w3 ⟨rfl, hl3⟩))
      go_ret
      have b2 := hl1.trans (hl2.mono hl1.size)
      exact ⟨ret_int HV.out.symm, b2.trans (hl3.mono b2.size)⟩

set_option maxHeartbeats 1000000 in
set_option maxRecDepth 100000 in
theorem scmp_any (s t : ByteArray) (hs : s.size ≤ 1048576) (ht : t.size ≤ 1048576) (w : World) :
    Calls Tryz.prog 31 #[.string s, .string t] w fun e w' => e = .returned (.int .i64 (cmpV s.data.toList t.data.toList)) ∧ Below w.heap.size w w' := by
  have F1 : Hid True := trivial
  cases hv : ver s.data.toList with
  | none =>
    have HV : Hid (cmpV s.data.toList t.data.toList = 2) := cmpV_no (.inl hv)
    have H1 : Hid (∀ W, Calls Tryz.prog 34 #[.string s] W fun e w' => (∃ v, e = .returned (.tuple #[v, .bool false])) ∧ Below W.heap.size W w') := fun W => parts_no hs hv W
    have H2 : Hid (∀ W, Calls Tryz.prog 34 #[.string t] W fun e w' => ∃ v b, e = .returned (.tuple #[v, .bool b]) ∧ Below W.heap.size W w') := fun W => (parts_any t ht W).mono (by
      rintro e w' ⟨⟨_, v, rfl⟩ | ⟨ps, v, h1, rfl, ho⟩, hl⟩
      · exact ⟨_, _, rfl, hl⟩
      · exact ⟨_, _, rfl, hl⟩)
    clear hv
    go_enter Tryz.func31, Tryz.ntmps31
    go_wp2_with (first
      | (go_at_call 34; have := F1.out; refine (H1.out _).mono ?_; rintro e w1 ⟨⟨v1, rfl⟩, hl1⟩; clear F1)
      | (go_at_call 34; refine (H2.out _).mono ?_; rintro e w2 ⟨v2, b2, rfl, hl2⟩))
    go_ret
    exact ⟨ret_int HV.out.symm, hl1.trans (hl2.mono hl1.size)⟩
  | some ps =>
    have H1 : Hid (∀ W, Calls Tryz.prog 34 #[.string s] W fun e w' => ∃ a cap, e = .returned (.tuple #[.slice a ps.length cap, .bool true]) ∧ RowP w' (.slice a ps.length cap) ps ∧ Below W.heap.size W w') := fun W => parts_yes hs hv W
    cases hu : ver t.data.toList with
    | none =>
      have HV : Hid (cmpV s.data.toList t.data.toList = 2) := cmpV_no (.inr hu)
      have H2 : Hid (∀ W, Calls Tryz.prog 34 #[.string t] W fun e w' => (∃ v, e = .returned (.tuple #[v, .bool false])) ∧ Below W.heap.size W w') := fun W => parts_no ht hu W
      clear hv hu
      go_enter Tryz.func31, Tryz.ntmps31
      go_wp2_with (first
        | (go_at_call 34; have := F1.out; refine (H1.out _).mono ?_; rintro e w1 ⟨a1, c1, rfl, hr1, hl1⟩; clear F1)
        | (go_at_call 34; refine (H2.out _).mono ?_; rintro e w2 ⟨⟨v2, rfl⟩, hl2⟩))
      go_ret
      exact ⟨ret_int HV.out.symm, hl1.trans (hl2.mono hl1.size)⟩
    | some qs =>
      have HV : Hid (cmpV s.data.toList t.data.toList = cmpP ps qs) := cmpV_yes hv hu
      have n1 := ver_len hv
      have n2 := ver_len hu
      have f1 : Hid (Full ps) := ver_full hv
      have f2 : Hid (Full qs) := ver_full hu
      have H2 : Hid (∀ W, Calls Tryz.prog 34 #[.string t] W fun e w' => ∃ a cap, e = .returned (.tuple #[.slice a qs.length cap, .bool true]) ∧ RowP w' (.slice a qs.length cap) qs ∧ Below W.heap.size W w') := fun W => parts_yes ht hu W
      clear hv hu
      go_enter Tryz.func31, Tryz.ntmps31
      go_wp2_with (first
        | (go_at_call 34; have := F1.out; refine (H1.out _).mono ?_; rintro e w1 ⟨a1, c1, rfl, hr1, hl1⟩; clear F1)
        | (go_at_call 34; refine (H2.out _).mono ?_; rintro e w2 ⟨a2, c2, rfl, hr2, hl2⟩)
        | (go_at_call 53; refine (scompare_any ps qs _ _ _ (RowC.below hr1 hl2) hr2 f1.out f2.out (Nat.le_trans n1 (by decide)) (Nat.le_trans n2 (by decide))).mono ?_; rintro e w3 ⟨rfl, q3, rfl⟩))
      go_ret
      have b2 := hl1.trans (hl2.mono hl1.size)
      exact ⟨ret_int HV.out.symm, Go.below_drewN b2 q3⟩

end Go.Proofs.YtimcocmjmlejfaaGreatDoor.vr

namespace Go.Proofs.YtimcocmjmlejfaaGreatDoor.vr
open Go.ChangeShapes Go.WideShapes Go.ChangeAt Go.RowKit Go.Deep Go.Shelf
set_option linter.unusedVariables false
set_option linter.unusedSimpArgs false

/-! ### Versions are in an order -/

theorem cmpL_lt {a b : List UInt8} : cmpL a b < 0 ↔ a < b := by
  unfold cmpL
  by_cases h : a < b
  · simp [h]
  · rw [if_neg h]
    by_cases h2 : b < a
    · simp [h, h2]
    · simp [h, h2]
theorem cmpL_anti (a b : List UInt8) : cmpL a b = - cmpL b a := by
  unfold cmpL
  by_cases h : a < b
  · have h2 : ¬ b < a := fun h2 => List.lt_irrefl _ (List.lt_trans h h2)
    simp [h, h2]
  · by_cases h2 : b < a
    · simp [h, h2]
    · simp [h, h2]
theorem cmpL_cases (a b : List UInt8) : cmpL a b = -1 ∨ cmpL a b = 0 ∨ cmpL a b = 1 := by
  unfold cmpL
  by_cases h : a < b
  · simp [h]
  · by_cases h2 : b < a
    · simp [h, h2]
    · simp [h, h2]
theorem cmpN_lt {a b : Nat} : cmpN a b < 0 ↔ a < b := by
  unfold cmpN
  by_cases h : a < b
  · simp [h]
  · by_cases h2 : b < a
    · simp [h, h2]
    · simp [h, h2]
theorem cmpN_anti (a b : Nat) : cmpN a b = - cmpN b a := by
  unfold cmpN
  by_cases h : a < b
  · rw [if_pos h, if_neg (by omega), if_pos h]
  · by_cases h2 : b < a
    · rw [if_neg h, if_pos h2, if_pos h2]; rfl
    · rw [if_neg h, if_neg h2, if_neg h2, if_neg h]; rfl
theorem cmpN_cases (a b : Nat) : cmpN a b = -1 ∨ cmpN a b = 0 ∨ cmpN a b = 1 := by
  unfold cmpN
  by_cases h : a < b
  · simp [h]
  · by_cases h2 : b < a
    · simp [h, h2]
    · simp [h, h2]

theorem cmpPt_anti (x y : Pt) : cmpPt x y = - cmpPt y x := by
  cases x with
  | num a => cases y with
    | num b => exact cmpN_anti a b
    | word b => rfl
  | word a => cases y with
    | num b => rfl
    | word b => exact cmpL_anti a b
theorem cmpPt_cases (x y : Pt) : cmpPt x y = -1 ∨ cmpPt x y = 0 ∨ cmpPt x y = 1 := by
  cases x with
  | num a => cases y with
    | num b => exact cmpN_cases a b
    | word b => exact .inr (.inr rfl)
  | word a => cases y with
    | num b => exact .inl rfl
    | word b => exact cmpL_cases a b
theorem cmpPt_trans {x y z : Pt} (h1 : cmpPt x y < 0) (h2 : cmpPt y z < 0) : cmpPt x z < 0 := by
  cases x with
  | num a => cases y with
    | num b => cases z with
      | num c => simp only [cmpPt, cmpN_lt] at *; omega
      | word c => simp [cmpPt] at h2
    | word b => simp [cmpPt] at h1
  | word a => cases y with
    | num b => cases z with
      | num c => simp [cmpPt]
      | word c => simp [cmpPt] at h2
    | word b => cases z with
      | num c => simp [cmpPt]
      | word c => simp only [cmpPt, cmpL_lt] at *; exact List.lt_trans h1 h2

theorem cmpP_anti : ∀ a b : List Pt, cmpP a b = - cmpP b a
  | [], [] => rfl
  | [], x :: b => by cases x <;> rfl
  | x :: a, [] => by cases x <;> rfl
  | x :: a, y :: b => by
    rw [cmpP_cons, cmpP_cons, cmpPt_anti x y]
    by_cases h : cmpPt y x = 0
    · rw [if_pos (by omega), if_pos h]; exact cmpP_anti a b
    · rw [if_neg (by omega), if_neg h]
theorem cmpP_refl (a : List Pt) : cmpP a a = 0 := by have := cmpP_anti a a; omega
theorem cmpP_cases : ∀ a b : List Pt, cmpP a b = -1 ∨ cmpP a b = 0 ∨ cmpP a b = 1
  | [], [] => .inr (.inl rfl)
  | [], x :: b => by cases x <;> simp [cmpP]
  | x :: a, [] => by cases x <;> simp [cmpP]
  | x :: a, y :: b => by
    rw [cmpP_cons]
    split
    · exact cmpP_cases a b
    · exact cmpPt_cases x y
theorem cmpP_zero : ∀ {a b : List Pt}, cmpP a b = 0 → a = b
  | [], [], _ => rfl
  | [], x :: b, h => by cases x <;> simp [cmpP] at h
  | x :: a, [], h => by cases x <;> simp [cmpP] at h
  | x :: a, y :: b, h => by
    rw [cmpP_cons] at h
    by_cases h0 : cmpPt x y = 0
    · rw [if_pos h0] at h
      rw [cmpPt_zero.1 h0, cmpP_zero h]
    · rw [if_neg h0] at h; exact absurd h h0
theorem cmpP_trans : ∀ {a b c : List Pt}, cmpP a b ≤ 0 → cmpP b c ≤ 0 → cmpP a c ≤ 0
  | [], [], c, _, h => h
  | [], .word u :: b, c, h, _ => by simp [cmpP] at h
  | [], .num n :: b, [], _, h => by simp [cmpP] at h
  | [], .num n :: b, .word u :: c, _, h => by rw [cmpP_cons] at h; simp [cmpPt] at h
  | [], .num n :: b, .num m :: c, _, h => by simp [cmpP]
  | .num n :: a, [], c, h, _ => by simp [cmpP] at h
  | .word u :: a, [], [], h, _ => by simp [cmpP]
  | .word u :: a, [], .word v :: c, _, h => by simp [cmpP] at h
  | .word u :: a, [], .num m :: c, _, h => by rw [cmpP_cons]; simp [cmpPt]
  | x :: a, .num n :: b, [], _, h => by simp [cmpP] at h
  | .num n :: a, .word u :: b, [], h, _ => by rw [cmpP_cons] at h; simp [cmpPt] at h
  | .word v :: a, .word u :: b, [], _, _ => by simp [cmpP]
  | x :: a, y :: b, z :: c, h1, h2 => by
    rw [cmpP_cons] at h1 h2 ⊢
    by_cases p : cmpPt x y = 0
    · rw [if_pos p] at h1
      obtain rfl := cmpPt_zero.1 p
      by_cases q : cmpPt x z = 0
      · rw [if_pos q] at h2 ⊢; exact cmpP_trans h1 h2
      · rw [if_neg q] at h2 ⊢; exact h2
    · rw [if_neg p] at h1
      by_cases q : cmpPt y z = 0
      · obtain rfl := cmpPt_zero.1 q
        rw [if_neg p]; exact h1
      · rw [if_neg q] at h2
        have := cmpPt_trans (x := x) (y := y) (z := z) (by omega) (by omega)
        rw [if_neg (by omega)]; omega

theorem cmpP_more {k : Int} (p : Pt) (hp : cmpP [p] [] = k) : ∀ a : List Pt, cmpP (a ++ [p]) a = k
  | [] => hp
  | x :: a => by rw [List.cons_append, cmpP_cons, if_pos (cmpPt_zero.2 rfl)]; exact cmpP_more p hp a

theorem tw_app {f : UInt8 → Bool} {c : UInt8} {t : List UInt8} (hc : f c = false) : ∀ l : List UInt8, (l ++ c :: t).takeWhile f = l.takeWhile f ∧ (l ++ c :: t).dropWhile f = l.dropWhile f ++ c :: t
  | [] => by simp [List.takeWhile_cons, List.dropWhile_cons, hc]
  | d :: l => by
    have := tw_app (t := t) hc l
    by_cases h : f d = true
    · simp [List.takeWhile_cons, List.dropWhile_cons, h, this]
    · simp [List.takeWhile_cons, List.dropWhile_cons, h]

theorem prts_cons (c : UInt8) (r : List UInt8) : prts (c :: r) = if dig c = true then (if 15 < (c :: r.takeWhile dig).length then none else (prts (r.dropWhile dig)).map (Pt.num (numL (c :: r.takeWhile dig)) :: ·))
    else if ltr c = true then (prts (r.dropWhile ltr)).map (Pt.word (c :: r.takeWhile ltr) :: ·)
    else if c.toNat = 46 ∨ c.toNat = 45 then prts r
    else none := by rw [prts]

theorem prts_app {c : UInt8} {t : List UInt8} {qs : List Pt} (hd : dig c = false) (hl : ltr c = false) (ht : prts (c :: t) = some qs) (l : List UInt8) : prts (l ++ c :: t) = (prts l).map (· ++ qs) := by
  induction h : l.length using Nat.strongRecOn generalizing l with
  | ind n ih =>
    cases l with
    | nil => rw [List.nil_append, ht, prts_nil]; rfl
    | cons d r =>
      rw [List.cons_append, prts_cons d (r ++ c :: t), prts_cons d r]
      simp only [List.length_cons] at h
      obtain ⟨a1, a2⟩ := tw_app (t := t) hd r
      obtain ⟨b1, b2⟩ := tw_app (t := t) hl r
      rw [a1, a2, b1, b2]
      have l1 := (List.dropWhile_sublist (l := r) dig).length_le
      have l2 := (List.dropWhile_sublist (l := r) ltr).length_le
      rw [ih _ (by omega) (r.dropWhile dig) rfl, ih _ (by omega) (r.dropWhile ltr) rfl, ih _ (by omega) r rfl]
      by_cases h1 : dig d = true
      · rw [if_pos h1, if_pos h1]
        by_cases h2 : 15 < (d :: r.takeWhile dig).length
        · rw [if_pos h2, if_pos h2]; rfl
        · rw [if_neg h2, if_neg h2, Option.map_map, Option.map_map]; rfl
      · rw [if_neg h1, if_neg h1]
        by_cases h2 : ltr d = true
        · rw [if_pos h2, if_pos h2, Option.map_map, Option.map_map]; rfl
        · rw [if_neg h2, if_neg h2]
          by_cases h3 : d.toNat = 46 ∨ d.toNat = 45
          · rw [if_pos h3, if_pos h3]
          · rw [if_neg h3, if_neg h3]; rfl

theorem ver_app {c : UInt8} {t : List UInt8} {qs ps : List Pt} (hd : dig c = false) (hl : ltr c = false) (ht : prts (c :: t) = some qs) {l : List UInt8} (h : ver l = some ps) (hn : (l ++ c :: t).length ≤ 30) : ver (l ++ c :: t) = some (ps ++ qs) := by
  cases l with
  | nil => cases h
  | cons d r =>
    have e : ver (d :: r) = if (d :: r).length ≤ 30 ∧ dig d = true then prts (d :: r) else none := rfl
    rw [e] at h
    by_cases hh : (d :: r).length ≤ 30 ∧ dig d = true
    · rw [if_pos hh] at h
      have e2 : ver (d :: r ++ c :: t) = if (d :: r ++ c :: t).length ≤ 30 ∧ dig d = true then prts (d :: r ++ c :: t) else none := rfl
      rw [e2, if_pos ⟨hn, hh.2⟩, prts_app hd hl ht, h]; rfl
    · rw [if_neg hh] at h; cases h

theorem prts_dot0 : prts [46, 48] = some [Pt.num 0] := by
  rw [prts_sep (by decide) (by decide) (.inl rfl), prts_num rfl (by decide)]
  rw [show List.takeWhile dig [48] = [48] by decide, show List.dropWhile dig [48] = [] by decide, if_neg (by decide), prts_nil]; rfl
theorem prts_dasha : prts [45, 97] = some [Pt.word [97]] := by
  rw [prts_sep (by decide) (by decide) (.inr rfl), prts_word rfl (by decide) (by decide)]
  rw [show List.takeWhile ltr [97] = [97] by decide, show List.dropWhile ltr [97] = [] by decide, prts_nil]; rfl

theorem newer {l : List UInt8} {ps : List Pt} (h : ver l = some ps) (hn : l.length + 2 ≤ 30) : cmpV (l ++ [46, 48]) l = 1 := by
  have := ver_app (by decide) (by decide) prts_dot0 h (by simp; omega)
  unfold cmpV
  rw [this, h]
  exact cmpP_more _ rfl ps
theorem older {l : List UInt8} {ps : List Pt} (h : ver l = some ps) (hn : l.length + 2 ≤ 30) : cmpV (l ++ [45, 97]) l = -1 := by
  have := ver_app (by decide) (by decide) prts_dasha h (by simp; omega)
  unfold cmpV
  rw [this, h]
  exact cmpP_more _ rfl ps

end Go.Proofs.YtimcocmjmlejfaaGreatDoor.vr

