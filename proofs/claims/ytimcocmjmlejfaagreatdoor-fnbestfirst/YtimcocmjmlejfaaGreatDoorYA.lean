import Derived.Test.YtimcocmjmlejfaaGreatDoorYM
import Derived.Test.YtimcocmjmlejfaaGreatDoorYN
import Derived.Shelf.Strings.OnBuilder
namespace Go.Proofs.YtimcocmjmlejfaaGreatDoor.rc
open Go.ChangeShapes Go.WideShapes Go.ChangeAt Go.RowKit Go.Deep Go.Lib Go.Shelf Go.Proofs.YtimcocmjmlejfaaGreatDoor.vr
set_option linter.unusedVariables false
set_option linter.unusedSimpArgs false

/-! ### The program: ShowConstraint -/

end Go.Proofs.YtimcocmjmlejfaaGreatDoor.rc
namespace Go.Proofs
open Go.Shelf
def YtimcocmjmlejfaaGreatDoor.rc.laysJN_ren : Go.Shelf.Ren := ⟨fun | 156 => 33 | 165 => 54 | 166 => 55 | 169 => 56 | 240 => 74 | 241 => 75 | 276 => 88 | 277 => 89 | n => n, fun | 31 => 24 | 9 => 9 | 3 => 3 | 4 => 4 | 0 => 0 | 20 => 20 | 72 => 89 | 76 => 93 | 70 => 87 | 37 => 22 | 75 => 92 | 127 => 116 | 164 => 128 | 5 => 5 | 80 => 95 | n => n, fun | n => n⟩
theorem YtimcocmjmlejfaaGreatDoor.rc.laysJN : Go.Proofs.Lays.n156 Tryz.prog YtimcocmjmlejfaaGreatDoor.rc.laysJN_ren := {
  mixed := by kernel_rfl
  f156 := Tryz.func33.trans (congrArg some (by kernel_rfl))
  f165 := Tryz.func54.trans (congrArg some (by kernel_rfl))
  f166 := Tryz.func55.trans (congrArg some (by kernel_rfl))
  f169 := Tryz.func56.trans (congrArg some (by kernel_rfl))
  f240 := Tryz.func74.trans (congrArg some (by kernel_rfl))
  f241 := Tryz.func75.trans (congrArg some (by kernel_rfl))
  f276 := Tryz.func88.trans (congrArg some (by kernel_rfl))
  f277 := Tryz.func89.trans (congrArg some (by kernel_rfl))
  t0 := Tryz.underlying0
  a0 := Tryz.isAgg0
  z0 := Tryz.sizeOf0
  v0 := Tryz.zeroValue0
  t3 := Tryz.underlying3
  a3 := Tryz.isAgg3
  z3 := Tryz.sizeOf3
  v3 := Tryz.zeroValue3
  t4 := Tryz.underlying4
  a4 := Tryz.isAgg4
  z4 := Tryz.sizeOf4
  v4 := Tryz.zeroValue4
  t9 := Tryz.underlying9
  a9 := Tryz.isAgg9
  z9 := Tryz.sizeOf9
  v9 := Tryz.zeroValue9
  t20 := Tryz.underlying20
  a20 := Tryz.isAgg20
  z20 := Tryz.sizeOf20
  v20 := Tryz.zeroValue20
  t31 := Tryz.underlying24
  a31 := Tryz.isAgg24
  z31 := Tryz.sizeOf24
  v31 := Tryz.zeroValue24
  t37 := Tryz.underlying22
  a37 := Tryz.isAgg22
  z37 := Tryz.sizeOf22
  v37 := Tryz.zeroValue22
  t70 := Tryz.underlying87
  a70 := Tryz.isAgg87
  z70 := Tryz.sizeOf87
  v70 := Tryz.zeroValue87
  t72 := Tryz.underlying89
  a72 := Tryz.isAgg89
  z72 := Tryz.sizeOf89
  v72 := Tryz.zeroValue89
  t75 := Tryz.underlying92
  a75 := Tryz.isAgg92
  z75 := Tryz.sizeOf92
  v75 := Tryz.zeroValue92
  t76 := Tryz.underlying93
  a76 := Tryz.isAgg93
  z76 := Tryz.sizeOf93
  v76 := Tryz.zeroValue93
  t127 := Tryz.underlying116
  a127 := Tryz.isAgg116
  z127 := Tryz.sizeOf116
  v127 := Tryz.zeroValue116
  t164 := Tryz.underlying128
  a164 := Tryz.isAgg128
  z164 := Tryz.sizeOf128
  v164 := Tryz.zeroValue128 }
end Go.Proofs
namespace Go.Proofs.YtimcocmjmlejfaaGreatDoor.rc
open Go.ChangeShapes Go.WideShapes Go.ChangeAt Go.RowKit Go.Deep Go.Lib Go.Shelf Go.Proofs.YtimcocmjmlejfaaGreatDoor.vr
set_option linter.unusedVariables false
set_option linter.unusedSimpArgs false
theorem jn_ren : laysJN_ren.f 156 = 33 := by kernel_rfl

theorem extraJN : Builder.Extra Tryz.prog laysJN_ren where
  sizeBuilder := by kernel_rfl
  liesBuilder := by kernel_rfl
  t5 := Tryz.underlying5
  a5 := Tryz.isAgg5
  z5 := Tryz.sizeOf5
  v5 := Tryz.zeroValue5
  infoByte := by kernel_rfl
  cellsByte := by kernel_rfl
  sizeByte := by kernel_rfl
  neB5 := by decide

theorem join_any (ws : List (List UInt8)) (sp : ByteArray) (v : Value) (B : Nat) (w : World) (ho : sr.OwnS B w v ws) (hl : (Lib.join ws sp.data.toList).length ≤ 100000000) (hn : ws.length ≤ 1000000) :
    Calls Tryz.prog 33 #[v, .string sp] w fun e w' => e = .returned (.string ⟨(Lib.join ws sp.data.toList).toArray⟩) ∧ Below w.heap.size w w' := by
  obtain ⟨⟨h1, h2⟩, hv⟩ := ho
  have h0 : w.ownsRow B 9 1 v ws.length (ws.map sr.strL) := ⟨h1, h2⟩
  rcases h2 with ⟨e, _⟩ | ⟨g, cap, cur, rfl, hg, hh, hcs⟩
  · exact absurd e hv
  · have hm : (ws.map fun x => (⟨x.toArray⟩ : ByteArray)).map (·.data.toList) = ws := by rw [List.map_map]; simp [Function.comp_def]
    have hC := Any.strings_Join laysJN extraJN g 0 cap (ws.map fun x => ⟨x.toArray⟩) sp w (fun j x hx => by
      rw [List.getElem?_map, Option.map_eq_some_iff] at hx
      obtain ⟨y, hy, rfl⟩ := hx
      have := h0.cells (g := g) rfl j (sr.strL y) (by rw [List.getElem?_map, hy]; rfl)
      rw [addr_add] at this
      exact this) (Array.getElem?_eq_some_iff.1 hh).1 (by rw [List.length_map]; omega) (by rw [List.length_map]; exact hcs.1) (by rw [hm]; omega)
    rw [hm, List.length_map] at hC
    exact hC

theorem join_len (ws : List (List UInt8)) (s : List UInt8) : (Lib.join ws s).length ≤ (ws.map List.length).sum + ws.length * s.length := by
  induction ws with
  | nil => simp [Lib.join_nil]
  | cons x r ih =>
    cases r with
    | nil => rw [Lib.join_one]; simp
    | cons y r =>
      rw [join_two, List.length_append, List.length_append, List.map_cons, List.sum_cons, List.length_cons, Nat.add_mul]
      omega

theorem sum_txt (l : List Tm) : ((l.map txt).map List.length).sum = (l.map wt1).sum := by
  rw [List.map_map]
  congr 1
  exact List.map_congr_left fun x _ => by simp [txt, wt1]

theorem wtL_eq (l : List Tm) : wtL l = l.length + (l.map wt1).sum := by unfold wtL wtS; rw [List.take_length]
theorem wtLL_eq (ls : List (List Tm)) : wtLL ls = ls.length + (ls.map wtL).sum := by unfold wtLL wtSS; rw [List.take_length]

theorem alt_len (l : List Tm) : (altTx l).length ≤ wtL l := by
  unfold altTx
  have := join_len (l.map txt) [32]
  rw [sum_txt, List.length_map] at this
  rw [wtL_eq]
  simp at this
  omega

theorem sum_alt : ∀ ls : List (List Tm), ((ls.map altTx).map List.length).sum ≤ (ls.map wtL).sum
  | [] => by simp
  | l :: r => by
    have := alt_len l
    have := sum_alt r
    simp only [List.map_cons, List.sum_cons]
    omega

theorem shT_len (ls : List (List Tm)) : (shT ls).length ≤ 4 * wtLL ls := by
  unfold shT
  have := join_len (ls.map altTx) [32, 124, 124, 32]
  have h2 := sum_alt ls
  rw [List.length_map, show ([32, 124, 124, 32] : List UInt8).length = 4 from rfl] at this
  rw [wtLL_eq]
  omega

theorem sum_mem {l : List Nat} {n : Nat} (h : n ∈ l) : n ≤ l.sum := by
  induction l with
  | nil => simp at h
  | cons a r ih =>
    rw [List.sum_cons]
    rcases List.mem_cons.1 h with rfl | h
    · omega
    · have := ih h; omega

theorem wtL_le {ls : List (List Tm)} {l : List Tm} (h : l ∈ ls) : wtL l ≤ wtLL ls := by
  rw [wtLL_eq]
  have := sum_mem (List.mem_map.2 ⟨l, h, rfl⟩ : wtL l ∈ ls.map wtL)
  omega

theorem wt1_le {l : List Tm} {x : Tm} (h : x ∈ l) : wt1 x ≤ wtL l := by
  rw [wtL_eq]
  have := sum_mem (List.mem_map.2 ⟨x, h, rfl⟩ : wt1 x ∈ l.map wt1)
  omega

theorem wt1_two {x : Tm} (h : tk x) : 1 ≤ wt1 x := by
  have := (tk_plain h).1
  unfold wt1
  unfold txt at this
  cases h1 : x.1 with
  | nil =>
    cases h2 : x.2 with
    | nil => rw [h1, h2] at this; exact absurd rfl this
    | cons a b => simp
  | cons a b => simp; omega

theorem tk_of_alt {l : List Tm} (h : altT l = true) : ∀ x ∈ l, tk x := fun x hx => by
  by_cases e : tk x
  · exact e
  · rw [tk_not hx e] at h; cases h

theorem twice : ∀ l : List Tm, (∀ x ∈ l, tk x) → l.length ≤ (l.map wt1).sum
  | [], _ => by simp
  | x :: r, h => by
    have h1 := wt1_two (h x (by simp))
    have h2 := twice r (fun y hy => h y (by simp [hy]))
    simp only [List.length_cons, List.map_cons, List.sum_cons]
    omega

/-- An alternative that can be is not long. -/
theorem alt_short {l : List Tm} (h : altT l = true) : 2 * l.length ≤ wtL l ∧ 2 ≤ wtL l := by
  have h1 := twice l (tk_of_alt h)
  have h2 : l ≠ [] := fun e => by subst e; exact absurd h (by decide)
  have h3 : 0 < l.length := by cases l with | nil => exact absurd rfl h2 | cons a b => simp
  rw [wtL_eq]
  omega

theorem alts_short : ∀ ls : List (List Tm), (∀ l ∈ ls, altT l = true) → 2 * ls.length ≤ (ls.map wtL).sum
  | [], _ => by simp
  | l :: r, h => by
    have h1 := (alt_short (h l (by simp))).2
    have h2 := alts_short r (fun y hy => h y (by simp [hy]))
    simp only [List.length_cons, List.map_cons, List.sum_cons]
    omega

theorem sum_take (f : List Tm → Nat) : ∀ (ls : List (List Tm)) (k : Nat), ((ls.take k).map f).sum ≤ (ls.map f).sum
  | [], k => by simp
  | l :: r, 0 => by simp
  | l :: r, k + 1 => by
    have := sum_take f r k
    simp only [List.take_succ_cons, List.map_cons, List.sum_cons]
    omega

theorem pre_short {ls : List (List Tm)} {j : Nat} (h : ∀ (i : Nat) (l : List Tm), i < j → ls[i]? = some l → altT l = true) (hw : wtLL ls ≤ 1048576) : (ls.take j).length ≤ 600000 := by
  have h1 := alts_short (ls.take j) (fun l hl => by
    obtain ⟨i, hi, rfl⟩ := List.getElem_of_mem hl
    have hi' : i < j := by rw [List.length_take] at hi; omega
    have hi2 : i < ls.length := by rw [List.length_take] at hi; omega
    rw [List.getElem_take]
    exact h i _ hi' (List.getElem?_eq_getElem hi2))
  have h2 := sum_take wtL ls j
  rw [wtLL_eq] at hw
  omega

set_option maxHeartbeats 2000000 in
set_option maxRecDepth 100000 in
theorem iread_big (s : ByteArray) (hs : s.size ≤ 100000000) (w : World) (hm : ML w) :
    Calls Tryz.prog 6 #[.string s] w fun e w' => RIs w.heap.size s.data.toList e w' ∧ Below w.heap.size w w' := by
  by_cases h : s.size ≤ 1048576
  · exact iread_any s h w hm
  · have hz : s.data.toList.length = s.size := by simp
    have hbig' : (200 : Int) < (s.size : Int) := by omega
    have HN : Hid (rd s.data.toList = none) := rd_no (by rw [hz]; omega)
    go_enter Tryz.func6, Tryz.ntmps6
    go_wp2
    go_ret2
    exact ⟨⟨[], _, false, [], _, .inl ⟨HN.out, rfl, rfl⟩, rfl, rds_zero w⟩, (Below.refl _ _).alloc (Nat.le_refl _) _⟩

theorem data_app (A B : ByteArray) : (A ++ B).data.toList = A.data.toList ++ B.data.toList := by simp

set_option maxHeartbeats 2000000 in
set_option maxRecDepth 100000 in
theorem shown_any (l : List Tm) (v : Value) (w : World) (hR : TmR w v l) (hw : wtL l ≤ 1048576) (hn : l.length ≤ 600000) :
    Calls Tryz.prog 32 #[v] w fun e w' => e = .returned (.string ⟨(altTx l).toArray⟩) ∧ Below w.heap.size w w' := by
  obtain ⟨g, cap, rfl, hcap, hc, hg⟩ := hR
  have HC : Hid (∀ (W : World), Below w.heap.size w W → ∀ (i : Nat) (x : Tm), l[i]? = some x → W.cell? ⟨g, i * 2, none⟩ = some (.string ⟨x.1.toArray⟩) ∧ W.cell? ⟨g, i * 2 + 1, none⟩ = some (.string ⟨x.2.toArray⟩)) := fun W hb i x hx => ⟨(hb.cell (p := ⟨g, _, none⟩) hg).trans (hc i x hx).1, (hb.cell (p := ⟨g, _, none⟩) hg).trans (hc i x hx).2⟩
  have HX1 : Hid (∀ x ∈ l, wt1 x ≤ 1048576) := fun x hx => Nat.le_trans (wt1_le hx) hw
  have HJ : Hid (∀ (v : Value) (W : World), sr.OwnS w.heap.size W v (l.map txt) → Calls Tryz.prog 33 #[v, .string ⟨#[32]⟩] W fun e w' => e = .returned (.string ⟨(altTx l).toArray⟩) ∧ Below W.heap.size W w') := fun v W ho => by
    have h1 := alt_len l
    exact join_any (l.map txt) ⟨#[32]⟩ v _ W ho (by show (altTx l).length ≤ _; omega) (by rw [List.length_map]; omega)
  have HO0 : Hid (sr.OwnS w.heap.size (w.alloc (.cells #[] 9)) (.slice (some ⟨w.heap.size, 0, none⟩) 0 0) []) := sv.own_zeroS w
  clear hc
  go_enter Tryz.func32, Tryz.ntmps32
  go_wp2
  go_loopw [3, 5, 9] (fun r _ x wr => ∃ (j : Nat), j ≤ l.length ∧ x = .int .i64 (j : Int) ∧ sr.OwnS w.heap.size wr r ((l.take j).map txt) ∧ Below w.heap.size w wr) (fun _ _ x _ => l.length - (intOf x).toNat)
  case atStart => exact ⟨0, Nat.zero_le _, rfl, HO0.out, (Below.refl _ _).alloc (Nat.le_refl _) _⟩
  case round =>
    obtain ⟨j, hj, rfl, hown, hbel⟩ := hrel
    have HOW : Hid (sr.OwnS w.heap.size wr u3 ((l.take j).map txt)) := hown
    have HBE : Hid (Below w.heap.size w wr) := hbel
    clear hown
    by_cases hjl : j < l.length
    · have hj' : (j : Int) < (l.length : Int) := by omega
      have hj0 : (0 : Int) ≤ (j : Int) := by omega
      obtain ⟨x, hx⟩ : ∃ x, l[j]? = some x := ⟨_, List.getElem?_eq_getElem hjl⟩
      obtain ⟨c0, c1⟩ := HC.out wr hbel j x hx
      have hx1 := HX1.out x (List.mem_of_getElem? hx)
      unfold wt1 at hx1
      have HTK : Hid ((l.take (j + 1)).map txt = (l.take j).map txt ++ [txt x]) := by show _ = _; rw [List.take_add_one, hx]; simp
      obtain ⟨A, hA⟩ : ∃ A : ByteArray, (⟨x.1.toArray⟩ : ByteArray) = A := ⟨_, rfl⟩
      obtain ⟨B, hB⟩ : ∃ B : ByteArray, (⟨x.2.toArray⟩ : ByteArray) = B := ⟨_, rfl⟩
      have hAs : A.size = x.1.length := by rw [← hA]; show x.1.toArray.size = _; simp
      have hBs : B.size = x.2.length := by rw [← hB]; show x.2.toArray.size = _; simp
      have HTX : Hid ((A ++ B).data.toList = txt x) := by show _ = _; rw [data_app, ← hA, ← hB]; simp [txt]
      rw [hA] at c0
      rw [hB] at c1
      have hlen : ((l.take j).map txt).length ≤ 600000 := by simp; omega
      have hab : A.size + B.size ≤ 1048576 := by omega
      clear hbel hx hA hB hAs hBs hx1
      have HC1 : Hid (Below wr.heap.size wr (wr.alloc (.cells #[.string A, .string B] 60))) := (Below.refl _ _).alloc (Nat.le_refl _) _
      have HB1 : Hid (Below w.heap.size w (wr.alloc (.cells #[.string A, .string B] 60))) := HBE.out.alloc HBE.out.size _
      have HO1 : Hid (sr.OwnS w.heap.size (wr.alloc (.cells #[.string A, .string B] 60)) u3 ((l.take j).map txt)) := sv.OwnS.bel HOW.out HC1.out
      have HU : Hid (sr.strL (txt x) = .string (A ++ B)) := by show _ = _; rw [← HTX.out]; exact strL_b (A ++ B)
      have HW1 : Hid (w.heap.size ≤ wr.heap.size) := HBE.out.size
      have HNW : Hid (∀ j u, ([txt x].map sr.strL)[j]? = some u → ((wr.alloc (.cells #[.string A, .string B] 60)).alloc (.cells #[.string (A ++ B)] 9)).cell? ((⟨wr.heap.size + 1, 0, none⟩ : Addr).add j) = some u) := fun j u h => by
        have e := sv.one_str (wr.alloc (.cells #[.string A, .string B] 60)) HU.out j u h
        have hsz : (wr.alloc (.cells #[.string A, .string B] 60)).heap.size = wr.heap.size + 1 := by simp
        rwa [hsz] at e
      go_wp2_with (first
        | (at_builtin; refine sv.app_text _ rfl _ _ rfl w.heap.size _ ((l.take j).map txt) rfl ⟨HO1.out.1.alloc _, HO1.out.2⟩ ⟨_, 0, none⟩ 1 1 [txt x] rfl rfl HNW.out (by omega) (by have := HW1.out; simp; omega) ?_; intro v4 w4 hown4 hg4 hat4; have HB4 : Hid (Below w.heap.size w w4) := below_grown (HB1.out.alloc HB1.out.size _) (HO1.out.1.alloc _) hg4 (by have := HW1.out; simp; omega))
        | go_in)
      go_roundw
      case rel => exact ⟨j + 1, by omega, by go_num, by rw [HTK.out]; exact hown4, HB4.out⟩
      case measure => simp [intOf]; omega
    · have hj' : ¬ (j : Int) < (l.length : Int) := by omega
      obtain rfl : j = l.length := by omega
      have HF : Hid (sr.OwnS w.heap.size wr u3 (l.map txt)) := by show sr.OwnS _ _ _ _; have := HOW.out; rwa [List.take_length] at this
      clear hbel
      go_wp2_with (go_at_call 33; refine (HJ.out _ _ HF.out).mono ?_; rintro e w2 ⟨rfl, hl2⟩)
      go_ret
      exact ⟨rfl, HBE.out.trans (hl2.mono HBE.out.size)⟩

set_option maxHeartbeats 2000000 in
set_option maxRecDepth 100000 in
theorem ishow_any (ls : List (List Tm)) (v : Value) (w : World) (hm : ML w) (hR : RdR w v ls) (hw : wtLL ls ≤ 1048576) :
    Calls Tryz.prog 11 #[v] w fun e w' => e = .returned (.string ⟨(shw ls).toArray⟩) ∧ Below w.heap.size w w' := by
  have HRR : Hid (RdR w v ls) := hR
  obtain ⟨G, cap, rfl, hg, hr⟩ := hR
  have HML : Hid (ML w) := hm
  have hnl : ls.length ≤ 1048576 := by rw [wtLL_eq] at hw; omega
  have HWT : Hid (wtLL ls ≤ 1048576) := hw
  have HJ : Hid (∀ (v : Value) (W : World), (∀ (i : Nat) (l : List Tm), ls[i]? = some l → altT l = true) → sr.OwnS w.heap.size W v (ls.map altTx) → Calls Tryz.prog 33 #[v, .string ⟨#[32, 124, 124, 32]⟩] W fun e w' => e = .returned (.string ⟨(shT ls).toArray⟩) ∧ Below W.heap.size W w') := fun v W ha ho => by
    have h1 := shT_len ls
    have h2 := pre_short (ls := ls) (j := ls.length) (fun i l _ hl => ha i l hl) hw
    rw [List.take_length] at h2
    exact join_any (ls.map altTx) ⟨#[32, 124, 124, 32]⟩ v _ W ho (by show (shT ls).length ≤ _; omega) (by rw [List.length_map]; omega)
  have HO0 : Hid (sr.OwnS w.heap.size (w.alloc (.cells #[] 9)) (.slice (some ⟨w.heap.size, 0, none⟩) 0 0) []) := sv.own_zeroS w
  clear hr hm hw
  go_enter Tryz.func11, Tryz.ntmps11
  go_wp2
  go_loopw [3, 5, 12] (fun r _ x wr => ∃ (j : Nat), j ≤ ls.length ∧ x = .int .i64 (j : Int) ∧ sr.OwnS w.heap.size wr r ((ls.take j).map altTx) ∧ (∀ (i : Nat) (l : List Tm), i < j → ls[i]? = some l → altT l = true) ∧ Below w.heap.size w wr) (fun _ _ x _ => ls.length - (intOf x).toNat)
  case atStart => exact ⟨0, Nat.zero_le _, rfl, HO0.out, fun i l h => by omega, (Below.refl _ _).alloc (Nat.le_refl _) _⟩
  case round =>
    obtain ⟨j, hj, rfl, hown, hall, hbel⟩ := hrel
    have HOW : Hid (sr.OwnS w.heap.size wr u3 ((ls.take j).map altTx)) := hown
    have HBE : Hid (Below w.heap.size w wr) := hbel
    have HALL : Hid (∀ (i : Nat) (l : List Tm), i < j → ls[i]? = some l → altT l = true) := hall
    have hpre := pre_short hall HWT.out
    clear hown hall
    by_cases hjl : j < ls.length
    · have hj' : (j : Int) < (ls.length : Int) := by omega
      have hj0 : (0 : Int) ≤ (j : Int) := by omega
      obtain ⟨l, hx⟩ : ∃ x, ls[j]? = some x := ⟨_, List.getElem?_eq_getElem hjl⟩
      obtain ⟨G', cap', e', _, hr'⟩ := HRR.out.below hbel
      obtain ⟨rfl, rfl⟩ : G = G' ∧ cap = cap' := by simpa using e'
      obtain ⟨g, c, d1, t1⟩ := hr' j l hx
      have hml := List.mem_of_getElem? hx
      have hwl := Nat.le_trans (wtL_le hml) HWT.out
      have HT1 : Hid (TmR wr (.slice (some ⟨g, 0, none⟩) l.length c) l) := t1
      have hln : l.length ≤ 1048576 := by rw [wtL_eq] at hwl; omega
      have HTS : Hid (∀ t ∈ l, t.2.length ≤ 1048576) := fun t ht => by have := wt1_le ht; unfold wt1 at this; omega
      have HAO : Hid (Calls Tryz.prog 20 #[.slice (some ⟨g, 0, none⟩) l.length c] wr fun e w' => e = .returned (.bool (altT l)) ∧ Below wr.heap.size wr w') := altOk_any l _ wr t1 HTS.out (by omega)
      have HTK : Hid ((ls.take (j + 1)).map altTx = (ls.take j).map altTx ++ [altTx l]) := by show _ = _; rw [List.take_add_one, hx]; simp
      have HX : Hid (ls[j]? = some l) := hx
      have hlen : ((ls.take j).map altTx).length ≤ 600000 := by rw [List.length_map]; exact hpre
      clear hbel hr' e' t1 hx
      cases ha : altT l with
      | false =>
        rw [ha] at HAO
        have HN : Hid (shw ls = []) := shw_alt (List.mem_of_getElem? HX.out) ha
        clear ha
        go_wp2_with (go_at_call 20; refine HAO.out.mono ?_; rintro e w2 ⟨rfl, hl2⟩)
        go_ret
        exact ⟨by rw [HN.out]; first | done | rfl, HBE.out.trans (hl2.mono HBE.out.size)⟩
      | true =>
        rw [ha] at HAO
        have HA : Hid (altT l = true) := ha
        have HSW : Hid (∀ W, Below wr.heap.size wr W → Calls Tryz.prog 32 #[.slice (some ⟨g, 0, none⟩) l.length c] W fun e w' => e = .returned (.string ⟨(altTx l).toArray⟩) ∧ Below W.heap.size W w') := fun W hb => shown_any l _ W (HT1.out.below hb) hwl (by have := (alt_short ha).1; omega)
        have HU : Hid (sr.strL (altTx l) = .string ⟨(altTx l).toArray⟩) := rfl
        obtain ⟨S, hS⟩ : ∃ S : ByteArray, (⟨(altTx l).toArray⟩ : ByteArray) = S := ⟨_, rfl⟩
        rw [hS] at HSW HU
        clear ha hS
        go_wp2_with (first
          | (go_at_call 20; refine HAO.out.mono ?_; rintro e w2 ⟨rfl, hl2⟩)
          | (go_at_call 32; refine (HSW.out _ hl2).mono ?_; rintro e w3 ⟨rfl, hl3⟩; have HC3 : Hid (Below wr.heap.size wr w3) := hl2.trans (hl3.mono hl2.size); have HB3 : Hid (Below w.heap.size w w3) := HBE.out.trans (HC3.out.mono HBE.out.size); have HO3 : Hid (sr.OwnS w.heap.size w3 u3 ((ls.take j).map altTx)) := sv.OwnS.bel HOW.out HC3.out)
          | (at_builtin; refine sv.app_text _ rfl _ _ rfl w.heap.size _ ((ls.take j).map altTx) rfl ⟨HO3.out.1.alloc _, HO3.out.2⟩ ⟨_, 0, none⟩ 1 1 [altTx l] rfl rfl (sv.one_str _ HU.out) (by omega) (by have := HB3.out.size; simp; omega) ?_; intro v4 w4 hown4 hg4 hat4; have HB4 : Hid (Below w.heap.size w w4) := below_grown (HB3.out.alloc HB3.out.size _) (HO3.out.1.alloc _) hg4 (by have := HB3.out.size; simp; omega))
          | go_in)
        go_roundw
        case rel => exact ⟨j + 1, by omega, by go_num, by rw [HTK.out]; exact hown4, fun i y hi hy => by
          rcases Nat.lt_or_ge i j with h | h
          · exact HALL.out i y h hy
          · obtain rfl : i = j := by omega
            rw [HX.out] at hy
            obtain rfl := Option.some.inj hy
            exact HA.out, HB4.out⟩
        case measure => simp [intOf]; omega
    · have hj' : ¬ (j : Int) < (ls.length : Int) := by omega
      obtain rfl : j = ls.length := by omega
      have HAA : Hid (∀ (i : Nat) (l : List Tm), ls[i]? = some l → altT l = true) := fun i l hl => HALL.out i l (List.getElem?_eq_some_iff.1 hl).1 hl
      have HF : Hid (sr.OwnS w.heap.size wr u3 (ls.map altTx)) := by show sr.OwnS _ _ _ _; have := HOW.out; rwa [List.take_length] at this
      have HSH : Hid (shw ls = if (rd (shT ls)).isSome = true then shT ls else []) := shw_all HAA.out
      have hsl := shT_len ls
      have hwt := HWT.out
      have HRC : Hid (∀ W, ML W → Calls Tryz.prog 6 #[.string ⟨(shT ls).toArray⟩] W fun e w' => (∃ v, e = .returned (.tuple #[v, .bool (rd (shT ls)).isSome])) ∧ Below W.heap.size W w') := fun W hW => by
        have e1 : (⟨(shT ls).toArray⟩ : ByteArray).data.toList = shT ls := by simp
        refine (iread_big ⟨(shT ls).toArray⟩ (by show (shT ls).toArray.size ≤ _; simp; omega) W hW).mono ?_
        rintro e w' ⟨⟨ls', v, b, vs, K, hd, rfl, _⟩, hb⟩
        rw [e1] at hd
        refine ⟨⟨v, ?_⟩, hb⟩
        rcases hd with ⟨h, _, rfl⟩ | ⟨h, rfl⟩ <;> rw [h] <;> rfl
      obtain ⟨S, hS⟩ : ∃ S : ByteArray, (⟨(shT ls).toArray⟩ : ByteArray) = S := ⟨_, rfl⟩
      have HS : Hid ((⟨(shT ls).toArray⟩ : ByteArray) = S) := hS
      have HJ2 : Hid (Calls Tryz.prog 33 #[u3, .string ⟨#[32, 124, 124, 32]⟩] wr fun e w' => e = .returned (.string S) ∧ Below wr.heap.size wr w') := by
        have := HJ.out u3 wr HAA.out HF.out
        rwa [hS] at this
      rw [hS] at HRC
      clear hbel hS
      cases hrd : (rd (shT ls)).isSome with
      | false =>
        rw [hrd] at HRC
        have HN : Hid (shw ls = []) := by show _ = _; rw [HSH.out, hrd]; rfl
        clear hrd
        go_wp2_with (first
          | (go_at_call 33; refine HJ2.out.mono ?_; rintro e w2 ⟨rfl, hl2⟩; have HB2 : Hid (Below w.heap.size w w2) := HBE.out.trans (hl2.mono HBE.out.size))
          | (go_at_call 6; refine (HRC.out _ (HML.out.below HB2.out)).mono ?_; rintro e w3 ⟨⟨v3, rfl⟩, hl3⟩))
        go_ret
        exact ⟨by rw [HN.out]; first | done | rfl, HB2.out.trans (hl3.mono HB2.out.size)⟩
      | true =>
        rw [hrd] at HRC
        have HN : Hid (shw ls = shT ls) := by show _ = _; rw [HSH.out, hrd]; rfl
        clear hrd
        go_wp2_with (first
          | (go_at_call 33; refine HJ2.out.mono ?_; rintro e w2 ⟨rfl, hl2⟩; have HB2 : Hid (Below w.heap.size w w2) := HBE.out.trans (hl2.mono HBE.out.size))
          | (go_at_call 6; refine (HRC.out _ (HML.out.below HB2.out)).mono ?_; rintro e w3 ⟨⟨v3, rfl⟩, hl3⟩))
        go_ret
        exact ⟨by rw [HN.out, ← HS.out]; first | done | rfl, HB2.out.trans (hl3.mono HB2.out.size)⟩

end Go.Proofs.YtimcocmjmlejfaaGreatDoor.rc
