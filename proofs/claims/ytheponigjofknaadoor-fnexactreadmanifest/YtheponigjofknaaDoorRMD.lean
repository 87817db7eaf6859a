import Derived.Test.YtheponigjofknaaDoorRMC
import Derived.Test.YtheponigjofknaaDoorRMR
import Derived.Deep.RegionHeld3
namespace Go.Proofs.YtheponigjofknaaDoor.mt
open Go.ChangeShapes Go.WideShapes Go.ChangeAt Go.RowKit Go.Deep
set_option linter.unusedVariables false
set_option linter.unusedSimpArgs false

/-! ### The specification's ReadManifest -/

/-- What a reader answers. -/
def RmR (w w' : World) (s : ByteArray) (e : Ending) : Prop := ∃ vr, e = .returned (.tuple #[.agg #[.string (rdM s.data.toList).path, .string (rdM s.data.toList).sum, .int .i64 (rdM s.data.toList).z, vr, .string (rdM s.data.toList).key, .int .u64 ((rdM s.data.toList).sig : Int)], .bool (rdB s.data.toList)]) ∧ w'.ownsRow w.heap.size 9 1 vr (rdM s.data.toList).l.length ((rdM s.data.toList).l.map Value.string) ∧ Below w.heap.size w w'

theorem ret_rm {fn : Func} {i j : Tmp} (hf : fn.results = #[.cell i 28, .tmp j]) {tmps : Array Value} {W : World} {b : Nat} {v0 v1 v2 v3 v4 v5 u : Value} {R : Ending → World → Prop} (h4 : tmps.getD i undef = .pointer (some ⟨b, 0, none⟩)) (h5 : tmps.getD j undef = u)
    (k : SixC W b v0 v1 v2 v3 v4 v5) (hR : R (.returned (.tuple #[.agg #[v0, v1, v2, v3, v4, v5], u])) W) :
    bodyPost Tryd.prog fn R Exit.ret { tmps := tmps, defers := [] } W := by
  obtain ⟨k0, k1, k2, k3, k4, k5⟩ := k
  have h4' : tmps[i]?.getD undef = .pointer (some ⟨b, 0, none⟩) := by simpa using h4
  have h5' : tmps[j]?.getD undef = u := by simpa using h5
  exact bodyPost_ret (v := .tuple #[.agg #[v0, v1, v2, v3, v4, v5], u]) (by simp [results, hf, go_sem, h4', h5', k0, k1, k2, k3, k4, k5]) rfl hR

theorem own_nil (w : World) (base : Nat) : w.ownsRow base 9 1 (.slice none 0 0) 0 (([] : List ByteArray).map Value.string) := ⟨rfl, .inl ⟨rfl, rfl⟩⟩

theorem KI.start {w w1 : World} {g n : Nat} {Ls : List ByteArray} (hb : Below ((w.alloc zM).alloc zM).heap.size ((w.alloc zM).alloc zM) w1) (hrw : RwT w1 g n Ls) : KI w w1.heap.size g n Ls M0 w1 := by
  have b1 : Below (w.alloc zM).heap.size (w.alloc zM) w1 := ((Below.refl _ _).alloc (Nat.le_refl _) zM).trans (hb.mono (by simp))
  have b0 : Below w.heap.size w w1 := ((Below.refl _ _).alloc (Nat.le_refl _) zM).trans (b1.mono (by simp))
  obtain ⟨z0, f0⟩ := zero_at w w1 b1
  obtain ⟨z1, f1⟩ := zero_at (w.alloc zM) w1 hb
  rw [show (w.alloc zM).heap.size = w.heap.size + 1 by simp] at z1 f1
  exact ⟨_, z1, own_nil _ _, f1, z0, f0, hrw, b0, Nat.le_refl _⟩

/-- An append of one text to a row of the call's own. -/
theorem app_any (w : World) {ops : Array Oper} {rest : List Oper} {o : Oper} {a : Act} {Q : Exit → Act → World → Prop} (hgd : o.guard = none) (s x : Operand)
    (ho : o.op = .call { callee := .builtin .append, args := #[s, x], argTypes := #[22, 22] })
    (base : Nat) (v : Value) (n : Nat) (l : List ByteArray) (hs : a.eval s = v) (hown : w.ownsRow base 9 1 v n (l.map Value.string)) (y : ByteArray) (ad : Addr) (hx : a.eval x = .slice (some ad) 1 1) (hy : w.cell? ad = some (.string y)) (hlen : n ≤ 2000000) (hbase : base ≤ w.heap.size)
    (h : ∀ v' w', w'.ownsRow base 9 1 v' (n + 1) ((l ++ [y]).map Value.string) → w.grownBy w' v.ownBlock → wpList Tryd.prog ops Q rest (a.put o.dst v') w') : wpList Tryd.prog ops Q (o :: rest) a w := by
  obtain ⟨i0, hi, hz0, hz1, hz2⟩ := sr.info_parts sr.info9
  refine wpList_append_own w hgd s x 22 ho base 9 i0 _ 1 16 Tryd.underlying22 hi hz0 hz1 hz2 rfl (by omega) v n (l.map Value.string) hs hown ad 1 1 [.string y] hx rfl (fun j u hj => ?_) (fun u hu => ?_) (by unfold maxLen; omega) (by omega) hbase ?_
  · match j with
    | 0 => simp at hj; subst hj; simpa [Addr.add] using hy
    | j + 1 => simp at hj
  · simp only [List.mem_singleton] at hu
    subst hu
    rfl
  · intro v' w' h1 h2 h3
    exact h v' w' (by rw [List.map_append]; exact h1) h2

theorem six_set0 {w : World} {b : Nat} {v0 v1 v2 v3 v4 v5 u : Value} (h : SixC w b v0 v1 v2 v3 v4 v5) : SixC (w.setCell ⟨b, 0, none⟩ u) b u v1 v2 v3 v4 v5 := ⟨World.cell?_setCell_same _ _ _ h.1, (oth (by omega)).trans h.2.1, (oth (by omega)).trans h.2.2.1, (oth (by omega)).trans h.2.2.2.1, (oth (by omega)).trans h.2.2.2.2.1, (oth (by omega)).trans h.2.2.2.2.2⟩
theorem six_set1 {w : World} {b : Nat} {v0 v1 v2 v3 v4 v5 u : Value} (h : SixC w b v0 v1 v2 v3 v4 v5) : SixC (w.setCell ⟨b, 1, none⟩ u) b v0 u v2 v3 v4 v5 := ⟨(oth (by omega)).trans h.1, World.cell?_setCell_same _ _ _ h.2.1, (oth (by omega)).trans h.2.2.1, (oth (by omega)).trans h.2.2.2.1, (oth (by omega)).trans h.2.2.2.2.1, (oth (by omega)).trans h.2.2.2.2.2⟩
theorem six_set2 {w : World} {b : Nat} {v0 v1 v2 v3 v4 v5 u : Value} (h : SixC w b v0 v1 v2 v3 v4 v5) : SixC (w.setCell ⟨b, 2, none⟩ u) b v0 v1 u v3 v4 v5 := ⟨(oth (by omega)).trans h.1, (oth (by omega)).trans h.2.1, World.cell?_setCell_same _ _ _ h.2.2.1, (oth (by omega)).trans h.2.2.2.1, (oth (by omega)).trans h.2.2.2.2.1, (oth (by omega)).trans h.2.2.2.2.2⟩
theorem six_set3 {w : World} {b : Nat} {v0 v1 v2 v3 v4 v5 u : Value} (h : SixC w b v0 v1 v2 v3 v4 v5) : SixC (w.setCell ⟨b, 3, none⟩ u) b v0 v1 v2 u v4 v5 := ⟨(oth (by omega)).trans h.1, (oth (by omega)).trans h.2.1, (oth (by omega)).trans h.2.2.1, World.cell?_setCell_same _ _ _ h.2.2.2.1, (oth (by omega)).trans h.2.2.2.2.1, (oth (by omega)).trans h.2.2.2.2.2⟩
theorem six_set4 {w : World} {b : Nat} {v0 v1 v2 v3 v4 v5 u : Value} (h : SixC w b v0 v1 v2 v3 v4 v5) : SixC (w.setCell ⟨b, 4, none⟩ u) b v0 v1 v2 v3 u v5 := ⟨(oth (by omega)).trans h.1, (oth (by omega)).trans h.2.1, (oth (by omega)).trans h.2.2.1, (oth (by omega)).trans h.2.2.2.1, World.cell?_setCell_same _ _ _ h.2.2.2.2.1, (oth (by omega)).trans h.2.2.2.2.2⟩
theorem six_set5 {w : World} {b : Nat} {v0 v1 v2 v3 v4 v5 u : Value} (h : SixC w b v0 v1 v2 v3 v4 v5) : SixC (w.setCell ⟨b, 5, none⟩ u) b v0 v1 v2 v3 v4 u := ⟨(oth (by omega)).trans h.1, (oth (by omega)).trans h.2.1, (oth (by omega)).trans h.2.2.1, (oth (by omega)).trans h.2.2.2.1, (oth (by omega)).trans h.2.2.2.2.1, World.cell?_setCell_same _ _ _ h.2.2.2.2.2⟩

theorem alloc_blk {w : World} {o : Obj} {c : Nat} (h : c < w.heap.size) : (w.alloc o).heap[c]? = w.heap[c]? := ((Below.refl w.heap.size w).alloc (Nat.le_refl _) o).block c h
theorem own_base {w : World} {B b : Nat} {v : Value} {n : Nat} {xs : List Value} (h : w.ownsRow B 9 1 v n xs) (hb : b ≤ B) : w.ownsRow b 9 1 v n xs := by
  obtain ⟨e0, h'⟩ := h
  refine ⟨e0, ?_⟩
  rcases h' with h' | ⟨g, cap, cur, e, q1, q2⟩
  · exact .inl h'
  · exact .inr ⟨g, cap, cur, e, Nat.le_trans hb q1, q2⟩
theorem own_Sa {w : World} {base n : Nat} {v : Value} {l : List ByteArray} (h : w.ownsRow base 9 1 v n (l.map Value.string)) : ∃ a cap, v = .slice a n cap ∧ st.Ss w a n l := by
  by_cases hv : v = .slice none 0 0
  · subst hv
    obtain ⟨a, cap, e⟩ := own_shape h
    cases e
    exact ⟨none, 0, rfl, .inl rfl⟩
  · obtain ⟨g, cap, rfl, -, -, hr⟩ := own_Ss h hv
    exact ⟨_, _, rfl, hr.2⟩
theorem fold_next {f : List UInt8 → Int} {L : List (List UInt8)} {i : Nat} (h : i < L.length) : (L.take (i + 1)).foldl (tk f) M0 = tk f ((L.take i).foldl (tk f) M0) L[i] := by
  rw [List.take_succ_eq_append_getElem h, List.foldl_append]
  rfl
theorem bas_at {L : List (List UInt8)} {i : Nat} (h : i < L.length) : st.atS (bas L) i = BA L[i] := by
  simp [st.atS, bas, h]
theorem Ss_at {w : World} {g n : Nat} {l : List ByteArray} (h : RwT w g n l) {i : Nat} (hi : i < n) : w.cell? ⟨g, i, none⟩ = some (.string (st.atS l i)) := by
  rcases h.2 with h | ⟨b, off, e, hc⟩
  · omega
  · cases e
    simpa using hc i hi

set_option maxRecDepth 100000 in
set_option maxHeartbeats 4000000 in
theorem sread_any (s : ByteArray) (hs : s.size ≤ 1048576) (w : World) :
    Calls Tryd.prog 16 #[.string s] w fun e w' => RmR w w' s e := by
  obtain ⟨L, hL⟩ : ∃ L, (lnA [] s.data.toList).1 = L := ⟨_, rfl⟩
  obtain ⟨hl1, hl2, -⟩ := lnA_len s.data.toList []
  rw [hL] at hl1 hl2
  have hsl : s.data.toList.length = s.size := by simp
  have HLN : Hid (L.length ≤ 1048576 ∧ ∀ x ∈ L, x.length ≤ 1048576) := ⟨by omega, fun x hx => by have := hl1 x hx; simp at this; have h2 : s.data.size = s.size := rfl; omega⟩
  have HSL := Lib.hid (slines_any s hs)
  have HEL : Hid ((lnA [] s.data.toList).1 = L) := hL
  clear hl1 hl2 hsl hL
  go_enter Tryd.func16, Tryd.ntmps16
  go_wp2_with (first | (go_at_call 32; refine (HSL.out _).mono ?_; rintro e w1 ⟨g, n, cap, rfl, hn, hg, hrw, hb1⟩; have HN0 := Lib.hid hn; clear hn; refine Hid.out ?_) | go_in)
  refine Lib.hid ?_
  have hn := HN0.out
  clear HN0
  rw [HEL.out] at hn hrw
  have hK0 : KI w w1.heap.size g n (bas L) M0 w1 := KI.start hb1 hrw
  have HZ1 : Hid (SixC w1 (w.heap.size + 1) (.string ⟨#[]⟩) (.string ⟨#[]⟩) (.int .i64 0) (.slice none 0 0) (.string ⟨#[]⟩) (.int .u64 0)) := by
    obtain ⟨z1, f1⟩ := zero_at (w.alloc zM) w1 hb1
    rw [show (w.alloc zM).heap.size = w.heap.size + 1 by simp] at z1
    exact z1
  have hg2 : w.heap.size + 2 ≤ g := by simpa using hg
  have hgB : g < w1.heap.size := hrw.lt
  obtain ⟨B, hB⟩ : ∃ B, w1.heap.size = B := ⟨_, rfl⟩
  rw [hB] at hK0 hgB
  have HK0 : Hid (KI w B g n (bas L) M0 w1) := hK0
  have HGG : Hid (w.heap.size + 2 ≤ g ∧ g < B) := ⟨hg2, hgB⟩
  obtain ⟨rl, hrl⟩ : ∃ rl, decide ((lnA [] s.data.toList).2 = []) = rl := ⟨_, rfl⟩
  rw [hrl]
  have HRL : Hid (decide ((lnA [] s.data.toList).2 = []) = rl) := hrl
  have HN : Hid (n = L.length) := hn
  have hnb : n ≤ 1048576 := by have := HLN.out.1; omega
  clear hK0 hg2 hgB hB hg hrw hb1 hn hrl
  cases rl
  · obtain ⟨vr, -, -, -, hz, f0, -, hbel, -⟩ := HK0.out
    obtain ⟨c0, c1, c2, c3, c4, c5⟩ := HZ1.out
    have HZ : Hid (SixC w1 w.heap.size (.string ⟨#[]⟩) (.string ⟨#[]⟩) (.int .i64 0) (.slice none 0 0) (.string ⟨#[]⟩) (.int .u64 0)) := hz
    have HBE : Hid (Below w.heap.size w w1) := hbel
    obtain ⟨d0, d1, d2, d3, d4, d5⟩ := hz
    have HNO : Hid (rdM s.data.toList = M0 ∧ rdB s.data.toList = false) := rd_no (decide_no sI_itoa (fun h => by have := HRL.out; rw [decide_eq_false_iff_not] at this; exact this h.1))
    clear hbel
    go_wp2
    refine ret_rm Tryd.results16 rfl rfl (six _ _ _ _ _ _ HZ.out) ⟨.slice none 0 0, ?_, ?_, six_bel HBE.out (Nat.le_refl _)⟩
    · rw [HNO.out.1, HNO.out.2]; rfl
    · rw [HNO.out.1]; exact own_nil _ _
  · go_wp2
    go_loopw [6, 7] (fun vk vi wr => ∃ (i : Nat) (bk : Bool), i ≤ n ∧ vi = .int .i64 (i : Int) ∧ vk = .bool bk ∧ ((L.take i).foldl (tk sI) M0).ok = bk ∧ KI w B g n (bas L) ((L.take i).foldl (tk sI) M0) wr) (fun _ vi _ => n - (intOf vi).toNat)
    case atStart => exact ⟨0, true, Nat.zero_le _, rfl, rfl, rfl, HK0.out⟩
    case round =>
      obtain ⟨i, bk, hi, rfl, rfl, hbk, hK⟩ := hrel
      obtain ⟨M, hM⟩ : ∃ M, (L.take i).foldl (tk sI) M0 = M := ⟨_, rfl⟩
      rw [hM] at hbk hK
      have HM : Hid ((L.take i).foldl (tk sI) M0 = M) := hM
      have HOK : Hid (M.ok = bk) := hbk
      have HK : Hid (KI w B g n (bas L) M wr) := hK
      have HSF : Hid (SzF 1048576 i M) := by
        have := SzF.fold (f := sI) (L.take i) 0 M0 (SzF.zero 1048576) (fun x hx => HLN.out.2 x (List.mem_of_mem_take hx))
        rw [hM] at this
        have hl : (L.take i).length ≤ i := by simp; omega
        obtain ⟨p1, p2, p3, p4, p5, p6⟩ := this
        exact ⟨p1, p2, p3, p4, by omega, p6⟩
      clear hM hbk hK
      by_cases hil : i < n
      · have hiL : i < L.length := by have := HN.out; omega
        obtain ⟨x, hx⟩ : ∃ x, L[i] = x := ⟨_, rfl⟩
        have hxl : x.length ≤ 1048576 := HLN.out.2 x (by rw [← hx]; exact List.getElem_mem hiL)
        have HST : Hid ((L.take (i + 1)).foldl (tk sI) M0 = tk sI M x) := by show _ = _; rw [fold_next hiL, HM.out, hx]
        have hcl : wr.cell? ⟨g, i, none⟩ = some (.string (BA x)) := by
          obtain ⟨vr, _, _, _, _, _, hrw, _, _⟩ := HK.out
          rw [Ss_at hrw hil, bas_at hiL, hx]
        have hil' : (i : Int) < (n : Int) := by omega
        have hi0 : (0 : Int) ≤ (i : Int) := by omega
        have hrz : (BA (cutR x)).size ≤ 1048576 := by rw [BA_size]; exact Nat.le_trans (cutR_len x) hxl
        have HWD : Hid (∀ W, Calls Tryd.prog 33 #[.string (BA x)] W fun e w' => e = .returned (.tuple #[.string (BA (cutW x)), .string (BA (cutR x))]) ∧ Below W.heap.size W w') := sword_any (BA x) (by rw [BA_size]; exact hxl)
        have HIN : Hid (∀ W, Calls Tryd.prog 34 #[.string (BA (cutR x))] W fun e w' => e = .returned (.int .i64 (sI (cutR x))) ∧ w' = W) := sint_any (BA (cutR x)) hrz
        obtain ⟨y, hy⟩ : ∃ y, (wd.rwX (BA (cutR x))).toNat = y := ⟨_, rfl⟩
        have HY : Hid ((wd.rwX (BA (cutR x))).toNat = y) := hy
        clear hy
        have HRW : Hid (∀ W, Calls Tryd.prog 35 #[.string (BA (cutR x))] W fun e w' => e = .returned (.tuple #[.int .u64 (y : Int), .bool (wd.rwB (BA (cutR x)))]) ∧ w' = W) := fun W => by rw [← HY.out, (rwX_rng _).1]; exact wd.rspec_any (BA (cutR x)) hrz W
        clear hrz hxl hx hiL
        by_cases h0 : cutW x = wPath
        · have HT : Hid (tk sI M x = { M with path := BA (cutR x) }) := by show _ = _; unfold tk; rw [if_pos h0]
          have hwe : BA (cutW x) = ⟨#[112, 97, 116, 104]⟩ := by rw [h0]; rfl
          rw [hwe] at HWD
          clear hwe h0
          go_wp2_with (first | (go_at_call 33; refine (HWD.out _).mono ?_; rintro e w2 ⟨rfl, hb2⟩; refine Hid.out ?_) | go_in)
          refine Lib.hid ?_
          have HK2 : Hid (KI w B g n (bas L) M w2) := HK.out.below hb2
          clear hb2 hcl
          obtain ⟨vr, h6, how, hf1, hz, hf0, hrw, hbel, hB⟩ := HK2.out
          have q := hf1 0
          have HS6 := Lib.hid h6
          have HREM := Lib.hid (And.intro how (And.intro hf1 (And.intro hz (And.intro hf0 (And.intro hrw (And.intro hbel hB))))))
          obtain ⟨c0, c1, c2, c3, c4, c5⟩ := h6
          clear how hf1 hz hf0 hrw hbel hB
          go_wp2
          go_roundw
          case rel => exact ⟨i + 1, bk, by omega, by go_num, rfl, by rw [HST.out, HT.out]; exact HOK.out, by rw [HST.out, HT.out]; obtain ⟨how, hf1, hz, hf0, hrw, hbel, hB⟩ := HREM.out; exact KI.set (M := { M with path := BA (cutR x) }) HGG.out.1 HGG.out.2 (six_set0 HS6.out) how hf1 hz hf0 hrw hbel hB⟩
          case measure => simp [intOf]; omega
        by_cases h1 : cutW x = wSum
        · have HT : Hid (tk sI M x = { M with sum := BA (cutR x) }) := by show _ = _; unfold tk; rw [if_neg h0, if_pos h1]
          have hwe : BA (cutW x) = ⟨#[115, 117, 109]⟩ := by rw [h1]; rfl
          rw [hwe] at HWD
          clear hwe h1
          go_wp2_with (first | (go_at_call 33; refine (HWD.out _).mono ?_; rintro e w2 ⟨rfl, hb2⟩; refine Hid.out ?_) | go_in)
          refine Lib.hid ?_
          have HK2 : Hid (KI w B g n (bas L) M w2) := HK.out.below hb2
          clear hb2 hcl
          obtain ⟨vr, h6, how, hf1, hz, hf0, hrw, hbel, hB⟩ := HK2.out
          have q := hf1 1
          have HS6 := Lib.hid h6
          have HREM := Lib.hid (And.intro how (And.intro hf1 (And.intro hz (And.intro hf0 (And.intro hrw (And.intro hbel hB))))))
          obtain ⟨c0, c1, c2, c3, c4, c5⟩ := h6
          clear how hf1 hz hf0 hrw hbel hB
          go_wp2
          go_roundw
          case rel => exact ⟨i + 1, bk, by omega, by go_num, rfl, by rw [HST.out, HT.out]; exact HOK.out, by rw [HST.out, HT.out]; obtain ⟨how, hf1, hz, hf0, hrw, hbel, hB⟩ := HREM.out; exact KI.set (M := { M with sum := BA (cutR x) }) HGG.out.1 HGG.out.2 (six_set1 HS6.out) how hf1 hz hf0 hrw hbel hB⟩
          case measure => simp [intOf]; omega
        by_cases h2 : cutW x = wSize
        · have HT : Hid (tk sI M x = { M with z := sI (cutR x) }) := by show _ = _; unfold tk; rw [if_neg h0, if_neg h1, if_pos h2]
          have hwe : BA (cutW x) = ⟨#[115, 105, 122, 101]⟩ := by rw [h2]; rfl
          rw [hwe] at HWD
          clear hwe h2
          go_wp2_with (first | (go_at_call 33; refine (HWD.out _).mono ?_; rintro e w2 ⟨rfl, hb2⟩; refine Hid.out ?_) | go_in)
          refine Lib.hid ?_
          have HK2 : Hid (KI w B g n (bas L) M w2) := HK.out.below hb2
          clear hb2 hcl
          obtain ⟨vr, h6, how, hf1, hz, hf0, hrw, hbel, hB⟩ := HK2.out
          have q := hf1 2
          have HS6 := Lib.hid h6
          have HREM := Lib.hid (And.intro how (And.intro hf1 (And.intro hz (And.intro hf0 (And.intro hrw (And.intro hbel hB))))))
          obtain ⟨c0, c1, c2, c3, c4, c5⟩ := h6
          clear how hf1 hz hf0 hrw hbel hB
          go_wp2_with (first | (go_at_call 34; refine (HIN.out _).mono ?_; rintro e w3 ⟨rfl, hw⟩; obtain rfl := hw.symm; clear hw) | go_in)
          go_roundw
          case rel => exact ⟨i + 1, bk, by omega, by go_num, rfl, by rw [HST.out, HT.out]; exact HOK.out, by rw [HST.out, HT.out]; obtain ⟨how, hf1, hz, hf0, hrw, hbel, hB⟩ := HREM.out; exact KI.set (M := { M with z := sI (cutR x) }) HGG.out.1 HGG.out.2 (six_set2 HS6.out) how hf1 hz hf0 hrw hbel hB⟩
          case measure => simp [intOf]; omega
        by_cases h3 : cutW x = wRef
        · have HT : Hid (tk sI M x = { M with l := M.l ++ [BA (cutR x)] }) := by show _ = _; unfold tk; rw [if_neg h0, if_neg h1, if_neg h2, if_pos h3]
          have hwe : BA (cutW x) = ⟨#[114, 101, 102]⟩ := by rw [h3]; rfl
          rw [hwe] at HWD
          clear hwe h3
          go_wp2_with (first | (go_at_call 33; refine (HWD.out _).mono ?_; rintro e w2 ⟨rfl, hb2⟩; refine Hid.out ?_) | go_in)
          refine Lib.hid ?_
          have HK2 : Hid (KI w B g n (bas L) M w2) := HK.out.below hb2
          clear hb2 hcl
          obtain ⟨vr, h6, how, hf1, hz, hf0, hrw, hbel, hB⟩ := HK2.out
          have q := hf1 3
          have HS6 := Lib.hid h6
          have HREM := Lib.hid (And.intro how (And.intro hf1 (And.intro hz (And.intro hf0 (And.intro hrw (And.intro hbel hB))))))
          obtain ⟨c0, c1, c2, c3, c4, c5⟩ := h6
          clear how hf1 hz hf0 hrw hbel hB
          have hyc : (w2.alloc (.cells #[.string (BA (cutR x))] 9)).cell? ⟨w2.heap.size, 0, none⟩ = some (.string (BA (cutR x))) := by rw [World.cell?_alloc_new]; rfl
          have HYC := Lib.hid hyc
          have HAL : Hid ((w2.alloc (.cells #[.string (BA (cutR x))] 9)).ownsRow B 9 1 vr M.l.length (M.l.map Value.string)) := own_below HREM.out.1 ((Below.refl _ _).alloc (Nat.le_refl _) _)
          have HBA : Hid (B ≤ (w2.alloc (.cells #[.string (BA (cutR x))] 9)).heap.size) := by show _ ≤ _; rw [World.size_alloc]; have := HREM.out.2.2.2.2.2.2; omega
          have HLE : Hid (M.l.length ≤ 2000000) := by show _ ≤ _; have h1 := HSF.out.len; have h2 := HLN.out.1; have h3 := HN.out; omega
          clear hyc
          go_wp2_with (first
            | (at_builtin; refine app_any _ rfl _ _ rfl B vr M.l.length M.l rfl HAL.out (BA (cutR x)) ⟨w2.heap.size, 0, none⟩ rfl HYC.out HLE.out HBA.out ?_; intro v6 w6 hown6 hg6; refine Hid.out ?_)
            | go_in)
          refine Lib.hid ?_
          obtain ⟨how, hf1, hz, hf0, hrw, hbel, hB⟩ := HREM.out
          obtain ⟨hgg, hgB⟩ := HGG.out
          obtain ⟨a6, cp6, hv6⟩ := own_shape hown6
          subst hv6
          have hsz := hg6.size
          rw [World.size_alloc] at hsz
          have hblk : ∀ c, c < B → w6.heap[c]? = w2.heap[c]? := fun c hc => (hg6.block c (by rw [World.size_alloc]; omega) (fun e => by have := (how.lt c e.symm).1; omega)).trans (alloc_blk (by omega))
          have HS7 : Hid (SixC w6 (w.heap.size + 1) (.string M.path) (.string M.sum) (.int .i64 M.z) vr (.string M.key) (.int .u64 (M.sig : Int))) := HS6.out.kept (hblk _ (by omega))
          have hl7 : (M.l ++ [BA (cutR x)]).length = M.l.length + 1 := by simp
          have HO7 : Hid (w6.ownsRow B 9 1 (.slice a6 (M.l.length + 1) cp6) (M.l ++ [BA (cutR x)]).length ((M.l ++ [BA (cutR x)]).map Value.string)) := by show World.ownsRow _ _ _ _ _ _ _; rw [hl7]; exact hown6
          have HF7 : Hid (∀ j, w6.frozen? ⟨w.heap.size + 1, j, none⟩ = false) := fun j => (World.frozen?_of_block (a := ⟨w.heap.size + 1, j, none⟩) (hblk (w.heap.size + 1) (by omega))).trans (hf1 j)
          have HZ7 := Lib.hid (hz.kept (hblk w.heap.size (by omega)))
          have HG7 : Hid (∀ j, w6.frozen? ⟨w.heap.size, j, none⟩ = false) := fun j => (World.frozen?_of_block (a := ⟨w.heap.size, j, none⟩) (hblk w.heap.size (by omega))).trans (hf0 j)
          have HR7 := Lib.hid (hrw.kept (hblk g hgB))
          have hba : Below w.heap.size w (w2.alloc (.cells #[.string (BA (cutR x))] 9)) := hbel.alloc hbel.size _
          have HB7 : Hid (Below w.heap.size w w6) := hba.grown hg6 hba.size (fun k hk => by have := (how.lt k hk).1; omega)
          have HB8 : Hid (B ≤ w6.heap.size) := by show _ ≤ _; omega
          have q7 := HF7.out 3
          have c7 := HS7.out.2.2.2.1
          clear how hf1 hz hf0 hrw hbel hB hgg hgB hsz hblk hl7 hba hown6 hg6 c0 c1 c2 c3 c4 c5 q
          go_wp2
          go_roundw
          case rel => exact ⟨i + 1, bk, by omega, by go_num, rfl, by rw [HST.out, HT.out]; exact HOK.out, by rw [HST.out, HT.out]; exact KI.set (M := { M with l := M.l ++ [BA (cutR x)] }) HGG.out.1 HGG.out.2 (six_set3 HS7.out) HO7.out HF7.out HZ7.out HG7.out HR7.out HB7.out HB8.out⟩
          case measure => simp [intOf]; omega
        by_cases h4 : cutW x = wKey
        · have HT : Hid (tk sI M x = { M with key := BA (cutR x) }) := by show _ = _; unfold tk; rw [if_neg h0, if_neg h1, if_neg h2, if_neg h3, if_pos h4]
          have hwe : BA (cutW x) = ⟨#[107, 101, 121]⟩ := by rw [h4]; rfl
          rw [hwe] at HWD
          clear hwe h4
          go_wp2_with (first | (go_at_call 33; refine (HWD.out _).mono ?_; rintro e w2 ⟨rfl, hb2⟩; refine Hid.out ?_) | go_in)
          refine Lib.hid ?_
          have HK2 : Hid (KI w B g n (bas L) M w2) := HK.out.below hb2
          clear hb2 hcl
          obtain ⟨vr, h6, how, hf1, hz, hf0, hrw, hbel, hB⟩ := HK2.out
          have q := hf1 4
          have HS6 := Lib.hid h6
          have HREM := Lib.hid (And.intro how (And.intro hf1 (And.intro hz (And.intro hf0 (And.intro hrw (And.intro hbel hB))))))
          obtain ⟨c0, c1, c2, c3, c4, c5⟩ := h6
          clear how hf1 hz hf0 hrw hbel hB
          go_wp2
          go_roundw
          case rel => exact ⟨i + 1, bk, by omega, by go_num, rfl, by rw [HST.out, HT.out]; exact HOK.out, by rw [HST.out, HT.out]; obtain ⟨how, hf1, hz, hf0, hrw, hbel, hB⟩ := HREM.out; exact KI.set (M := { M with key := BA (cutR x) }) HGG.out.1 HGG.out.2 (six_set4 HS6.out) how hf1 hz hf0 hrw hbel hB⟩
          case measure => simp [intOf]; omega
        by_cases h5 : cutW x = wSig
        · have HT : Hid (tk sI M x = { M with sig := y, ok := M.ok && wd.rwB (BA (cutR x)) }) := by show _ = _; unfold tk; rw [if_neg h0, if_neg h1, if_neg h2, if_neg h3, if_neg h4, if_pos h5, HY.out]
          have hwe : BA (cutW x) = ⟨#[115, 105, 103]⟩ := by rw [h5]; rfl
          rw [hwe] at HWD
          clear hwe h5
          go_wp2_with (first | (go_at_call 33; refine (HWD.out _).mono ?_; rintro e w2 ⟨rfl, hb2⟩; refine Hid.out ?_) | go_in)
          refine Lib.hid ?_
          have HK2 : Hid (KI w B g n (bas L) M w2) := HK.out.below hb2
          clear hb2 hcl
          obtain ⟨vr, h6, how, hf1, hz, hf0, hrw, hbel, hB⟩ := HK2.out
          have q := hf1 5
          have HS6 := Lib.hid h6
          have HREM := Lib.hid (And.intro how (And.intro hf1 (And.intro hz (And.intro hf0 (And.intro hrw (And.intro hbel hB))))))
          obtain ⟨c0, c1, c2, c3, c4, c5⟩ := h6
          clear how hf1 hz hf0 hrw hbel hB
          cases bk
          · go_wp2_with (first | (go_at_call 35; refine (HRW.out _).mono ?_; rintro e w3 ⟨rfl, hw⟩; obtain rfl := hw.symm; clear hw) | go_in)
            go_roundw
            case rel => exact ⟨i + 1, _, by omega, by go_num, rfl, by rw [HST.out, HT.out]; show (M.ok && _) = _; rw [HOK.out]; rfl, by rw [HST.out, HT.out]; obtain ⟨how, hf1, hz, hf0, hrw, hbel, hB⟩ := HREM.out; exact KI.set (M := { M with sig := y, ok := M.ok && wd.rwB (BA (cutR x)) }) HGG.out.1 HGG.out.2 (six_set5 HS6.out) how hf1 hz hf0 hrw hbel hB⟩
            case measure => simp [intOf]; omega
          · go_wp2_with (first | (go_at_call 35; refine (HRW.out _).mono ?_; rintro e w3 ⟨rfl, hw⟩; obtain rfl := hw.symm; clear hw) | go_in)
            go_roundw
            case rel => exact ⟨i + 1, _, by omega, by go_num, rfl, by rw [HST.out, HT.out]; show (M.ok && _) = _; rw [HOK.out]; rfl, by rw [HST.out, HT.out]; obtain ⟨how, hf1, hz, hf0, hrw, hbel, hB⟩ := HREM.out; exact KI.set (M := { M with sig := y, ok := M.ok && wd.rwB (BA (cutR x)) }) HGG.out.1 HGG.out.2 (six_set5 HS6.out) how hf1 hz hf0 hrw hbel hB⟩
            case measure => simp [intOf]; omega
        have HT : Hid (tk sI M x = { M with ok := false }) := by show _ = _; unfold tk; rw [if_neg h0, if_neg h1, if_neg h2, if_neg h3, if_neg h4, if_neg h5]
        have e0 : ((BA (cutW x)).toList == [112, 97, 116, 104]) = false := by rw [ByteArray.toList_eq]; exact beq_eq_false_iff_ne.2 h0
        have n0 : ¬ (BA (cutW x)).toList = [112, 97, 116, 104] := beq_eq_false_iff_ne.1 e0
        clear h0
        have e1 : ((BA (cutW x)).toList == [115, 117, 109]) = false := by rw [ByteArray.toList_eq]; exact beq_eq_false_iff_ne.2 h1
        have n1 : ¬ (BA (cutW x)).toList = [115, 117, 109] := beq_eq_false_iff_ne.1 e1
        clear h1
        have e2 : ((BA (cutW x)).toList == [115, 105, 122, 101]) = false := by rw [ByteArray.toList_eq]; exact beq_eq_false_iff_ne.2 h2
        have n2 : ¬ (BA (cutW x)).toList = [115, 105, 122, 101] := beq_eq_false_iff_ne.1 e2
        clear h2
        have e3 : ((BA (cutW x)).toList == [114, 101, 102]) = false := by rw [ByteArray.toList_eq]; exact beq_eq_false_iff_ne.2 h3
        have n3 : ¬ (BA (cutW x)).toList = [114, 101, 102] := beq_eq_false_iff_ne.1 e3
        clear h3
        have e4 : ((BA (cutW x)).toList == [107, 101, 121]) = false := by rw [ByteArray.toList_eq]; exact beq_eq_false_iff_ne.2 h4
        have n4 : ¬ (BA (cutW x)).toList = [107, 101, 121] := beq_eq_false_iff_ne.1 e4
        clear h4
        have e5 : ((BA (cutW x)).toList == [115, 105, 103]) = false := by rw [ByteArray.toList_eq]; exact beq_eq_false_iff_ne.2 h5
        have n5 : ¬ (BA (cutW x)).toList = [115, 105, 103] := beq_eq_false_iff_ne.1 e5
        clear h5
        go_wp2_with (first | (go_at_call 33; refine (HWD.out _).mono ?_; rintro e w2 ⟨rfl, hb2⟩; refine Hid.out ?_) | go_in)
        refine Lib.hid ?_
        have HK2 : Hid (KI w B g n (bas L) M w2) := HK.out.below hb2
        clear hb2 hcl
        go_wp2
        go_roundw
        case rel => exact ⟨i + 1, false, by omega, by go_num, rfl, by rw [HST.out, HT.out], by rw [HST.out, HT.out]; exact HK2.out⟩
        case measure => simp [intOf]; omega
      · obtain rfl : i = n := by omega
        have HFD : Hid ((lnA [] s.data.toList).1.foldl (tk sI) M0 = M) := by show _ = _; rw [HEL.out, ← HM.out, HN.out, List.take_length]
        have HRE : Hid ((lnA [] s.data.toList).2 = []) := by have := HRL.out; rwa [decide_eq_true_eq] at this
        obtain ⟨vr, h6, how, hf1, hz, hf0, hrw, hbel, hB⟩ := HK.out
        have HO := Lib.hid how
        obtain ⟨a, cp, hvr, hss⟩ := own_Sa how
        obtain ⟨d0, d1, d2, d3, d4, d5⟩ := hz
        have HZ : Hid (SixC wr w.heap.size (.string ⟨#[]⟩) (.string ⟨#[]⟩) (.int .i64 0) (.slice none 0 0) (.string ⟨#[]⟩) (.int .u64 0)) := ⟨d0, d1, d2, d3, d4, d5⟩
        have HBE : Hid (Below w.heap.size w wr) := hbel
        have HF0 : Hid (∀ j, wr.frozen? ⟨w.heap.size, j, none⟩ = false) := hf0
        have HS6 := Lib.hid h6
        have HSS := Lib.hid hss
        have HVR := Lib.hid hvr
        clear h6 how hf1 hrw hbel hB hss hvr
        cases bk
        · have HNO : Hid (rdM s.data.toList = M0 ∧ rdB s.data.toList = false) := rd_no (decide_no sI_itoa (fun h => by have h2 := h.2.1; rw [HFD.out, HOK.out] at h2; cases h2))
          go_wp2
          refine ret_rm Tryd.results16 rfl rfl (six _ _ _ _ _ _ HZ.out) ⟨.slice none 0 0, ?_, ?_, six_bel HBE.out (Nat.le_refl _)⟩
          · rw [HNO.out.1, HNO.out.2]; rfl
          · rw [HNO.out.1]; exact own_nil _ _
        · by_cases hse : s = ⟨#[]⟩
          · have HNO : Hid (rdM s.data.toList = M0 ∧ rdB s.data.toList = false) := rd_no (decide_no sI_itoa (fun h => h.2.2.1 hse))
            have hsb : s.toList = [] := by rw [hse, ByteArray.toList_eq]
            clear hse
            go_wp2
            refine ret_rm Tryd.results16 rfl rfl (six _ _ _ _ _ _ HZ.out) ⟨.slice none 0 0, ?_, ?_, six_bel HBE.out (Nat.le_refl _)⟩
            · rw [HNO.out.1, HNO.out.2]; rfl
            · rw [HNO.out.1]; exact own_nil _ _
          · have hsb : ¬ s.toList = [] := by
              rw [ByteArray.toList_eq]
              exact fun e => hse (by apply ByteArray.ext; apply Array.ext'; exact e)
            have hsi : s.toList.isEmpty = false := by simpa using hsb
            have HSE := Lib.hid hse
            obtain ⟨T, hT⟩ : ∃ T, mtT M.path M.sum M.key M.z M.sig M.l M.l.length = T := ⟨_, rfl⟩
            have HT : Hid (mtT M.path M.sum M.key M.z M.sig M.l M.l.length = T) := hT
            obtain ⟨c0, c1, c2, c3, c4, c5⟩ := HS6.out
            have hvr := HVR.out
            subst hvr
            clear HVR
            have HSM : Hid (Calls Tryd.prog 7 #[.agg #[.string M.path, .string M.sum, .int .i64 M.z, .slice a M.l.length cp, .string M.key, .int .u64 (M.sig : Int)]] wr fun e w' => e = .returned (.string T) ∧ Below wr.heap.size wr w') := by
              have hz := HSF.out
              have hn := hz.len
              have := smt_any M.path M.sum M.key M.z M.sig M.l a M.l.length cp wr HSS.out (by omega) hz.refs hz.path hz.sum hz.key hz.sig
              rw [hT] at this
              exact this
            clear hT hse
            obtain ⟨LEN, hLEN⟩ : ∃ LEN, M.l.length = LEN := ⟨_, rfl⟩
            have HLE : Hid (M.l.length = LEN) := hLEN
            rw [hLEN] at HSM HS6 HO c3
            have HKb : Hid (∀ w2, Below wr.heap.size wr w2 → KI w B g i (bas L) M w2) := fun w2 h => HK.out.below h
            clear hLEN HK HSS
            by_cases hTs : T = s
            · have HYS : Hid (rdM s.data.toList = M ∧ rdB s.data.toList = true) := rd_yes (decide_yes HSE.out HOK.out HSF.out.sig (HT.out.trans hTs))
              have hTb : (T.toList == s.toList) = true := by rw [hTs, beq_self_eq_true]
              clear hTs
              go_wp2_with (first | (go_at_call 7; refine HSM.out.mono ?_; rintro e w2 ⟨rfl, hb2⟩; refine Hid.out ?_) | go_in)
              refine Lib.hid ?_
              have h6' := HS6.out.belowM hb2
              have HZ2 := Lib.hid (HZ.out.belowM hb2)
              have hf0' : ∀ j, w2.frozen? ⟨w.heap.size, j, none⟩ = false := fun j => ((bcell hb2).2 _ _ (World.block_lt_of_cell? _ _ HZ.out.1)).trans (HF0.out j)
              have HO2 := Lib.hid (own_below HO.out hb2)
              have HBE2 : Hid (Below w.heap.size w w2) := HBE.out.trans (hb2.mono HBE.out.size)
              clear c0 c1 c2 c3 c4 c5 d0 d1 d2 d3 d4 d5 hf0 hb2
              obtain ⟨c0, c1, c2, c3, c4, c5⟩ := h6'
              obtain ⟨d0, d1, d2, d3, d4, d5⟩ := HZ2.out
              go_wp2
              refine ret_rm Tryd.results16 rfl rfl (six _ _ _ _ _ _ HZ2.out) ⟨.slice a LEN cp, ?_, ?_, six_bel HBE2.out (Nat.le_refl _)⟩
              · rw [HYS.out.1, HYS.out.2]; rfl
              · rw [HYS.out.1, HLE.out]
                obtain ⟨q1, q2⟩ := HGG.out
                exact own_base (own_kept HO2.out (fun k hk => six_blk (by omega))) (by omega)
            · have HNO : Hid (rdM s.data.toList = M0 ∧ rdB s.data.toList = false) := rd_no (decide_no sI_itoa (fun h => by have h2 := h.2.2.2; rw [HFD.out, HT.out] at h2; exact hTs h2))
              have hTb : (T.toList == s.toList) = false := by
                rw [ByteArray.toList_eq, ByteArray.toList_eq]
                exact beq_eq_false_iff_ne.2 (fun e => hTs (by apply ByteArray.ext; apply Array.ext'; exact e))
              have hTn : ¬ T.toList = s.toList := beq_eq_false_iff_ne.1 hTb
              clear hTs
              go_wp2_with (first | (go_at_call 7; refine HSM.out.mono ?_; rintro e w2 ⟨rfl, hb2⟩; refine Hid.out ?_) | go_in)
              refine Lib.hid ?_
              have h6' := HS6.out.belowM hb2
              have HZ2 := Lib.hid (HZ.out.belowM hb2)
              have hf0' : ∀ j, w2.frozen? ⟨w.heap.size, j, none⟩ = false := fun j => ((bcell hb2).2 _ _ (World.block_lt_of_cell? _ _ HZ.out.1)).trans (HF0.out j)
              have HO2 := Lib.hid (own_below HO.out hb2)
              have HBE2 : Hid (Below w.heap.size w w2) := HBE.out.trans (hb2.mono HBE.out.size)
              clear c0 c1 c2 c3 c4 c5 d0 d1 d2 d3 d4 d5 hf0 hb2
              obtain ⟨c0, c1, c2, c3, c4, c5⟩ := h6'
              obtain ⟨d0, d1, d2, d3, d4, d5⟩ := HZ2.out
              go_wp2
              refine ret_rm Tryd.results16 rfl rfl (six _ _ _ _ _ _ HZ2.out) ⟨.slice none 0 0, ?_, ?_, six_bel HBE2.out (Nat.le_refl _)⟩
              · rw [HNO.out.1, HNO.out.2]; rfl
              · rw [HNO.out.1]; exact own_nil _ _

end Go.Proofs.YtheponigjofknaaDoor.mt
