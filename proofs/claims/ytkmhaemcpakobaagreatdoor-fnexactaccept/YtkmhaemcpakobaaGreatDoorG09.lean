import Derived.Test.YtkmhaemcpakobaaGreatDoorG08
import Derived.Deep.RegionHeld3
import Derived.Shelf.Small.Strs
import Derived.Shelf.Strings.Prefix
import Derived.Shelf.Strings.Cut
import Derived.Shelf.Strings.Shaped
import Derived.Shelf.Strconv.ParseIntPublic10
import Derived.Test.YtkmhaemcpakobaaGreatDoorProg
import Derived.Lib.IndexLaws
import Derived.Lib.IndexBytes
namespace Go.Proofs.YtkmhaemcpakobaaGreatDoor.mt
open Go.ChangeShapes Go.WideShapes Go.ChangeAt Go.RowKit Go.Deep
set_option linter.unusedVariables false
set_option linter.unusedSimpArgs false

/-! ### The specification's ReadManifest -/

/-- What a reader answers. -/
def RmR (w w' : World) (s : ByteArray) (e : Ending) : Prop := ∃ vr, e = .returned (.tuple #[.agg #[.string (rdM s.data.toList).path, .string (rdM s.data.toList).sum, .int .i64 (rdM s.data.toList).z, vr, .string (rdM s.data.toList).key, .int .u64 ((rdM s.data.toList).sig : Int)], .bool (rdB s.data.toList)]) ∧ w'.ownsRow w.heap.size 9 1 vr (rdM s.data.toList).l.length ((rdM s.data.toList).l.map Value.string) ∧ Below w.heap.size w w'

theorem ret_rm {fn : Func} {i j : Tmp} (hf : fn.results = #[.cell i 43, .tmp j]) {tmps : Array Value} {W : World} {b : Nat} {v0 v1 v2 v3 v4 v5 u : Value} {R : Ending → World → Prop} (h4 : tmps.getD i undef = .pointer (some ⟨b, 0, none⟩)) (h5 : tmps.getD j undef = u)
    (k : SixC W b v0 v1 v2 v3 v4 v5) (hR : R (.returned (.tuple #[.agg #[v0, v1, v2, v3, v4, v5], u])) W) :
    bodyPost Tryz.prog fn R Exit.ret { tmps := tmps, defers := [] } W := by
  obtain ⟨k0, k1, k2, k3, k4, k5⟩ := k
  have h4' : tmps[i]?.getD undef = .pointer (some ⟨b, 0, none⟩) := by simpa using h4
  have h5' : tmps[j]?.getD undef = u := by simpa using h5
  exact bodyPost_ret (v := .tuple #[.agg #[v0, v1, v2, v3, v4, v5], u]) (by simp [results, hf, go_sem, h4', h5', k0, k1, k2, k3, k4, k5]) rfl hR

theorem own_nil (w : World) (base : Nat) : w.ownsRow base 9 1 (.slice none 0 0) 0 (([] : List ByteArray).map Value.string) := ⟨rfl, .inl ⟨rfl, rfl⟩⟩

theorem KI.start {w w1 : World} {g n : Nat} {Ls : List ByteArray} (hb : Below ((w.alloc zM).alloc zM).heap.size ((w.alloc zM).alloc zM) w1) (hrw : RwT w1 g n Ls) : KI w w1.heap.size g n Ls M0 w1 := by
  have b1 : Below (w.alloc zM).heap.size (w.alloc zM) w1 := ((Below.refl _ _).alloc (Nat.le_refl _) zM).trans (hb.mono (by simp))
  have b0 : Below w.heap.size w w1 := ((Below.refl _ _).alloc (Nat.le_refl _) zM).trans (b1.mono (by simp))
  obtain ⟨z0, f0⟩ := zero_at w w1 b1
  obtain ⟨z1, f1⟩ := zero_at (w.alloc zM) w1 hb
  rw [show (w.alloc zM).heap.size = w.heap.size + 1 by simp] at z1 f1
  exact ⟨_, z1, own_nil _ _, f1, z0, f0, hrw, b0, Nat.le_refl _⟩

/-- An append of one text to a row of the call's own. -/
theorem app_any (w : World) {ops : Array Oper} {rest : List Oper} {o : Oper} {a : Act} {Q : Exit → Act → World → Prop} (hgd : o.guard = none) (s x : Operand)
    (ho : o.op = .call { callee := .builtin .append, args := #[s, x], argTypes := #[41, 41] })
    (base : Nat) (v : Value) (n : Nat) (l : List ByteArray) (hs : a.eval s = v) (hown : w.ownsRow base 9 1 v n (l.map Value.string)) (y : ByteArray) (ad : Addr) (hx : a.eval x = .slice (some ad) 1 1) (hy : w.cell? ad = some (.string y)) (hlen : n ≤ 2000000) (hbase : base ≤ w.heap.size)
    (h : ∀ v' w', w'.ownsRow base 9 1 v' (n + 1) ((l ++ [y]).map Value.string) → w.grownBy w' v.ownBlock → wpList Tryz.prog ops Q rest (a.put o.dst v') w') : wpList Tryz.prog ops Q (o :: rest) a w := by
  obtain ⟨i0, hi, hz0, hz1, hz2⟩ := sr.info_parts sr.info9
  refine wpList_append_own w hgd s x 41 ho base 9 i0 _ 1 16 Tryz.underlying41 hi hz0 hz1 hz2 rfl (by omega) v n (l.map Value.string) hs hown ad 1 1 [.string y] hx rfl (fun j u hj => ?_) (fun u hu => ?_) (by unfold maxLen; omega) (by omega) hbase ?_
  · match j with
    | 0 => simp at hj; subst hj; simpa [Addr.add] using hy
    | j + 1 => simp at hj
  · simp only [List.mem_singleton] at hu
    subst hu
    rfl
  · intro v' w' h1 h2 h3
    exact h v' w' (by rw [List.map_append]; exact h1) h2

theorem six_set0 {w : World} {b : Nat} {v0 v1 v2 v3 v4 v5 u : Value} (h : SixC w b v0 v1 v2 v3 v4 v5) : SixC (w.setCell ⟨b, 0, none⟩ u) b u v1 v2 v3 v4 v5 := ⟨World.cell?_setCell_same _ _ _ h.1, (oth (by omega)).trans h.2.1, (oth (by omega)).trans h.2.2.1, (oth (by omega)).trans h.2.2.2.1, (oth (by omega)).trans h.2.2.2.2.1, (oth (by omega)).trans h.2.2.2.2.2⟩
theorem six_set1 {w : World} {b : Nat} {v0 v1 v2 v3 v4 v5 u : Value} (h : SixC w b v0 v1 v2 v3 v4 v5) : SixC (w.setCell ⟨b, 1, none⟩ u) b v0 u v2 v3 v4 v5 := ⟨(oth (by omega)).trans h.1, World.cell?_setCell_same _ _ _ h.2.1, (oth (by omega)).trans h.2.2.1, (oth (by omega)).trans h.2.2.2.1, (oth (by omega)).trans h.2.2.2.2.1, (oth (by omega)).trans h.2.2.2.2.2⟩
theorem six_set2 {w : World} {b : Nat} {v0 v1 v2 v3 v4 v5 u : Value} (h : SixC w b v0 v1 v2 v3 v4 v5) : SixC (w.setCell ⟨b, 2, none⟩ u) b v0 v1 u v3 v4 v5 := ⟨(oth (by omega)).trans h.1, (oth (by omega)).trans h.2.1, World.cell?_setCell_same _ _ _ h.2.2.1, (oth (by omega)).trans h.2.2.2.1, (oth (by omega)).trans h.2.2.2.2.1, (oth (by omega)).trans h.2.2.2.2.2⟩
theorem six_set3 {w : World} {b : Nat} {v0 v1 v2 v3 v4 v5 u : Value} (h : SixC w b v0 v1 v2 v3 v4 v5) : SixC (w.setCell ⟨b, 3, none⟩ u) b v0 v1 v2 u v4 v5 := ⟨(oth (by omega)).trans h.1, (oth (by omega)).trans h.2.1, (oth (by omega)).trans h.2.2.1, World.cell?_setCell_same _ _ _ h.2.2.2.1, (oth (by omega)).trans h.2.2.2.2.1, (oth (by omega)).trans h.2.2.2.2.2⟩
theorem six_set4 {w : World} {b : Nat} {v0 v1 v2 v3 v4 v5 u : Value} (h : SixC w b v0 v1 v2 v3 v4 v5) : SixC (w.setCell ⟨b, 4, none⟩ u) b v0 v1 v2 v3 u v5 := ⟨(oth (by omega)).trans h.1, (oth (by omega)).trans h.2.1, (oth (by omega)).trans h.2.2.1, (oth (by omega)).trans h.2.2.2.1, World.cell?_setCell_same _ _ _ h.2.2.2.2.1, (oth (by omega)).trans h.2.2.2.2.2⟩
theorem six_set5 {w : World} {b : Nat} {v0 v1 v2 v3 v4 v5 u : Value} (h : SixC w b v0 v1 v2 v3 v4 v5) : SixC (w.setCell ⟨b, 5, none⟩ u) b v0 v1 v2 v3 v4 u := ⟨(oth (by omega)).trans h.1, (oth (by omega)).trans h.2.1, (oth (by omega)).trans h.2.2.1, (oth (by omega)).trans h.2.2.2.1, (oth (by omega)).trans h.2.2.2.2.1, World.cell?_setCell_same _ _ _ h.2.2.2.2.2⟩

theorem alloc_blk {w : World} {o : Obj} {c : Nat} (h : c < w.heap.size) : (w.alloc o).heap[c]? = w.heap[c]? := ((Below.refl w.heap.size w).alloc (Nat.le_refl _) o).block c h
theorem own_base {w : World} {B b : Nat} {v : Value} {n : Nat} {xs : List Value} (h : w.ownsRow B 9 1 v n xs) (hb : b ≤ B) : w.ownsRow b 9 1 v n xs := by
  obtain ⟨e0, h'⟩ := h
  refine ⟨e0, ?_⟩
  rcases h' with h' | ⟨g, cap, cur, e, q1, q2⟩
  · exact .inl h'
  · exact .inr ⟨g, cap, cur, e, Nat.le_trans hb q1, q2⟩
theorem own_Sa {w : World} {base n : Nat} {v : Value} {l : List ByteArray} (h : w.ownsRow base 9 1 v n (l.map Value.string)) : ∃ a cap, v = .slice a n cap ∧ st.Ss w a n l := by
  by_cases hv : v = .slice none 0 0
  · subst hv
    obtain ⟨a, cap, e⟩ := own_shape h
    cases e
    exact ⟨none, 0, rfl, .inl rfl⟩
  · obtain ⟨g, cap, rfl, -, -, hr⟩ := own_Ss h hv
    exact ⟨_, _, rfl, hr.2⟩
theorem fold_next {f : List UInt8 → Int} {L : List (List UInt8)} {i : Nat} (h : i < L.length) : (L.take (i + 1)).foldl (tk f) M0 = tk f ((L.take i).foldl (tk f) M0) L[i] := by
  rw [List.take_succ_eq_append_getElem h, List.foldl_append]
  rfl
theorem bas_at {L : List (List UInt8)} {i : Nat} (h : i < L.length) : st.atS (bas L) i = BA L[i] := by
  simp [st.atS, bas, h]
theorem Ss_at {w : World} {g n : Nat} {l : List ByteArray} (h : RwT w g n l) {i : Nat} (hi : i < n) : w.cell? ⟨g, i, none⟩ = some (.string (st.atS l i)) := by
  rcases h.2 with h | ⟨b, off, e, hc⟩
  · omega
  · cases e
    simpa using hc i hi

set_option maxRecDepth 100000 in
set_option maxHeartbeats 4000000 in
theorem sread_any (s : ByteArray) (hs : s.size ≤ 1048576) (w : World) :
    Calls Tryz.prog 14 #[.string s] w fun e w' => RmR w w' s e := by
  obtain ⟨L, hL⟩ : ∃ L, (lnA [] s.data.toList).1 = L := ⟨_, rfl⟩
  obtain ⟨hl1, hl2, -⟩ := lnA_len s.data.toList []
  rw [hL] at hl1 hl2
  have hsl : s.data.toList.length = s.size := by simp
  have HLN : Hid (L.length ≤ 1048576 ∧ ∀ x ∈ L, x.length ≤ 1048576) := ⟨by omega, fun x hx => by have := hl1 x hx; simp at this; have h2 : s.data.size = s.size := rfl; omega⟩
  have HSL := Lib.hid (slines_any s hs)
  have HEL : Hid ((lnA [] s.data.toList).1 = L) := hL
  clear hl1 hl2 hsl hL
  go_enter Tryz.func14, Tryz.ntmps14
  go_wp2_with (first | (go_at_call 26; refine (HSL.out _).mono ?_; rintro e w1 ⟨g, n, cap, rfl, hn, hg, hrw, hb1⟩; have HN0 := Lib.hid hn; clear hn; refine Hid.out ?_) | go_in)
  refine Lib.hid ?_
  have hn := HN0.out
  clear HN0
  rw [HEL.out] at hn hrw
  have hK0 : KI w w1.heap.size g n (bas L) M0 w1 := KI.start hb1 hrw
  have HZ1 : Hid (SixC w1 (w.heap.size + 1) (.string ⟨#[]⟩) (.string ⟨#[]⟩) (.int .i64 0) (.slice none 0 0) (.string ⟨#[]⟩) (.int .u64 0)) := by
    obtain ⟨z1, f1⟩ := zero_at (w.alloc zM) w1 hb1
    rw [show (w.alloc zM).heap.size = w.heap.size + 1 by simp] at z1
    exact z1
  have hg2 : w.heap.size + 2 ≤ g := by simpa using hg
  have hgB : g < w1.heap.size := hrw.lt
  obtain ⟨B, hB⟩ : ∃ B, w1.heap.size = B := ⟨_, rfl⟩
  rw [hB] at hK0 hgB
  have HK0 : Hid (KI w B g n (bas L) M0 w1) := hK0
  have HGG : Hid (w.heap.size + 2 ≤ g ∧ g < B) := ⟨hg2, hgB⟩
  obtain ⟨rl, hrl⟩ : ∃ rl, decide ((lnA [] s.data.toList).2 = []) = rl := ⟨_, rfl⟩
  rw [hrl]
  have HRL : Hid (decide ((lnA [] s.data.toList).2 = []) = rl) := hrl
  have HN : Hid (n = L.length) := hn
  have hnb : n ≤ 1048576 := by have := HLN.out.1; omega
  clear hK0 hg2 hgB hB hg hrw hb1 hn hrl
  cases rl
  · obtain ⟨vr, -, -, -, hz, f0, -, hbel, -⟩ := HK0.out
    obtain ⟨c0, c1, c2, c3, c4, c5⟩ := HZ1.out
    have HZ : Hid (SixC w1 w.heap.size (.string ⟨#[]⟩) (.string ⟨#[]⟩) (.int .i64 0) (.slice none 0 0) (.string ⟨#[]⟩) (.int .u64 0)) := hz
    have HBE : Hid (Below w.heap.size w w1) := hbel
    obtain ⟨d0, d1, d2, d3, d4, d5⟩ := hz
    have HNO : Hid (rdM s.data.toList = M0 ∧ rdB s.data.toList = false) := rd_no (decide_no sI_itoa (fun h => by have := HRL.out; rw [decide_eq_false_iff_not] at this; exact this h.1))
    clear hbel
    go_wp2
    refine ret_rm Tryz.results14 rfl rfl (six _ _ _ _ _ _ HZ.out) ⟨.slice none 0 0, ?_, ?_, six_bel HBE.out (Nat.le_refl _)⟩
    · rw [HNO.out.1, HNO.out.2]; rfl
    · rw [HNO.out.1]; exact own_nil _ _
  · go_wp2
    go_loopw [6, 7] (fun vk vi wr => ∃ (i : Nat) (bk : Bool), i ≤ n ∧ vi = .int .i64 (i : Int) ∧ vk = .bool bk ∧ ((L.take i).foldl (tk sI) M0).ok = bk ∧ KI w B g n (bas L) ((L.take i).foldl (tk sI) M0) wr) (fun _ vi _ => n - (intOf vi).toNat)
    case atStart => exact ⟨0, true, Nat.zero_le _, rfl, rfl, rfl, HK0.out⟩
    case round =>
      obtain ⟨i, bk, hi, rfl, rfl, hbk, hK⟩ := hrel
      obtain ⟨M, hM⟩ : ∃ M, (L.take i).foldl (tk sI) M0 = M := ⟨_, rfl⟩
      rw [hM] at hbk hK
      have HM : Hid ((L.take i).foldl (tk sI) M0 = M) := hM
      have HOK : Hid (M.ok = bk) := hbk
      have HK : Hid (KI w B g n (bas L) M wr) := hK
      have HSF : Hid (SzF 1048576 i M) := by
        have := SzF.fold (f := sI) (L.take i) 0 M0 (SzF.zero 1048576) (fun x hx => HLN.out.2 x (List.mem_of_mem_take hx))
        rw [hM] at this
        have hl : (L.take i).length ≤ i := by simp; omega
        obtain ⟨p1, p2, p3, p4, p5, p6⟩ := this
        exact ⟨p1, p2, p3, p4, by omega, p6⟩
      clear hM hbk hK
      by_cases hil : i < n
      · have hiL : i < L.length := by have := HN.out; omega
        obtain ⟨x, hx⟩ : ∃ x, L[i] = x := ⟨_, rfl⟩
        have hxl : x.length ≤ 1048576 := HLN.out.2 x (by rw [← hx]; exact List.getElem_mem hiL)
        have HST : Hid ((L.take (i + 1)).foldl (tk sI) M0 = tk sI M x) := by show _ = _; rw [fold_next hiL, HM.out, hx]
        have hcl : wr.cell? ⟨g, i, none⟩ = some (.string (BA x)) := by
          obtain ⟨vr, _, _, _, _, _, hrw, _, _⟩ := HK.out
          rw [Ss_at hrw hil, bas_at hiL, hx]
        have hil' : (i : Int) < (n : Int) := by omega
        have hi0 : (0 : Int) ≤ (i : Int) := by omega
        have hrz : (BA (cutR x)).size ≤ 1048576 := by rw [BA_size]; exact Nat.le_trans (cutR_len x) hxl
        have HWD : Hid (∀ W, Calls Tryz.prog 27 #[.string (BA x)] W fun e w' => e = .returned (.tuple #[.string (BA (cutW x)), .string (BA (cutR x))]) ∧ Below W.heap.size W w') := sword_any (BA x) (by rw [BA_size]; exact hxl)
        have HIN : Hid (∀ W, Calls Tryz.prog 28 #[.string (BA (cutR x))] W fun e w' => e = .returned (.int .i64 (sI (cutR x))) ∧ w' = W) := sint_any (BA (cutR x)) hrz
        obtain ⟨y, hy⟩ : ∃ y, (wd.rwX (BA (cutR x))).toNat = y := ⟨_, rfl⟩
        have HY : Hid ((wd.rwX (BA (cutR x))).toNat = y) := hy
        clear hy
        have HRW : Hid (∀ W, Calls Tryz.prog 29 #[.string (BA (cutR x))] W fun e w' => e = .returned (.tuple #[.int .u64 (y : Int), .bool (wd.rwB (BA (cutR x)))]) ∧ w' = W) := fun W => by rw [← HY.out, (rwX_rng _).1]; exact wd.rspec_any (BA (cutR x)) hrz W
        clear hrz hxl hx hiL
        by_cases h0 : cutW x = wPath
        · have HT : Hid (tk sI M x = { M with path := BA (cutR x) }) := by show _ = _; unfold tk; rw [if_pos h0]
          have hwe : BA (cutW x) = ⟨#[112, 97, 116, 104]⟩ := by rw [h0]; rfl
          rw [hwe] at HWD
          clear hwe h0
          go_wp2_with (first | (go_at_call 27; refine (HWD.out _).mono ?_; rintro e w2 ⟨rfl, hb2⟩; refine Hid.out ?_) | go_in)
          refine Lib.hid ?_
          have HK2 : Hid (KI w B g n (bas L) M w2) := HK.out.below hb2
          clear hb2 hcl
          obtain ⟨vr, h6, how, hf1, hz, hf0, hrw, hbel, hB⟩ := HK2.out
          have q := hf1 0
          have HS6 := Lib.hid h6
          have HREM := Lib.hid (And.intro how (And.intro hf1 (And.intro hz (And.intro hf0 (And.intro hrw (And.intro hbel hB))))))
          obtain ⟨c0, c1, c2, c3, c4, c5⟩ := h6
          clear how hf1 hz hf0 hrw hbel hB
          go_wp2
          go_roundw
          case rel => exact ⟨i + 1, bk, by omega, by go_num, rfl, by rw [HST.out, HT.out]; exact HOK.out, by rw [HST.out, HT.out]; obtain ⟨how, hf1, hz, hf0, hrw, hbel, hB⟩ := HREM.out; exact KI.set (M := { M with path := BA (cutR x) }) HGG.out.1 HGG.out.2 (six_set0 HS6.out) how hf1 hz hf0 hrw hbel hB⟩
          case measure => simp [intOf]; omega
        by_cases h1 : cutW x = wSum
        · have HT : Hid (tk sI M x = { M with sum := BA (cutR x) }) := by show _ = _; unfold tk; rw [if_neg h0, if_pos h1]
          have hwe : BA (cutW x) = ⟨#[115, 117, 109]⟩ := by rw [h1]; rfl
          rw [hwe] at HWD
          clear hwe h1
          go_wp2_with (first | (go_at_call 27; refine (HWD.out _).mono ?_; rintro e w2 ⟨rfl, hb2⟩; refine Hid.out ?_) | go_in)
          refine Lib.hid ?_
          have HK2 : Hid (KI w B g n (bas L) M w2) := HK.out.below hb2
          clear hb2 hcl
          obtain ⟨vr, h6, how, hf1, hz, hf0, hrw, hbel, hB⟩ := HK2.out
          have q := hf1 1
          have HS6 := Lib.hid h6
          have HREM := Lib.hid (And.intro how (And.intro hf1 (And.intro hz (And.intro hf0 (And.intro hrw (And.intro hbel hB))))))
          obtain ⟨c0, c1, c2, c3, c4, c5⟩ := h6
          clear how hf1 hz hf0 hrw hbel hB
          go_wp2
          go_roundw
          case rel => exact ⟨i + 1, bk, by omega, by go_num, rfl, by rw [HST.out, HT.out]; exact HOK.out, by rw [HST.out, HT.out]; obtain ⟨how, hf1, hz, hf0, hrw, hbel, hB⟩ := HREM.out; exact KI.set (M := { M with sum := BA (cutR x) }) HGG.out.1 HGG.out.2 (six_set1 HS6.out) how hf1 hz hf0 hrw hbel hB⟩
          case measure => simp [intOf]; omega
        by_cases h2 : cutW x = wSize
        · have HT : Hid (tk sI M x = { M with z := sI (cutR x) }) := by show _ = _; unfold tk; rw [if_neg h0, if_neg h1, if_pos h2]
          have hwe : BA (cutW x) = ⟨#[115, 105, 122, 101]⟩ := by rw [h2]; rfl
          rw [hwe] at HWD
          clear hwe h2
          go_wp2_with (first | (go_at_call 27; refine (HWD.out _).mono ?_; rintro e w2 ⟨rfl, hb2⟩; refine Hid.out ?_) | go_in)
          refine Lib.hid ?_
          have HK2 : Hid (KI w B g n (bas L) M w2) := HK.out.below hb2
          clear hb2 hcl
          obtain ⟨vr, h6, how, hf1, hz, hf0, hrw, hbel, hB⟩ := HK2.out
          have q := hf1 2
          have HS6 := Lib.hid h6
          have HREM := Lib.hid (And.intro how (And.intro hf1 (And.intro hz (And.intro hf0 (And.intro hrw (And.intro hbel hB))))))
          obtain ⟨c0, c1, c2, c3, c4, c5⟩ := h6
          clear how hf1 hz hf0 hrw hbel hB
          go_wp2_with (first | (go_at_call 28; refine (HIN.out _).mono ?_; rintro e w3 ⟨rfl, hw⟩; obtain rfl := hw.symm; clear hw) | go_in)
          go_roundw
          case rel => exact ⟨i + 1, bk, by omega, by go_num, rfl, by rw [HST.out, HT.out]; exact HOK.out, by rw [HST.out, HT.out]; obtain ⟨how, hf1, hz, hf0, hrw, hbel, hB⟩ := HREM.out; exact KI.set (M := { M with z := sI (cutR x) }) HGG.out.1 HGG.out.2 (six_set2 HS6.out) how hf1 hz hf0 hrw hbel hB⟩
          case measure => simp [intOf]; omega
        by_cases h3 : cutW x = wRef
        · have HT : Hid (tk sI M x = { M with l := M.l ++ [BA (cutR x)] }) := by show _ = _; unfold tk; rw [if_neg h0, if_neg h1, if_neg h2, if_pos h3]
          have hwe : BA (cutW x) = ⟨#[114, 101, 102]⟩ := by rw [h3]; rfl
          rw [hwe] at HWD
          clear hwe h3
          go_wp2_with (first | (go_at_call 27; refine (HWD.out _).mono ?_; rintro e w2 ⟨rfl, hb2⟩; refine Hid.out ?_) | go_in)
          refine Lib.hid ?_
          have HK2 : Hid (KI w B g n (bas L) M w2) := HK.out.below hb2
          clear hb2 hcl
          obtain ⟨vr, h6, how, hf1, hz, hf0, hrw, hbel, hB⟩ := HK2.out
          have q := hf1 3
          have HS6 := Lib.hid h6
          have HREM := Lib.hid (And.intro how (And.intro hf1 (And.intro hz (And.intro hf0 (And.intro hrw (And.intro hbel hB))))))
          obtain ⟨c0, c1, c2, c3, c4, c5⟩ := h6
          clear how hf1 hz hf0 hrw hbel hB
          have hyc : (w2.alloc (.cells #[.string (BA (cutR x))] 9)).cell? ⟨w2.heap.size, 0, none⟩ = some (.string (BA (cutR x))) := by rw [World.cell?_alloc_new]; rfl
          have HYC := Lib.hid hyc
          have HAL : Hid ((w2.alloc (.cells #[.string (BA (cutR x))] 9)).ownsRow B 9 1 vr M.l.length (M.l.map Value.string)) := own_below HREM.out.1 ((Below.refl _ _).alloc (Nat.le_refl _) _)
          have HBA : Hid (B ≤ (w2.alloc (.cells #[.string (BA (cutR x))] 9)).heap.size) := by show _ ≤ _; rw [World.size_alloc]; have := HREM.out.2.2.2.2.2.2; omega
          have HLE : Hid (M.l.length ≤ 2000000) := by show _ ≤ _; have h1 := HSF.out.len; have h2 := HLN.out.1; have h3 := HN.out; omega
          clear hyc
          go_wp2_with (first
            | (at_builtin; refine app_any _ rfl _ _ rfl B vr M.l.length M.l rfl HAL.out (BA (cutR x)) ⟨w2.heap.size, 0, none⟩ rfl HYC.out HLE.out HBA.out ?_; intro v6 w6 hown6 hg6; refine Hid.out ?_)
            | go_in)
          refine Lib.hid ?_
          obtain ⟨how, hf1, hz, hf0, hrw, hbel, hB⟩ := HREM.out
          obtain ⟨hgg, hgB⟩ := HGG.out
          obtain ⟨a6, cp6, hv6⟩ := own_shape hown6
          subst hv6
          have hsz := hg6.size
          rw [World.size_alloc] at hsz
          have hblk : ∀ c, c < B → w6.heap[c]? = w2.heap[c]? := fun c hc => (hg6.block c (by rw [World.size_alloc]; omega) (fun e => by have := (how.lt c e.symm).1; omega)).trans (alloc_blk (by omega))
          have HS7 : Hid (SixC w6 (w.heap.size + 1) (.string M.path) (.string M.sum) (.int .i64 M.z) vr (.string M.key) (.int .u64 (M.sig : Int))) := HS6.out.kept (hblk _ (by omega))
          have hl7 : (M.l ++ [BA (cutR x)]).length = M.l.length + 1 := by simp
          have HO7 : Hid (w6.ownsRow B 9 1 (.slice a6 (M.l.length + 1) cp6) (M.l ++ [BA (cutR x)]).length ((M.l ++ [BA (cutR x)]).map Value.string)) := by show World.ownsRow _ _ _ _ _ _ _; rw [hl7]; exact hown6
          have HF7 : Hid (∀ j, w6.frozen? ⟨w.heap.size + 1, j, none⟩ = false) := fun j => (World.frozen?_of_block (a := ⟨w.heap.size + 1, j, none⟩) (hblk (w.heap.size + 1) (by omega))).trans (hf1 j)
          have HZ7 := Lib.hid (hz.kept (hblk w.heap.size (by omega)))
          have HG7 : Hid (∀ j, w6.frozen? ⟨w.heap.size, j, none⟩ = false) := fun j => (World.frozen?_of_block (a := ⟨w.heap.size, j, none⟩) (hblk w.heap.size (by omega))).trans (hf0 j)
          have HR7 := Lib.hid (hrw.kept (hblk g hgB))
          have hba : Below w.heap.size w (w2.alloc (.cells #[.string (BA (cutR x))] 9)) := hbel.alloc hbel.size _
          have HB7 : Hid (Below w.heap.size w w6) := hba.grown hg6 hba.size (fun k hk => by have := (how.lt k hk).1; omega)
          have HB8 : Hid (B ≤ w6.heap.size) := by show _ ≤ _; omega
          have q7 := HF7.out 3
          have c7 := HS7.out.2.2.2.1
          clear how hf1 hz hf0 hrw hbel hB hgg hgB hsz hblk hl7 hba hown6 hg6 c0 c1 c2 c3 c4 c5 q
          go_wp2
          go_roundw
          case rel => exact ⟨i + 1, bk, by omega, by go_num, rfl, by rw [HST.out, HT.out]; exact HOK.out, by rw [HST.out, HT.out]; exact KI.set (M := { M with l := M.l ++ [BA (cutR x)] }) HGG.out.1 HGG.out.2 (six_set3 HS7.out) HO7.out HF7.out HZ7.out HG7.out HR7.out HB7.out HB8.out⟩
          case measure => simp [intOf]; omega
        by_cases h4 : cutW x = wKey
        · have HT : Hid (tk sI M x = { M with key := BA (cutR x) }) := by show _ = _; unfold tk; rw [if_neg h0, if_neg h1, if_neg h2, if_neg h3, if_pos h4]
          have hwe : BA (cutW x) = ⟨#[107, 101, 121]⟩ := by rw [h4]; rfl
          rw [hwe] at HWD
          clear hwe h4
          go_wp2_with (first | (go_at_call 27; refine (HWD.out _).mono ?_; rintro e w2 ⟨rfl, hb2⟩; refine Hid.out ?_) | go_in)
          refine Lib.hid ?_
          have HK2 : Hid (KI w B g n (bas L) M w2) := HK.out.below hb2
          clear hb2 hcl
          obtain ⟨vr, h6, how, hf1, hz, hf0, hrw, hbel, hB⟩ := HK2.out
          have q := hf1 4
          have HS6 := Lib.hid h6
          have HREM := Lib.hid (And.intro how (And.intro hf1 (And.intro hz (And.intro hf0 (And.intro hrw (And.intro hbel hB))))))
          obtain ⟨c0, c1, c2, c3, c4, c5⟩ := h6
          clear how hf1 hz hf0 hrw hbel hB
          go_wp2
          go_roundw
          case rel => exact ⟨i + 1, bk, by omega, by go_num, rfl, by rw [HST.out, HT.out]; exact HOK.out, by rw [HST.out, HT.out]; obtain ⟨how, hf1, hz, hf0, hrw, hbel, hB⟩ := HREM.out; exact KI.set (M := { M with key := BA (cutR x) }) HGG.out.1 HGG.out.2 (six_set4 HS6.out) how hf1 hz hf0 hrw hbel hB⟩
          case measure => simp [intOf]; omega
        by_cases h5 : cutW x = wSig
        · have HT : Hid (tk sI M x = { M with sig := y, ok := M.ok && wd.rwB (BA (cutR x)) }) := by show _ = _; unfold tk; rw [if_neg h0, if_neg h1, if_neg h2, if_neg h3, if_neg h4, if_pos h5, HY.out]
          have hwe : BA (cutW x) = ⟨#[115, 105, 103]⟩ := by rw [h5]; rfl
          rw [hwe] at HWD
          clear hwe h5
          go_wp2_with (first | (go_at_call 27; refine (HWD.out _).mono ?_; rintro e w2 ⟨rfl, hb2⟩; refine Hid.out ?_) | go_in)
          refine Lib.hid ?_
          have HK2 : Hid (KI w B g n (bas L) M w2) := HK.out.below hb2
          clear hb2 hcl
          obtain ⟨vr, h6, how, hf1, hz, hf0, hrw, hbel, hB⟩ := HK2.out
          have q := hf1 5
          have HS6 := Lib.hid h6
          have HREM := Lib.hid (And.intro how (And.intro hf1 (And.intro hz (And.intro hf0 (And.intro hrw (And.intro hbel hB))))))
          obtain ⟨c0, c1, c2, c3, c4, c5⟩ := h6
          clear how hf1 hz hf0 hrw hbel hB
          cases bk
          · go_wp2_with (first | (go_at_call 29; refine (HRW.out _).mono ?_; rintro e w3 ⟨rfl, hw⟩; obtain rfl := hw.symm; clear hw) | go_in)
            go_roundw
            case rel => exact ⟨i + 1, _, by omega, by go_num, rfl, by rw [HST.out, HT.out]; show (M.ok && _) = _; rw [HOK.out]; rfl, by rw [HST.out, HT.out]; obtain ⟨how, hf1, hz, hf0, hrw, hbel, hB⟩ := HREM.out; exact KI.set (M := { M with sig := y, ok := M.ok && wd.rwB (BA (cutR x)) }) HGG.out.1 HGG.out.2 (six_set5 HS6.out) how hf1 hz hf0 hrw hbel hB⟩
            case measure => simp [intOf]; omega
          · go_wp2_with (first | (go_at_call 29; refine (HRW.out _).mono ?_; rintro e w3 ⟨rfl, hw⟩; obtain rfl := hw.symm; clear hw) | go_in)
            go_roundw
            case rel => exact ⟨i + 1, _, by omega, by go_num, rfl, by rw [HST.out, HT.out]; show (M.ok && _) = _; rw [HOK.out]; rfl, by rw [HST.out, HT.out]; obtain ⟨how, hf1, hz, hf0, hrw, hbel, hB⟩ := HREM.out; exact KI.set (M := { M with sig := y, ok := M.ok && wd.rwB (BA (cutR x)) }) HGG.out.1 HGG.out.2 (six_set5 HS6.out) how hf1 hz hf0 hrw hbel hB⟩
            case measure => simp [intOf]; omega
        have HT : Hid (tk sI M x = { M with ok := false }) := by show _ = _; unfold tk; rw [if_neg h0, if_neg h1, if_neg h2, if_neg h3, if_neg h4, if_neg h5]
        have e0 : ((BA (cutW x)).toList == [112, 97, 116, 104]) = false := by rw [ByteArray.toList_eq]; exact beq_eq_false_iff_ne.2 h0
        have n0 : ¬ (BA (cutW x)).toList = [112, 97, 116, 104] := beq_eq_false_iff_ne.1 e0
        clear h0
        have e1 : ((BA (cutW x)).toList == [115, 117, 109]) = false := by rw [ByteArray.toList_eq]; exact beq_eq_false_iff_ne.2 h1
        have n1 : ¬ (BA (cutW x)).toList = [115, 117, 109] := beq_eq_false_iff_ne.1 e1
        clear h1
        have e2 : ((BA (cutW x)).toList == [115, 105, 122, 101]) = false := by rw [ByteArray.toList_eq]; exact beq_eq_false_iff_ne.2 h2
        have n2 : ¬ (BA (cutW x)).toList = [115, 105, 122, 101] := beq_eq_false_iff_ne.1 e2
        clear h2
        have e3 : ((BA (cutW x)).toList == [114, 101, 102]) = false := by rw [ByteArray.toList_eq]; exact beq_eq_false_iff_ne.2 h3
        have n3 : ¬ (BA (cutW x)).toList = [114, 101, 102] := beq_eq_false_iff_ne.1 e3
        clear h3
        have e4 : ((BA (cutW x)).toList == [107, 101, 121]) = false := by rw [ByteArray.toList_eq]; exact beq_eq_false_iff_ne.2 h4
        have n4 : ¬ (BA (cutW x)).toList = [107, 101, 121] := beq_eq_false_iff_ne.1 e4
        clear h4
        have e5 : ((BA (cutW x)).toList == [115, 105, 103]) = false := by rw [ByteArray.toList_eq]; exact beq_eq_false_iff_ne.2 h5
        have n5 : ¬ (BA (cutW x)).toList = [115, 105, 103] := beq_eq_false_iff_ne.1 e5
        clear h5
        go_wp2_with (first | (go_at_call 27; refine (HWD.out _).mono ?_; rintro e w2 ⟨rfl, hb2⟩; refine Hid.out ?_) | go_in)
        refine Lib.hid ?_
        have HK2 : Hid (KI w B g n (bas L) M w2) := HK.out.below hb2
        clear hb2 hcl
        go_wp2
        go_roundw
        case rel => exact ⟨i + 1, false, by omega, by go_num, rfl, by rw [HST.out, HT.out], by rw [HST.out, HT.out]; exact HK2.out⟩
        case measure => simp [intOf]; omega
      · obtain rfl : i = n := by omega
        have HFD : Hid ((lnA [] s.data.toList).1.foldl (tk sI) M0 = M) := by show _ = _; rw [HEL.out, ← HM.out, HN.out, List.take_length]
        have HRE : Hid ((lnA [] s.data.toList).2 = []) := by have := HRL.out; rwa [decide_eq_true_eq] at this
        obtain ⟨vr, h6, how, hf1, hz, hf0, hrw, hbel, hB⟩ := HK.out
        have HO := Lib.hid how
        obtain ⟨a, cp, hvr, hss⟩ := own_Sa how
        obtain ⟨d0, d1, d2, d3, d4, d5⟩ := hz
        have HZ : Hid (SixC wr w.heap.size (.string ⟨#[]⟩) (.string ⟨#[]⟩) (.int .i64 0) (.slice none 0 0) (.string ⟨#[]⟩) (.int .u64 0)) := ⟨d0, d1, d2, d3, d4, d5⟩
        have HBE : Hid (Below w.heap.size w wr) := hbel
        have HF0 : Hid (∀ j, wr.frozen? ⟨w.heap.size, j, none⟩ = false) := hf0
        have HS6 := Lib.hid h6
        have HSS := Lib.hid hss
        have HVR := Lib.hid hvr
        clear h6 how hf1 hrw hbel hB hss hvr
        cases bk
        · have HNO : Hid (rdM s.data.toList = M0 ∧ rdB s.data.toList = false) := rd_no (decide_no sI_itoa (fun h => by have h2 := h.2.1; rw [HFD.out, HOK.out] at h2; cases h2))
          go_wp2
          refine ret_rm Tryz.results14 rfl rfl (six _ _ _ _ _ _ HZ.out) ⟨.slice none 0 0, ?_, ?_, six_bel HBE.out (Nat.le_refl _)⟩
          · rw [HNO.out.1, HNO.out.2]; rfl
          · rw [HNO.out.1]; exact own_nil _ _
        · by_cases hse : s = ⟨#[]⟩
          · have HNO : Hid (rdM s.data.toList = M0 ∧ rdB s.data.toList = false) := rd_no (decide_no sI_itoa (fun h => h.2.2.1 hse))
            have hsb : s.toList = [] := by rw [hse, ByteArray.toList_eq]
            clear hse
            go_wp2
            refine ret_rm Tryz.results14 rfl rfl (six _ _ _ _ _ _ HZ.out) ⟨.slice none 0 0, ?_, ?_, six_bel HBE.out (Nat.le_refl _)⟩
            · rw [HNO.out.1, HNO.out.2]; rfl
            · rw [HNO.out.1]; exact own_nil _ _
          · have hsb : ¬ s.toList = [] := by
              rw [ByteArray.toList_eq]
              exact fun e => hse (by apply ByteArray.ext; apply Array.ext'; exact e)
            have hsi : s.toList.isEmpty = false := by simpa using hsb
            have HSE := Lib.hid hse
            obtain ⟨T, hT⟩ : ∃ T, mtT M.path M.sum M.key M.z M.sig M.l M.l.length = T := ⟨_, rfl⟩
            have HT : Hid (mtT M.path M.sum M.key M.z M.sig M.l M.l.length = T) := hT
            obtain ⟨c0, c1, c2, c3, c4, c5⟩ := HS6.out
            have hvr := HVR.out
            subst hvr
            clear HVR
            have HSM : Hid (Calls Tryz.prog 30 #[.agg #[.string M.path, .string M.sum, .int .i64 M.z, .slice a M.l.length cp, .string M.key, .int .u64 (M.sig : Int)]] wr fun e w' => e = .returned (.string T) ∧ Below wr.heap.size wr w') := by
              have hz := HSF.out
              have hn := hz.len
              have := smt_any M.path M.sum M.key M.z M.sig M.l a M.l.length cp wr HSS.out (by omega) hz.refs hz.path hz.sum hz.key hz.sig
              rw [hT] at this
              exact this
            clear hT hse
            obtain ⟨LEN, hLEN⟩ : ∃ LEN, M.l.length = LEN := ⟨_, rfl⟩
            have HLE : Hid (M.l.length = LEN) := hLEN
            rw [hLEN] at HSM HS6 HO c3
            have HKb : Hid (∀ w2, Below wr.heap.size wr w2 → KI w B g i (bas L) M w2) := fun w2 h => HK.out.below h
            clear hLEN HK HSS
            by_cases hTs : T = s
            · have HYS : Hid (rdM s.data.toList = M ∧ rdB s.data.toList = true) := rd_yes (decide_yes HSE.out HOK.out HSF.out.sig (HT.out.trans hTs))
              have hTb : (T.toList == s.toList) = true := by rw [hTs, beq_self_eq_true]
              clear hTs
              go_wp2_with (first | (go_at_call 30; refine HSM.out.mono ?_; rintro e w2 ⟨rfl, hb2⟩; refine Hid.out ?_) | go_in)
              refine Lib.hid ?_
              have h6' := HS6.out.belowM hb2
              have HZ2 := Lib.hid (HZ.out.belowM hb2)
              have hf0' : ∀ j, w2.frozen? ⟨w.heap.size, j, none⟩ = false := fun j => ((bcell hb2).2 _ _ (World.block_lt_of_cell? _ _ HZ.out.1)).trans (HF0.out j)
              have HO2 := Lib.hid (own_below HO.out hb2)
              have HBE2 : Hid (Below w.heap.size w w2) := HBE.out.trans (hb2.mono HBE.out.size)
              clear c0 c1 c2 c3 c4 c5 d0 d1 d2 d3 d4 d5 hf0 hb2
              obtain ⟨c0, c1, c2, c3, c4, c5⟩ := h6'
              obtain ⟨d0, d1, d2, d3, d4, d5⟩ := HZ2.out
              go_wp2
              refine ret_rm Tryz.results14 rfl rfl (six _ _ _ _ _ _ HZ2.out) ⟨.slice a LEN cp, ?_, ?_, six_bel HBE2.out (Nat.le_refl _)⟩
              · rw [HYS.out.1, HYS.out.2]; rfl
              · rw [HYS.out.1, HLE.out]
                obtain ⟨q1, q2⟩ := HGG.out
                exact own_base (own_kept HO2.out (fun k hk => six_blk (by omega))) (by omega)
            · have HNO : Hid (rdM s.data.toList = M0 ∧ rdB s.data.toList = false) := rd_no (decide_no sI_itoa (fun h => by have h2 := h.2.2.2; rw [HFD.out, HT.out] at h2; exact hTs h2))
              have hTb : (T.toList == s.toList) = false := by
                rw [ByteArray.toList_eq, ByteArray.toList_eq]
                exact beq_eq_false_iff_ne.2 (fun e => hTs (by apply ByteArray.ext; apply Array.ext'; exact e))
              have hTn : ¬ T.toList = s.toList := beq_eq_false_iff_ne.1 hTb
              clear hTs
              go_wp2_with (first | (go_at_call 30; refine HSM.out.mono ?_; rintro e w2 ⟨rfl, hb2⟩; refine Hid.out ?_) | go_in)
              refine Lib.hid ?_
              have h6' := HS6.out.belowM hb2
              have HZ2 := Lib.hid (HZ.out.belowM hb2)
              have hf0' : ∀ j, w2.frozen? ⟨w.heap.size, j, none⟩ = false := fun j => ((bcell hb2).2 _ _ (World.block_lt_of_cell? _ _ HZ.out.1)).trans (HF0.out j)
              have HO2 := Lib.hid (own_below HO.out hb2)
              have HBE2 : Hid (Below w.heap.size w w2) := HBE.out.trans (hb2.mono HBE.out.size)
              clear c0 c1 c2 c3 c4 c5 d0 d1 d2 d3 d4 d5 hf0 hb2
              obtain ⟨c0, c1, c2, c3, c4, c5⟩ := h6'
              obtain ⟨d0, d1, d2, d3, d4, d5⟩ := HZ2.out
              go_wp2
              refine ret_rm Tryz.results14 rfl rfl (six _ _ _ _ _ _ HZ2.out) ⟨.slice none 0 0, ?_, ?_, six_bel HBE2.out (Nat.le_refl _)⟩
              · rw [HNO.out.1, HNO.out.2]; rfl
              · rw [HNO.out.1]; exact own_nil _ _

end Go.Proofs.YtkmhaemcpakobaaGreatDoor.mt

/-
  DERIVED: THE SHELF's CONTRACTS AT THIS DUMP, IN PLAIN WORDS (tools/lay-plain.mjs out of 'YtkmhaemcpakobaaGreatDoorSHrx.lean', which tools/lay-shelf.mjs wrote): THE SAME DECLARATIONS UNDER THE SAME NAMES: 'import', 'namespace', 'open', 'def', 'theorem' AND NOTHING ELSE: no command of the shelf's: FOR A HAND-IN. Each laying: the table of numbers ('.._ren') and one theorem, a field a fact of the dump's own or the kernel's comparison; each contract: ONE APPLICATION.
-/
namespace Go.Proofs
open Go.Shelf
def Tryz.rmIB_ren : Go.Shelf.Ren := ⟨fun | 137 => 84 | 217 => 107 | 266 => 135 | n => n, fun | 9 => 9 | 5 => 5 | 3 => 3 | n => n, fun | n => n⟩
theorem Tryz.rmIB : Go.Proofs.Lays.n137 Tryz.prog Tryz.rmIB_ren := {
  mixed := by kernel_rfl
  f137 := Tryz.func84.trans (congrArg some (by kernel_rfl))
  f217 := Tryz.func107.trans (congrArg some (by kernel_rfl))
  f266 := Tryz.func135.trans (congrArg some (by kernel_rfl))
  t3 := Tryz.underlying3
  a3 := Tryz.isAgg3
  z3 := Tryz.sizeOf3
  v3 := Tryz.zeroValue3
  t5 := Tryz.underlying5
  a5 := Tryz.isAgg5
  z5 := Tryz.sizeOf5
  v5 := Tryz.zeroValue5
  t9 := Tryz.underlying9
  a9 := Tryz.isAgg9
  z9 := Tryz.sizeOf9
  v9 := Tryz.zeroValue9 }
def Tryz.rmTS_ren : Go.Shelf.Ren := ⟨fun | 102 => 61 | 209 => 86 | 207 => 109 | n => n, fun | 9 => 9 | 4 => 4 | 3 => 3 | n => n, fun | n => n⟩
theorem Tryz.rmTS : Go.Proofs.Lays.n102 Tryz.prog Tryz.rmTS_ren := {
  mixed := by kernel_rfl
  f102 := Tryz.func61.trans (congrArg some (by kernel_rfl))
  f207 := Tryz.func109.trans (congrArg some (by kernel_rfl))
  f209 := Tryz.func86.trans (congrArg some (by kernel_rfl))
  t3 := Tryz.underlying3
  a3 := Tryz.isAgg3
  z3 := Tryz.sizeOf3
  v3 := Tryz.zeroValue3
  t4 := Tryz.underlying4
  a4 := Tryz.isAgg4
  z4 := Tryz.sizeOf4
  v4 := Tryz.zeroValue4
  t9 := Tryz.underlying9
  a9 := Tryz.isAgg9
  z9 := Tryz.sizeOf9
  v9 := Tryz.zeroValue9 }
def Tryz.rmCut_ren : Go.Shelf.Ren := ⟨fun | 145 => 60 | 220 => 85 | 219 => 108 | 217 => 107 | 225 => 136 | 224 => 137 | 267 => 138 | 266 => 135 | 314 => 162 | n => n, fun | 9 => 9 | 4 => 4 | 59 => 98 | 3 => 3 | 5 => 5 | 46 => 71 | 146 => 183 | 51 => 182 | n => n, fun | 1 => 1 | n => n⟩
theorem Tryz.rmCut : Go.Proofs.LaysM.n145 Tryz.prog Tryz.rmCut_ren := {
  mixed := by kernel_rfl
  f145 := Tryz.func60.trans (congrArg some (by kernel_rfl))
  f217 := Tryz.func107.trans (congrArg some (by kernel_rfl))
  f219 := Tryz.func108.trans (congrArg some (by kernel_rfl))
  f220 := Tryz.func85.trans (congrArg some (by kernel_rfl))
  f224 := Tryz.func137.trans (congrArg some (by kernel_rfl))
  f225 := Tryz.func136.trans (congrArg some (by kernel_rfl))
  f266 := Tryz.func135.trans (congrArg some (by kernel_rfl))
  f267 := Tryz.func138.trans (congrArg some (by kernel_rfl))
  f314 := Tryz.func162.trans (congrArg some (by kernel_rfl))
  t3 := Tryz.underlying3
  a3 := Tryz.isAgg3
  z3 := Tryz.sizeOf3
  v3 := Tryz.zeroValue3
  t4 := Tryz.underlying4
  a4 := Tryz.isAgg4
  z4 := Tryz.sizeOf4
  v4 := Tryz.zeroValue4
  t5 := Tryz.underlying5
  a5 := Tryz.isAgg5
  z5 := Tryz.sizeOf5
  v5 := Tryz.zeroValue5
  t9 := Tryz.underlying9
  a9 := Tryz.isAgg9
  z9 := Tryz.sizeOf9
  v9 := Tryz.zeroValue9
  t46 := Tryz.underlying71
  a46 := Tryz.isAgg71
  z46 := Tryz.sizeOf71
  v46 := Tryz.zeroValue71
  t51 := Tryz.underlying182
  a51 := Tryz.isAgg182
  z51 := Tryz.sizeOf182
  v51 := Tryz.zeroValue182
  t59 := Tryz.underlying98
  a59 := Tryz.isAgg98
  z59 := Tryz.sizeOf98
  v59 := Tryz.zeroValue98
  t146 := Tryz.underlying183
  a146 := Tryz.isAgg183
  z146 := Tryz.sizeOf183
  v146 := Tryz.zeroValue183
  g1 := by kernel_rfl
  i3 := by kernel_rfl
  i4 := by kernel_rfl
  i5 := by kernel_rfl
  i9 := by kernel_rfl
  i46 := by kernel_rfl
  i51 := by kernel_rfl
  i59 := by kernel_rfl
  i146 := by kernel_rfl
  m1 := by kernel_rfl
  s1_3 := fun w h => Go.Proofs.cell_of_shapedOpen_int (zero := #[.int .i64 0]) (t := 3) h (of_decide_eq_true (by kernel_rfl)) (by kernel_rfl) rfl (by kernel_rfl) (by kernel_rfl) Tryz.underlying3 }
def Tryz.rmPI_ren : Go.Shelf.Ren := ⟨fun | 174 => 88 | 247 => 111 | 245 => 112 | 287 => 139 | 279 => 140 | 280 => 141 | 281 => 142 | 282 => 143 | 321 => 163 | 322 => 164 | 316 => 110 | 171 => 166 | 205 => 165 | 243 => 179 | 246 => 118 | 283 => 148 | 284 => 149 | 285 => 150 | 286 => 151 | 129 => 119 | 317 => 167 | 318 => 168 | 319 => 169 | 320 => 170 | 337 => 180 | 338 => 181 | n => n, fun | 9 => 9 | 3 => 3 | 2 => 2 | 75 => 126 | 85 => 127 | 4 => 4 | 167 => 160 | 5 => 5 | 53 => 38 | 175 => 161 | 46 => 71 | 168 => 163 | 37 => 22 | 0 => 0 | 210 => 187 | 21 => 21 | 127 => 159 | 145 => 200 | 143 => 198 | 171 => 169 | 173 => 171 | 212 => 190 | 51 => 182 | 20 => 20 | 213 => 191 | 232 => 106 | 233 => 204 | 80 => 133 | n => n, fun | 15 => 2 | 16 => 3 | 17 => 4 | 18 => 7 | 19 => 8 | n => n⟩
theorem Tryz.rmPI : Go.Proofs.LaysC.n174 Tryz.prog Tryz.rmPI_ren := {
  mixed := by kernel_rfl
  f129 := Tryz.func119.trans (congrArg some (by kernel_rfl))
  f171 := Tryz.func166.trans (congrArg some (by kernel_rfl))
  f174 := Tryz.func88.trans (congrArg some (by kernel_rfl))
  f205 := Tryz.func165.trans (congrArg some (by kernel_rfl))
  f243 := Tryz.func179.trans (congrArg some (by kernel_rfl))
  f245 := Tryz.func112.trans (congrArg some (by kernel_rfl))
  f246 := Tryz.func118.trans (congrArg some (by kernel_rfl))
  f247 := Tryz.func111.trans (congrArg some (by kernel_rfl))
  f279 := Tryz.func140.trans (congrArg some (by kernel_rfl))
  f280 := Tryz.func141.trans (congrArg some (by kernel_rfl))
  f281 := Tryz.func142.trans (congrArg some (by kernel_rfl))
  f282 := Tryz.func143.trans (congrArg some (by kernel_rfl))
  f283 := Tryz.func148.trans (congrArg some (by kernel_rfl))
  f284 := Tryz.func149.trans (congrArg some (by kernel_rfl))
  f285 := Tryz.func150.trans (congrArg some (by kernel_rfl))
  f286 := Tryz.func151.trans (congrArg some (by kernel_rfl))
  f287 := Tryz.func139.trans (congrArg some (by kernel_rfl))
  f316 := Tryz.func110.trans (congrArg some (by kernel_rfl))
  f317 := Tryz.func167.trans (congrArg some (by kernel_rfl))
  f318 := Tryz.func168.trans (congrArg some (by kernel_rfl))
  f319 := Tryz.func169.trans (congrArg some (by kernel_rfl))
  f320 := Tryz.func170.trans (congrArg some (by kernel_rfl))
  f321 := Tryz.func163.trans (congrArg some (by kernel_rfl))
  f322 := Tryz.func164.trans (congrArg some (by kernel_rfl))
  f337 := Tryz.func180.trans (congrArg some (by kernel_rfl))
  f338 := Tryz.func181.trans (congrArg some (by kernel_rfl))
  t0 := Tryz.underlying0
  a0 := Tryz.isAgg0
  z0 := Tryz.sizeOf0
  v0 := Tryz.zeroValue0
  t2 := Tryz.underlying2
  a2 := Tryz.isAgg2
  z2 := Tryz.sizeOf2
  v2 := Tryz.zeroValue2
  t3 := Tryz.underlying3
  a3 := Tryz.isAgg3
  z3 := Tryz.sizeOf3
  v3 := Tryz.zeroValue3
  t4 := Tryz.underlying4
  a4 := Tryz.isAgg4
  z4 := Tryz.sizeOf4
  v4 := Tryz.zeroValue4
  t5 := Tryz.underlying5
  a5 := Tryz.isAgg5
  z5 := Tryz.sizeOf5
  v5 := Tryz.zeroValue5
  t9 := Tryz.underlying9
  a9 := Tryz.isAgg9
  z9 := Tryz.sizeOf9
  v9 := Tryz.zeroValue9
  t20 := Tryz.underlying20
  a20 := Tryz.isAgg20
  z20 := Tryz.sizeOf20
  v20 := Tryz.zeroValue20
  t21 := Tryz.underlying21
  a21 := Tryz.isAgg21
  z21 := Tryz.sizeOf21
  v21 := Tryz.zeroValue21
  t37 := Tryz.underlying22
  a37 := Tryz.isAgg22
  z37 := Tryz.sizeOf22
  v37 := Tryz.zeroValue22
  t46 := Tryz.underlying71
  a46 := Tryz.isAgg71
  z46 := Tryz.sizeOf71
  v46 := Tryz.zeroValue71
  t51 := Tryz.underlying182
  a51 := Tryz.isAgg182
  z51 := Tryz.sizeOf182
  v51 := Tryz.zeroValue182
  t53 := Tryz.underlying38
  a53 := Tryz.isAgg38
  z53 := Tryz.sizeOf38
  v53 := Tryz.zeroValue38
  t75 := Tryz.underlying126
  a75 := Tryz.isAgg126
  z75 := Tryz.sizeOf126
  v75 := Tryz.zeroValue126
  t85 := Tryz.underlying127
  a85 := Tryz.isAgg127
  z85 := Tryz.sizeOf127
  v85 := Tryz.zeroValue127
  t127 := Tryz.underlying159
  a127 := Tryz.isAgg159
  z127 := Tryz.sizeOf159
  v127 := Tryz.zeroValue159
  t143 := Tryz.underlying198
  a143 := Tryz.isAgg198
  z143 := Tryz.sizeOf198
  v143 := Tryz.zeroValue198
  t145 := Tryz.underlying200
  a145 := Tryz.isAgg200
  z145 := Tryz.sizeOf200
  v145 := Tryz.zeroValue200
  t167 := Tryz.underlying160
  a167 := Tryz.isAgg160
  z167 := Tryz.sizeOf160
  v167 := Tryz.zeroValue160
  t168 := Tryz.underlying163
  a168 := Tryz.isAgg163
  z168 := Tryz.sizeOf163
  v168 := Tryz.zeroValue163
  t171 := Tryz.underlying169
  a171 := Tryz.isAgg169
  z171 := Tryz.sizeOf169
  v171 := Tryz.zeroValue169
  t173 := Tryz.underlying171
  a173 := Tryz.isAgg171
  z173 := Tryz.sizeOf171
  v173 := Tryz.zeroValue171
  t175 := Tryz.underlying161
  a175 := Tryz.isAgg161
  z175 := Tryz.sizeOf161
  v175 := Tryz.zeroValue161
  t210 := Tryz.underlying187
  a210 := Tryz.isAgg187
  z210 := Tryz.sizeOf187
  v210 := Tryz.zeroValue187
  t212 := Tryz.underlying190
  a212 := Tryz.isAgg190
  z212 := Tryz.sizeOf190
  v212 := Tryz.zeroValue190
  t213 := Tryz.underlying191
  a213 := Tryz.isAgg191
  z213 := Tryz.sizeOf191
  t232 := Tryz.underlying106
  a232 := Tryz.isAgg106
  z232 := Tryz.sizeOf106
  v232 := Tryz.zeroValue106
  t233 := Tryz.underlying204
  a233 := Tryz.isAgg204
  z233 := Tryz.sizeOf204
  v233 := Tryz.zeroValue204
  g15 := by kernel_rfl
  g16 := by kernel_rfl
  g17 := by kernel_rfl
  g18 := by kernel_rfl
  g19 := by kernel_rfl
  t80 := Tryz.underlying133
  a80 := Tryz.isAgg133
  z80 := Tryz.sizeOf133
  v80 := Tryz.zeroValue133
  i0 := by kernel_rfl
  i2 := by kernel_rfl
  i3 := by kernel_rfl
  i4 := by kernel_rfl
  i5 := by kernel_rfl
  i9 := by kernel_rfl
  i20 := by kernel_rfl
  i21 := by kernel_rfl
  i37 := by kernel_rfl
  i46 := by kernel_rfl
  i51 := by kernel_rfl
  i53 := by kernel_rfl
  i75 := by kernel_rfl
  i80 := by kernel_rfl
  i85 := by kernel_rfl
  i127 := by kernel_rfl
  i143 := by kernel_rfl
  i145 := by kernel_rfl
  i167 := by kernel_rfl
  i168 := by kernel_rfl
  i171 := by kernel_rfl
  i173 := by kernel_rfl
  i175 := by kernel_rfl
  i210 := by kernel_rfl
  i212 := by kernel_rfl
  i232 := by kernel_rfl
  i233 := by kernel_rfl
  m15 := by kernel_rfl
  m16 := by kernel_rfl
  m17 := by kernel_rfl
  m18 := by kernel_rfl
  m19 := by kernel_rfl
  c0 := by kernel_rfl
  c2 := by kernel_rfl
  c3 := by kernel_rfl
  c4 := by kernel_rfl
  c5 := by kernel_rfl
  c9 := by kernel_rfl
  c20 := by kernel_rfl
  c21 := by kernel_rfl
  c37 := by kernel_rfl
  c46 := by kernel_rfl
  c51 := by kernel_rfl
  c53 := by kernel_rfl
  c75 := by kernel_rfl
  c80 := by kernel_rfl
  c85 := by kernel_rfl
  c127 := by kernel_rfl
  c143 := by kernel_rfl
  c145 := by kernel_rfl
  c167 := by kernel_rfl
  c168 := by kernel_rfl
  c171 := by kernel_rfl
  c173 := by kernel_rfl
  c175 := by kernel_rfl
  c210 := by kernel_rfl
  c212 := by kernel_rfl
  c213 := by kernel_rfl
  c232 := by kernel_rfl
  c233 := by kernel_rfl }
end Go.Proofs

namespace Go.Proofs.YtkmhaemcpakobaaGreatDoor.mt
open Go.ChangeShapes Go.WideShapes Go.ChangeAt Go.RowKit Go.Deep Go.Shelf
set_option linter.unusedVariables false
set_option linter.unusedSimpArgs false

/-! ### The program's readers: ParseInt, Cut, TrimSuffix, IndexByte -/

def pI (l : List UInt8) : Int := match Lib.parseIntB 64 l with | .ok v => v | .«syntax» => 0 | .range => Lib.intSat 64 l

theorem dec_rng : ∀ (n : Nat), ∀ b ∈ Lib.decDigits n, 48 ≤ b.toNat ∧ b.toNat ≤ 57 := fun n => by
  induction n using Nat.strongRecOn with
  | _ n ih =>
    intro b hb
    by_cases h9 : 9 < n
    · rw [sr.dec_step h9, List.mem_append, List.mem_singleton] at hb
      rcases hb with hb | rfl
      · exact ih (n / 10) (by omega) b hb
      · rw [dgt_rng]; omega
    · rw [sr.dec_last h9, List.mem_singleton] at hb
      subst hb
      rw [dgt_rng]; omega
theorem pU_dec : ∀ (k : Nat), k ≤ 1000000 → ∀ r, Lib.parseUintM (2 ^ 64 - 1) 0 (Lib.decDigits k ++ r) = Lib.parseUintM (2 ^ 64 - 1) k r := fun k => by
  have h64 : (2 : Nat) ^ 64 - 1 = 18446744073709551615 := by decide
  rw [h64]
  induction k using Nat.strongRecOn with
  | _ k ih =>
    intro hk r
    by_cases h9 : 9 < k
    · rw [sr.dec_step h9, List.append_assoc, ih (k / 10) (by omega) (by omega), List.singleton_append, Lib.parseUintM, dgt_rng, if_pos (by omega), if_neg (by omega), if_neg (by omega)]
      congr 1
      omega
    · rw [sr.dec_last h9, List.singleton_append, Lib.parseUintM, dgt_rng, if_pos (by omega), if_neg (by omega), if_neg (by omega)]
      congr 1
      omega
theorem pI_itoa : ∀ z : Int, 0 ≤ z → z ≤ 1000000 → pI (Lib.itoa z) = z := fun z h0 h1 => by
  obtain ⟨k, rfl⟩ : ∃ k : Nat, z = (k : Int) := ⟨z.toNat, by omega⟩
  have e : Lib.itoa (k : Int) = Lib.decDigits k := by simp [Lib.itoa]
  have hu := pU_dec k (by omega) []
  rw [List.append_nil, Lib.parseUintM] at hu
  rw [e]
  unfold pI
  have hP : Lib.parseIntB 64 (Lib.decDigits k) = .ok (k : Int) := by
    cases hd : Lib.decDigits k with
    | nil =>
      rw [hd, Lib.parseUintM] at hu
      rw [Lib.decDigits] at hd
      split at hd <;> simp at hd
    | cons c r =>
      have hc := dec_rng k c (by rw [hd]; exact List.mem_cons_self)
      rw [hd] at hu
      have hU : Lib.parseUintB 64 (c :: r) = .ok k := by
        unfold Lib.parseUintB
        rw [if_neg (by simp), hu]
      unfold Lib.parseIntB
      simp only
      rw [if_neg (by omega), hU]
      simp only
      have h63 : (2 : Nat) ^ (64 - 1) = 9223372036854775808 := by decide
      rw [if_neg (by rintro ⟨_, h2⟩; omega), if_neg (by rintro ⟨h2, _⟩; omega), if_neg (by omega)]
  rw [hP]

/-- What ParseInt asks of the library's variables. -/
def EC (w : World) : Prop := (∃ ev, w.cell? ⟨Tryz.rmPI_ren.g 15, 0, none⟩ = some ev ∧ (ev = .nilIface ∨ ∃ te pe, ev = .iface te pe)) ∧ ∃ ev, w.cell? ⟨Tryz.rmPI_ren.g 16, 0, none⟩ = some ev ∧ (ev = .nilIface ∨ ∃ te pe, ev = .iface te pe)
theorem EC.below {w w' : World} (h : EC w) (hb : Below w.heap.size w w') : EC w' := by
  obtain ⟨⟨v, h1, h2⟩, u, h3, h4⟩ := h
  exact ⟨⟨v, (hb.cell (World.block_lt_of_cell? _ _ h1)).trans h1, h2⟩, u, (hb.cell (World.block_lt_of_cell? _ _ h3)).trans h3, h4⟩
/-- What strings.Cut asks of the library's variable. -/
def ML (w : World) : Prop := ∃ m, w.cell? ⟨Tryz.rmCut_ren.g 1, 0, none⟩ = some (.int .i64 m)
theorem ML.below {w w' : World} (h : ML w) (hb : Below w.heap.size w w') : ML w' := by
  obtain ⟨m, hm⟩ := h
  exact ⟨m, (hb.cell (World.block_lt_of_cell? _ _ hm)).trans hm⟩
theorem ml_of {W : World} (h : W.ShapedOpen Tryz.prog) : ML W := Tryz.rmCut.s1_3 W h

theorem pint_any (s : ByteArray) (hs : s.size ≤ 1048576) (w : World) (hE : EC w) :
    Calls Tryz.prog 88 #[.string s, .int .i64 10, .int .i64 64] w fun e w' => (∃ ev, e = .returned (.tuple #[.int .i64 (pI s.data.toList), ev])) ∧ Below w.heap.size w w' := by
  obtain ⟨⟨v, h1, h2⟩, u, h3, h4⟩ := hE
  unfold pI
  cases hp : Lib.parseIntB 64 s.data.toList with
  | ok z =>
    refine (Any.strconv_ParseInt_10_at64_ok Tryz.rmPI s (by omega) _ hp w).mono ?_
    rintro e w' ⟨rfl, hw⟩
    refine ⟨⟨_, rfl⟩, ?_⟩
    rcases hw with rfl | ⟨t, rfl⟩
    · exact Below.refl _ _
    · exact ⟨rfl, rfl, rfl, by rw [Lib.bytesWorld_size]; omega, fun j hj => Lib.bytesWorld_at_old w _ t j hj⟩
  | «syntax» =>
    refine (Any.strconv_ParseInt_10_at64_syntax Tryz.rmPI s (by omega) hp v w h1 h2).mono ?_
    rintro e w' ⟨N, rfl, _, _, hb⟩
    exact ⟨⟨_, rfl⟩, hb⟩
  | range =>
    refine (Any.strconv_ParseInt_10_at64_range Tryz.rmPI s (by omega) hp u w h3 h4).mono ?_
    rintro e w' ⟨N, rfl, _, _, hb⟩
    exact ⟨⟨_, rfl⟩, hb⟩

theorem ix_cut : ∀ l : List UInt8, (Lib.indexByte l 32 = -1 → cutW l = l ∧ cutR l = []) ∧ ∀ i : Nat, Lib.indexByte l 32 = (i : Int) → cutW l = l.take i ∧ cutR l = l.drop (i + 1)
  | [] => ⟨fun _ => ⟨rfl, rfl⟩, fun i h => by simp [Lib.indexByte] at h⟩
  | b :: l => by
    obtain ⟨h1, h2⟩ := ix_cut l
    have hge := Lib.indexByte_ge l 32
    constructor
    · intro h
      refine cut_none _ (fun c hc e => ?_)
      subst e
      obtain ⟨k, hk⟩ := List.mem_iff_getElem?.1 hc
      exact Lib.indexByte_none h k hk
    · intro i h
      obtain ⟨g1, g2⟩ := Lib.indexByte_some h
      have hlt : i < (b :: l).length := (List.getElem?_eq_some_iff.1 g1).1
      have hsp : b :: l = (b :: l).take i ++ 32 :: (b :: l).drop (i + 1) := by
        conv => lhs; rw [← List.take_append_drop i (b :: l)]
        rw [List.drop_eq_getElem_cons hlt]
        congr 2
        rw [List.getElem?_eq_getElem hlt] at g1
        exact Option.some.inj g1
      have hno : ∀ c ∈ (b :: l).take i, c ≠ 32 := fun c hc e => by
        subst e
        obtain ⟨k, hk⟩ := List.mem_iff_getElem?.1 hc
        rw [List.getElem?_take] at hk
        split at hk
        · next hki => exact g2 k hki hk
        · cases hk
      constructor
      · conv => lhs; rw [hsp, cutW_at _ _ hno]
      · conv => lhs; rw [hsp, cutR_at _ _ hno]
theorem cut_is (l : List UInt8) : (Lib.cut l [32]).1 = cutW l ∧ (Lib.cut l [32]).2.1 = cutR l := by
  obtain ⟨h1, h2⟩ := ix_cut l
  have hge := Lib.indexByte_ge l 32
  unfold Lib.cut
  rw [Lib.index_one]
  split
  · next h =>
    obtain ⟨i, hi⟩ : ∃ i : Nat, Lib.indexByte l 32 = (i : Int) := ⟨(Lib.indexByte l 32).toNat, by omega⟩
    obtain ⟨q1, q2⟩ := h2 i hi
    rw [hi, q1, q2]
    simp
  · next h =>
    obtain ⟨q1, q2⟩ := h1 (by omega)
    rw [q1, q2]
    simp
theorem icut_any (x : List UInt8) (hs : x.length ≤ 1048576) (w : World) (hm : ML w) :
    Calls Tryz.prog 60 #[.string (BA x), .string ⟨#[32]⟩] w fun e w' => (∃ b : Bool, e = .returned (.tuple #[.string (BA (cutW x)), .string (BA (cutR x)), .bool b])) ∧ Below w.heap.size w w' := by
  obtain ⟨m, hm⟩ := hm
  refine (Any.strings_Cut { Tryz.rmCut with } (BA x) ⟨#[32]⟩ m w (by rw [BA_size]; omega) hm).mono ?_
  rintro e w' ⟨rfl, n, rfl⟩
  obtain ⟨q1, q2⟩ := cut_is x
  refine ⟨⟨(Lib.cut x [32]).2.2, ?_⟩, Go.below_drewN (Below.refl _ _) _⟩
  rw [← q1, ← q2]
  rfl

/-- What a line is behind TrimSuffix. -/
theorem trim_nl (x : List UInt8) : Lib.trimSuffix (x ++ [10]) [10] = x := by
  unfold Lib.trimSuffix
  have : Lib.hasSuffix (x ++ [10]) [10] = true := by unfold Lib.hasSuffix; rw [List.isSuffixOf_iff_suffix]; exact List.suffix_append _ _
  rw [this]
  simp
theorem trim_no {x : List UInt8} (h : ∀ b ∈ x, b ≠ 10) : Lib.trimSuffix x [10] = x := by
  unfold Lib.trimSuffix
  have : Lib.hasSuffix x [10] = false := by
    unfold Lib.hasSuffix
    rw [Bool.eq_false_iff]
    intro e
    rw [List.isSuffixOf_iff_suffix] at e
    obtain ⟨t, rfl⟩ := e
    exact h 10 (by simp) rfl
  rw [this]
  simp
theorem its_any (x : List UInt8) (hs : x.length ≤ 1048577) (w : World) :
    Calls Tryz.prog 61 #[.string (BA x), .string ⟨#[10]⟩] w fun e w' => e = .returned (.string (BA (Lib.trimSuffix x [10]))) ∧ w' = w :=
  Any.strings_TrimSuffix Tryz.rmTS (BA x) ⟨#[10]⟩ w (by rw [BA_size]; omega)
theorem iix_any (s : ByteArray) (w : World) :
    Calls Tryz.prog 84 #[.string s, .int .u8 10] w fun e w' => e = .returned (.int .i64 (Lib.indexByte s.data.toList 10)) ∧ w' = w :=
  Any.strings_IndexByte Tryz.rmIB s 10 w

/-! The lines as the program takes them. -/
def rawL (l : List UInt8) : List (List UInt8) := (lnA [] l).1.map (· ++ [10]) ++ (if (lnA [] l).2 = [] then [] else [(lnA [] l).2])
def allL (l : List UInt8) : List (List UInt8) := (lnA [] l).1 ++ (if (lnA [] l).2 = [] then [] else [(lnA [] l).2])
theorem rawL_nil : rawL [] = [] := rfl
theorem rawL_none {l : List UInt8} (h : Lib.indexByte l 10 = -1) (hl : l ≠ []) : rawL l = [l] := by
  have hno : ∀ b ∈ l, b ≠ 10 := fun b hb e => by
    subst e
    obtain ⟨k, hk⟩ := List.mem_iff_getElem?.1 hb
    exact Lib.indexByte_none h k hk
  have := lnA_step [] l [] hno
  rw [List.append_nil, List.nil_append] at this
  unfold rawL
  rw [this]
  simp [lnA, hl]
theorem rawL_hit {l : List UInt8} {i : Nat} (h : Lib.indexByte l 10 = (i : Int)) : i < l.length ∧ rawL l = l.take (i + 1) :: rawL (l.drop (i + 1)) := by
  obtain ⟨g1, g2⟩ := Lib.indexByte_some h
  have hlt : i < l.length := (List.getElem?_eq_some_iff.1 g1).1
  have e10 : l[i] = 10 := by rw [List.getElem?_eq_getElem hlt] at g1; exact Option.some.inj g1
  have hsp : l = l.take i ++ 10 :: l.drop (i + 1) := by
    conv => lhs; rw [← List.take_append_drop i l]
    rw [List.drop_eq_getElem_cons hlt, e10]
  have hno : ∀ c ∈ l.take i, c ≠ 10 := fun c hc e => by
    subst e
    obtain ⟨k, hk⟩ := List.mem_iff_getElem?.1 hc
    rw [List.getElem?_take] at hk
    split at hk
    · next hki => exact g2 k hki hk
    · cases hk
  refine ⟨hlt, ?_⟩
  have hl := lnA_line (l.take i) [] (l.drop (i + 1)) hno
  rw [← hsp] at hl
  unfold rawL
  rw [hl]
  simp only [List.nil_append, List.map_cons, List.cons_append]
  congr 1
  rw [List.take_succ_eq_append_getElem hlt, e10]
theorem lnA_no : ∀ (l acc : List UInt8), (∀ b ∈ acc, b ≠ 10) → ∀ b ∈ (lnA acc l).2, b ≠ 10
  | [], acc, h => h
  | c :: r, acc, h => by
    unfold lnA
    split
    · exact lnA_no r [] (fun b hb => by simp at hb)
    · next hc => exact lnA_no r (acc ++ [c]) (fun b hb => by rw [List.mem_append, List.mem_singleton] at hb; rcases hb with hb | rfl; exact h b hb; exact hc)
theorem raw_trim (l : List UInt8) : (rawL l).map (fun x => Lib.trimSuffix x [10]) = allL l := by
  unfold rawL allL
  rw [List.map_append, List.map_map]
  congr 1
  · have : ((fun x => Lib.trimSuffix x [10]) ∘ fun x => x ++ [10]) = (id : List UInt8 → List UInt8) := funext (fun x => trim_nl x)
    rw [this, List.map_id]
  · split
    · rfl
    · rw [List.map_cons, List.map_nil, trim_no (lnA_no l [] (fun b hb => by simp at hb))]

end Go.Proofs.YtkmhaemcpakobaaGreatDoor.mt
