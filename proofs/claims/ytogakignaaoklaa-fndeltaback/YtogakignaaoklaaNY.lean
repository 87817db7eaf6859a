import Derived.Test.YtogakignaaoklaaNX
namespace Go.Proofs.Ytogakignaaoklaa.dl
open Go.ChangeShapes Go.WideShapes Go.ChangeAt Go.RowKit Go.Deep
open bf (Bf Ap num)
set_option linter.unusedVariables false
set_option linter.unusedSimpArgs false

/-! ### impl.MakeDelta -/

def slLen : Value → Nat | .slice _ n _ => n | _ => 0

/-- A row of these steps, made since. -/
def MkRes (w w' : World) (X : List Sp) (e : Ending) : Prop := ∃ v zs base, e = .returned v ∧ xs zs = X ∧ w.heap.size ≤ base ∧ RowS base w' v zs ∧ Below w.heap.size w w'

theorem mkA_nil (old : List UInt8) (X : List Sp) : ∀ f, mkA old f [] X = X
  | 0 => rfl
  | _ + 1 => rfl
theorem mkA_copy {old rest : List UInt8} {X : List Sp} {f : Nat} (h : 6 ≤ (fd old rest old.length).2) (hr : rest ≠ []) : mkA old (f + 1) rest X = mkA old f (rest.drop (fd old rest old.length).2) (X ++ [⟨1, ((fd old rest old.length).1 : Int), ((fd old rest old.length).2 : Int), []⟩]) := by
  match rest, hr with
  | y :: r, _ => rw [mkA, if_pos h]
theorem mkA_add {old rest : List UInt8} {X : List Sp} {f : Nat} {y : UInt8} {r : List UInt8} (hr : rest = y :: r) (h : ¬ 6 ≤ (fd old rest old.length).2) : mkA old (f + 1) rest X = mkA old f r (addB X y) := by
  subst hr
  rw [mkA, if_neg h]
theorem fd_rest (old rest : List UInt8) : ∀ k, (fd old rest k).2 ≤ rest.length
  | 0 => Nat.zero_le _
  | k + 1 => by
    have := fd_rest old rest k
    have hm := ml_le old rest k
    unfold fd
    split
    · exact hm
    · exact this

/-- The row so far: the empty one of the beginning, or one of the call's own behind B. -/
def RowB (B G0 : Nat) (wr : World) (va : Option Addr) (vc : Nat) (zs : List Sz) : Prop := (zs = [] ∧ va = some ⟨G0, 0, none⟩ ∧ vc = 0) ∨ (zs ≠ [] ∧ RowS B wr (.slice va zs.length vc) zs)
theorem RowB.below {B G0 : Nat} {w w' : World} {va : Option Addr} {vc : Nat} {zs : List Sz} (h : RowB B G0 w va vc zs) (hb : Below w.heap.size w w') : RowB B G0 w' va vc zs := by
  rcases h with h | ⟨h1, h2⟩
  · exact .inl h
  · exact .inr ⟨h1, h2.below hb⟩
theorem LB.below {B : Nat} {w w' : World} {zs : List Sz} (h : LB B w zs) (hb : Below w.heap.size w w') : LB B w' zs := fun z hz hk => by
  obtain ⟨h1, h2, g, h3, h4⟩ := h z hz hk
  exact ⟨h1, h2, g, h3, h4.below hb⟩

/-- withByte, whatever the row is. -/
theorem with_all (B G0 vc m : Nat) (va : Option Addr) (zs : List Sz) (y : UInt8) (w : World) (hm : zs.length = m) (h : RowB B G0 w va vc zs) (hl : LB B w zs) (hn : m ≤ 100000) (hbs : B ≤ w.heap.size) :
    Calls Try.prog 18 #[.slice va m vc, .int .u8 (y.toNat : Int)] w fun e w' => WbR B w w' zs y e := by
  rcases h with ⟨rfl, rfl, rfl⟩ | ⟨hne, hrow⟩
  · subst hm
    exact with_first B G0 y w hbs
  · obtain ⟨z, hz⟩ : ∃ z, zs.getLast? = some z := ⟨_, List.getLast?_eq_some_getLast hne⟩
    by_cases hk : z.x.k = 2
    · obtain ⟨hd, hdl, g, ha, hbf⟩ := hl z hz hk
      obtain ⟨G, cap, e, _⟩ := hrow.shape
      obtain ⟨zs', rfl⟩ : ∃ zs', zs = zs' ++ [z] := List.getLast?_eq_some_iff.1 hz
      simp only [Value.slice.injEq] at e
      obtain ⟨rfl, _, rfl⟩ := e
      rw [List.length_append, List.length_singleton] at hm
      subst hm
      exact with_grow B G vc g zs'.length zs' z y w rfl hrow hk hd hdl ha hbf (by omega)
    · exact with_new B vc m va zs y w hm hrow (fun z' hz' => by rw [hz] at hz'; cases hz'; exact hk) hn hbs

/-- No addition is longer than what has been read. -/
def LastD (X : List Sp) (i : Nat) : Prop := ∀ x, X.getLast? = some x → x.d.length ≤ i
theorem addB_last {X : List Sp} {y : UInt8} {i : Nat} (h : LastD X i) : LastD (addB X y) (i + 1) := fun x hx => by
  unfold addB at hx
  cases hl : X.getLast? with
  | none =>
    simp only [hl] at hx
    simp at hx
    subst hx
    simp
  | some x0 =>
    simp only [hl] at hx
    have := h x0 hl
    split at hx
    · rw [List.getLast?_concat] at hx
      cases hx
      simp
      omega
    · rw [List.getLast?_concat] at hx
      cases hx
      simp
theorem xs_last (zs : List Sz) : (xs zs).getLast? = zs.getLast?.map (·.x) := by unfold xs; rw [List.getLast?_map]

/-- Where the program's loop stands: i bytes are read. -/
def MI (B G0 nb nn : Nat) (old fresh : List UInt8) (R : List Sp) (w2 : World) (vd vr : Value) (wr : World) (i : Nat) : Prop :=
  ∃ (zs : List Sz) (va : Option Addr) (vc ra rl rc f : Nat), vd = .slice va zs.length vc ∧ RowB B G0 wr va vc zs ∧ LB B wr zs ∧ LastD (xs zs) i ∧ zs.length ≤ i ∧ vr = .slice (some ⟨nb, ra, none⟩) rl rc ∧ rl ≤ rc ∧ (rl ≠ 0 → ra = i) ∧ i + rl = nn ∧ rl ≤ f ∧ mkA old f (fresh.drop i) (xs zs) = R ∧ Below B w2 wr

set_option maxRecDepth 100000 in
set_option maxHeartbeats 8000000 in
theorem imk_any {oc nc : Nat} (ob nb on nn : Nat) (old fresh : List UInt8) (hon : old.length = on) (hnn : fresh.length = nn) (hol : on ≤ 1048576) (hnl : nn ≤ 1048576) (w : World) (hO : By w ob old) (hF : By w nb fresh) (hob : ob < w.heap.size) (hnb : nb < w.heap.size) (hoc : on ≤ oc := by omega) (hnc : nn ≤ nc := by omega) :
    Calls Try.prog 6 #[.slice (some ⟨ob, 0, none⟩) on oc, .slice (some ⟨nb, 0, none⟩) nn nc] w fun e w' => MkRes w w' (mkB' old fresh) e := by
  have HN0 : Hid (RowS w.heap.size (w.alloc (.cells #[] 41)) (.slice (some ⟨w.heap.size, 0, none⟩) 0 0) []) := RowS.nil w.heap.size w (Nat.le_refl _)
  have HB0 : Hid (Below w.heap.size w (w.alloc (.cells #[] 41))) := (Below.refl _ _).alloc (Nat.le_refl _) _
  by_cases h3 : on ≤ 3000 ∧ nn ≤ 3000
  case neg =>
    have hR : mkB' old fresh = [] := by unfold mkB'; rw [if_neg (by rw [hon, hnn]; exact h3)]
    rw [hR]
    by_cases h1 : on ≤ 3000
    · have h1' : ¬ (3000 : Int) < (on : Int) := by omega
      have h2' : (3000 : Int) < (nn : Int) := by omega
      clear hO hF hon hnn hR h3
      go_enter Try.func6, Try.ntmps6
      go_wp2
      go_ret
      exact ⟨_, [], w.heap.size, rfl, rfl, Nat.le_refl _, HN0.out, HB0.out⟩
    · have h1' : (3000 : Int) < (on : Int) := by omega
      clear hO hF hon hnn hR h3
      go_enter Try.func6, Try.ntmps6
      go_wp2
      go_ret
      exact ⟨_, [], w.heap.size, rfl, rfl, Nat.le_refl _, HN0.out, HB0.out⟩
  obtain ⟨h31, h32⟩ := h3
  have h1' : ¬ (3000 : Int) < (on : Int) := by omega
  have h2' : ¬ (3000 : Int) < (nn : Int) := by omega
  have hR : mkB' old fresh = mkA old fresh.length fresh [] := by unfold mkB'; rw [if_pos (by rw [hon, hnn]; exact ⟨h31, h32⟩)]
  obtain ⟨R, hRR⟩ : ∃ R, mkB' old fresh = R := ⟨_, rfl⟩
  have HRR : Hid (mkA old nn fresh [] = R) := by show _ = _; rw [← hRR, hR, hnn]
  rw [hRR]
  have HPL : Hid (∀ W, Below w.heap.size w W → Calls Try.prog 16 #[.slice (some ⟨ob, 0, none⟩) on oc] W fun e w' => PlR W w' old on e) := fun W hW => places_any ob on old hon hoc (by omega) W (hO.below hob hW) (Nat.lt_of_lt_of_le hob hW.size)
  have HLC : Hid (∀ W mb es clock base i ra rl rc, rl ≤ rc → Below w.heap.size w W → Pl base W mb (plc old (on + 1 - 6)) es clock → ra = i → i + rl = nn → Calls Try.prog 17 #[.slice (some ⟨ob, 0, none⟩) on oc, .map (some mb), .slice (some ⟨nb, ra, none⟩) rl rc] W fun e w' => LcR W w' old (fresh.drop i) e) := fun W mb es clock base i ra rl rc hrc hW hP hra hir => by
    subst hra
    refine longest_any base ob on mb nb ra rl rc old (fresh.drop ra) hon hoc (by rw [List.length_drop, hnn]; omega) h31 (by omega) hrc W (hO.below hob hW) (Nat.lt_of_lt_of_le hob hW.size) (fun j h => ?_) es clock hP
    have hj : ra + j < fresh.length := by rw [List.length_drop] at h; omega
    rw [(hF.below hnb hW) (ra + j) hj, List.getElem_drop]
  have HFC : Hid (∀ W i, Below w.heap.size w W → i < nn → ∃ y, W.cell? ⟨nb, i, none⟩ = some (.int .u8 ((y : UInt8).toNat : Int)) ∧ fresh.drop i = y :: fresh.drop (i + 1)) := fun W i hW hi => by
    have hi' : i < fresh.length := by omega
    exact ⟨fresh[i], (hF.below hnb hW) i hi', List.drop_eq_getElem_cons hi'⟩
  have HON : Hid (old.length = on ∧ fresh.length = nn) := ⟨hon, hnn⟩
  clear hO hF hon hnn hR hRR hob hnb hol hnl hoc
  go_enter Try.func6, Try.ntmps6
  go_wp2_with (first | (go_at_call 16; refine (HPL.out _ HB0.out).mono ?_; rintro e w2 ⟨mb, es, clock, rfl, hmb, hpl, hl2⟩; refine Hid.out ?_) | go_in)
  refine Lib.hid ?_
  have HP2 : Hid (Pl (w.alloc (.cells #[] 41)).heap.size w2 mb (plc old (on + 1 - 6)) es clock) := hpl
  have HB2 : Hid (Below w.heap.size w w2) := HB0.out.trans (hl2.mono HB0.out.size)
  have HN2 : Hid (RowS w.heap.size w2 (.slice (some ⟨w.heap.size, 0, none⟩) 0 0) []) := HN0.out.below hl2
  clear hpl hl2 HPL HN0 hmb
  go_wp2_with fail
  go_loopw [5, 7, 8, 9] (fun vd vr _ _ wr => ∃ i, MI w2.heap.size w.heap.size nb nn old fresh R w2 vd vr wr i) (fun _ vr _ _ _ => slLen vr)
  case atStart => exact ⟨0, [], _, 0, 0, nn, nc, nn, rfl, .inl ⟨rfl, rfl, rfl⟩, fun z hz => by simp at hz, fun x hx => by simp [xs] at hx, Nat.le_refl _, rfl, hnc, fun _ => rfl, by omega, Nat.le_refl _, HRR.out, Below.refl _ _⟩
  case round =>
    obtain ⟨i, zs, va, vc, ra, rl, rc, f, rfl, hrow, hlb, hld, hzl, rfl, hrc, hra, hir, hrf, hmk, hbel⟩ := hrel
    have HBE : Hid (Below w2.heap.size w2 wr) := hbel
    have HBW : Hid (Below w.heap.size w wr) := HB2.out.trans (hbel.mono HB2.out.size)
    have hs2 : w2.heap.size ≤ wr.heap.size := hbel.size
    rcases Nat.eq_zero_or_pos rl with h0 | h0
    · subst h0
      have hX : xs zs = R := by
        rw [← hmk, List.drop_eq_nil_of_le (by rw [HON.out.2]; omega), mkA_nil]
      have HF : Hid (MkRes w wr R (.returned (.slice va zs.length vc))) := by
        rcases hrow with ⟨e1, e2, e3⟩ | ⟨_, hr⟩
        · subst e1 e2 e3
          exact ⟨_, [], w.heap.size, rfl, hX, Nat.le_refl _, HN2.out.below hbel, HBW.out⟩
        · exact ⟨_, zs, w2.heap.size, rfl, hX, HB2.out.size, hr, HBW.out⟩
      clear hrow hlb hld hmk hbel hra hir hrf hX HBE
      go_wp2
      go_ret
      exact HF.out
    · obtain rfl : ra = i := hra (by omega)
      have h0' : (0 : Int) < (rl : Int) := by omega
      have hin : ra < nn := by omega
      obtain ⟨f', rfl⟩ : ∃ f', f = f' + 1 := ⟨f - 1, by omega⟩
      have HLC1 : Hid (Calls Try.prog 17 #[.slice (some ⟨ob, 0, none⟩) on oc, .map (some mb), .slice (some ⟨nb, ra, none⟩) rl rc] wr fun e w' => LcR wr w' old (fresh.drop ra) e) := HLC.out wr mb es clock _ ra ra rl rc hrc HBW.out (HP2.out.below hbel) rfl hir
      obtain ⟨y, hyc, hyd⟩ := HFC.out wr ra HBW.out hin
      obtain ⟨q, hq⟩ : ∃ q, fd old (fresh.drop ra) old.length = q := ⟨_, rfl⟩
      have hqr : q.2 ≤ rl := by
        have := fd_rest old (fresh.drop ra) old.length
        rw [hq, List.length_drop, HON.out.2] at this
        omega
      have HRW : Hid (RowB w2.heap.size w.heap.size wr va vc zs) := hrow
      have HLB : Hid (LB w2.heap.size wr zs) := hlb
      have HLD : Hid (LastD (xs zs) ra) := hld
      have HIR : Hid (ra + rl = nn ∧ rl ≤ f' + 1 ∧ rl ≤ rc) := ⟨hir, hrf, hrc⟩
      obtain ⟨zl, hzlE⟩ : ∃ zl, zs.length = zl := ⟨_, rfl⟩
      have HZL : Hid (zs.length = zl) := hzlE
      have hzn : zl ≤ 3000 := by omega
      have hzr : zl ≤ ra := by omega
      rw [hzlE]
      by_cases h6 : 6 ≤ q.2
      · have HMK : Hid (mkA old f' (fresh.drop (ra + q.2)) (xs zs ++ [⟨1, (q.1 : Int), (q.2 : Int), []⟩]) = R) := by
          show _ = _
          rw [← hmk, mkA_copy (by rw [hq]; exact h6) (by rw [hyd]; simp), hq, List.drop_drop]
        have hqi : (q.2 : Int) ≤ (rl : Int) := by omega
        have hqi0 : (0 : Int) ≤ (q.2 : Int) := by omega
        have HLC2 : Hid (Calls Try.prog 17 #[.slice (some ⟨ob, 0, none⟩) on oc, .map (some mb), .slice (some ⟨nb, ra, none⟩) rl rc] wr fun e w' => e = .returned (.tuple #[.agg #[.int .i64 1, .int .i64 (q.1 : Int), .int .i64 (q.2 : Int), .slice none 0 0], .bool true]) ∧ Below wr.heap.size wr w') := HLC1.out.mono fun e w' h => by
          obtain ⟨a0, a1, a2, e1, e2, e3⟩ := h
          rw [hq] at e1 e2
          obtain ⟨rfl, rfl, rfl⟩ := e2 h6
          rw [decide_eq_true h6] at e1
          exact ⟨e1, e3⟩
        clear hrow hlb hld hmk hbel hra hir hrf hq hyc hyd HLC1 hzl hzlE
        go_wp2_with (first | (go_at_call 17; refine HLC2.out.mono ?_; rintro e w3 ⟨rfl, hl3⟩; refine Hid.out ?_) | go_in)
        refine Lib.hid ?_
        obtain ⟨W5, hW5⟩ : ∃ W5 : World, (w3.alloc (.cells #[.int .i64 1, .int .i64 (q.1 : Int), .int .i64 (q.2 : Int), .slice none 0 0] 41)).alloc (.cells #[.int .i64 1, .int .i64 (q.1 : Int), .int .i64 (q.2 : Int), .slice none 0 0] 41) = W5 := ⟨_, rfl⟩
        have HW5 : Hid ((w3.alloc (.cells #[.int .i64 1, .int .i64 (q.1 : Int), .int .i64 (q.2 : Int), .slice none 0 0] 41)).alloc (.cells #[.int .i64 1, .int .i64 (q.1 : Int), .int .i64 (q.2 : Int), .slice none 0 0] 41) = W5) := hW5
        have hb5 : Below w3.heap.size w3 W5 := by rw [← hW5]; exact ((Below.refl _ _).alloc (Nat.le_refl _) _).alloc (by simp) _
        have hbr5 : Below wr.heap.size wr W5 := hl3.trans (hb5.mono hl3.size)
        have hz5 : W5.heap.size = w3.heap.size + 2 := by rw [← hW5]; simp
        have HNEW : Hid (∀ j u, (szV ⟨⟨1, (q.1 : Int), (q.2 : Int), []⟩, none, 0⟩)[j]? = some u → W5.cell? ((⟨w3.heap.size + 1, 0, none⟩ : Addr).add j) = some u) := by
          intro j u hj
          rw [← hW5, addr_add, Nat.zero_add]
          have := World.cell?_alloc_new (w3.alloc (.cells #[.int .i64 1, .int .i64 (q.1 : Int), .int .i64 (q.2 : Int), .slice none 0 0] 41)) #[.int .i64 1, .int .i64 (q.1 : Int), .int .i64 (q.2 : Int), .slice none 0 0] 41 j
          rw [World.size_alloc] at this
          rw [this]
          simpa [szV] using hj
        have c2 : W5.cell? ⟨w3.heap.size, 2, none⟩ = some (.int .i64 (q.2 : Int)) := by rw [← hW5]; simp [go_sem]
        have hs3 := hl3.size
        have HB5 : Hid (Below w2.heap.size w2 W5) := HBE.out.trans (hbr5.mono HBE.out.size)
        have HBS : Hid (w2.heap.size ≤ W5.heap.size) := HB5.out.size
        -- the end of the round, whatever the append gave
        have HEND : Hid (∀ (v6 : Value) (w6 : World), RowS w2.heap.size w6 v6 (zs ++ [(⟨⟨1, (q.1 : Int), (q.2 : Int), []⟩, none, 0⟩ : Sz)]) → Below w2.heap.size w2 w6 → ∀ ra' rl' rc', ra' = (if rc = q.2 then ra else ra + q.2) → rl' = rl - q.2 → rc' = rc - q.2 → MI w2.heap.size w.heap.size nb nn old fresh R w2 v6 (.slice (some ⟨nb, ra', none⟩) rl' rc') w6 (ra + q.2)) := fun v6 w6 hr6 hb6 ra' rl' rc' e1 e2 e3 => by
          obtain ⟨h1, h2, h3⟩ := HIR.out
          obtain ⟨G6, cap6, rfl, _⟩ := hr6.shape
          refine ⟨_, _, cap6, ra', rl', rc', f', rfl, .inr ⟨by simp, hr6⟩, fun z hz hk => ?_, fun x hx => ?_, ?_, rfl, by omega, fun hne => ?_, by omega, by omega, ?_, hb6⟩
          · rw [List.getLast?_concat] at hz
            cases hz
            cases hk
          · rw [xs_app, List.getLast?_concat] at hx
            cases hx
            exact Nat.zero_le _
          · rw [List.length_append, HZL.out]
            simp
            omega
          · rw [e1, if_neg (by omega)]
          · rw [xs_app]
            exact HMK.out
        clear hW5 hb5
        rcases HRW.out with ⟨e1, e2, e3⟩ | ⟨hne, hrs⟩
        · subst e1 e2 e3
          obtain rfl : zl = 0 := HZL.out.symm
          go_wp2_with (first
            | (at_builtin; rw [HW5.out]; refine app_first _ rfl _ _ rfl w.heap.size rfl ⟨⟨1, (q.1 : Int), (q.2 : Int), []⟩, none, 0⟩ ⟨w3.heap.size + 1, 0, none⟩ rfl HNEW.out ?_; intro v6 w6 hown6 hg6; refine Hid.out ?_)
            | go_in)
          refine Lib.hid ?_
          have HR6 : Hid (RowS w2.heap.size w6 v6 [(⟨⟨1, (q.1 : Int), (q.2 : Int), []⟩, none, 0⟩ : Sz)]) := row_one HBS.out hown6 hg6 (fun h => absurd rfl h)
          have HB6 : Hid (Below w2.heap.size w2 w6) := HB5.out.grown hg6 HBS.out (fun k hk => by cases hk)
          have d2 : w6.cell? ⟨w3.heap.size, 2, none⟩ = some (.int .i64 (q.2 : Int)) := (World.cell?_of_block (a := ⟨w3.heap.size, 2, none⟩) (hg6.block w3.heap.size (by omega) (by simp))).trans c2
          clear hown6 hg6 c2 hbr5 hl3
          go_wp2
          go_roundw
          case rel =>
            refine ⟨ra + q.2, ?_⟩
            by_cases hrq : rc = q.2
            · rw [if_pos hrq]; exact HEND.out _ _ HR6.out HB6.out ra _ _ (by rw [if_pos hrq]) rfl rfl
            · rw [if_neg hrq]; exact HEND.out _ _ HR6.out HB6.out (ra + q.2) _ _ (by rw [if_neg hrq]) rfl rfl
          case measure => simp [slLen]; omega
        · obtain ⟨G, cap, e, _⟩ := hrs.shape
          simp only [Value.slice.injEq] at e
          obtain ⟨rfl, _, rfl⟩ := e
          have hrs5 := hrs.below hbr5
          have HRS : Hid (RowS w2.heap.size W5 (.slice (some ⟨G, 0, none⟩) zs.length vc) zs) := hrs5
          have HOWN : Hid (W5.ownsRow w2.heap.size 41 4 (.slice (some ⟨G, 0, none⟩) zl vc) zl (szC zs)) := by
            have := hrs5.own
            rwa [HZL.out] at this
          have hGl : G < wr.heap.size := (hrs.own.lt G rfl).2
          have hcl1 : zl + 1 ≤ maxLen := by unfold maxLen; omega
          have hcl2 : (zl + 1) * 48 ≤ 140737488355328 := by omega
          clear hrs hrs5
          go_wp2_with (first
            | (at_builtin; rw [HW5.out]; refine app_ownS _ rfl _ _ 26 rfl w2.heap.size 41 (.agg #[.int .i64 0, .int .i64 0, .int .i64 0, .slice none 0 0]) 4 48 Try.underlying26 infoSt rfl (by decide) (.slice (some ⟨G, 0, none⟩) zl vc) zl (szC zs) rfl HOWN.out ⟨w3.heap.size + 1, 0, none⟩ 1 1 (szV ⟨⟨1, (q.1 : Int), (q.2 : Int), []⟩, none, 0⟩) rfl rfl HNEW.out (szV_one _) hcl1 hcl2 HBS.out ?_; intro v6 w6 hown6 hg6; refine Hid.out ?_)
            | go_in)
          refine Lib.hid ?_
          have HR6 : Hid (RowS w2.heap.size w6 v6 (zs ++ [(⟨⟨1, (q.1 : Int), (q.2 : Int), []⟩, none, 0⟩ : Sz)])) := RowS.push HRS.out (by rw [HZL.out]; exact hown6) (by rw [HZL.out]; exact hg6) (fun h => absurd rfl h)
          have HB6 : Hid (Below w2.heap.size w2 w6) := HB5.out.grown hg6 HBS.out (fun k hk => (HOWN.out.lt k hk).1)
          have d2 : w6.cell? ⟨w3.heap.size, 2, none⟩ = some (.int .i64 (q.2 : Int)) := (World.cell?_of_block (a := ⟨w3.heap.size, 2, none⟩) (hg6.block w3.heap.size (by omega) (fun e => by have := Option.some.inj e; simp at this; omega))).trans c2
          clear hown6 hg6 c2 hbr5 hl3
          go_wp2
          go_roundw
          case rel =>
            refine ⟨ra + q.2, ?_⟩
            by_cases hrq : rc = q.2
            · rw [if_pos hrq]; exact HEND.out _ _ HR6.out HB6.out ra _ _ (by rw [if_pos hrq]) rfl rfl
            · rw [if_neg hrq]; exact HEND.out _ _ HR6.out HB6.out (ra + q.2) _ _ (by rw [if_neg hrq]) rfl rfl
          case measure => simp [slLen]; omega
      · have HMK : Hid (mkA old f' (fresh.drop (ra + 1)) (addB (xs zs) y) = R) := by
          show _ = _
          rw [← hmk, mkA_add hyd (by rw [hq]; exact h6)]
        have HLC2 : Hid (Calls Try.prog 17 #[.slice (some ⟨ob, 0, none⟩) on oc, .map (some mb), .slice (some ⟨nb, ra, none⟩) rl rc] wr fun e w' => (∃ a0 a1 a2 : Int, e = .returned (.tuple #[.agg #[.int .i64 a0, .int .i64 a1, .int .i64 a2, .slice none 0 0], .bool false])) ∧ Below wr.heap.size wr w') := HLC1.out.mono fun e w' h => by
          obtain ⟨a0, a1, a2, e1, e2, e3⟩ := h
          rw [hq, decide_eq_false h6] at e1
          exact ⟨⟨a0, a1, a2, e1⟩, e3⟩
        have HWB : Hid (∀ W, Below wr.heap.size wr W → Calls Try.prog 18 #[.slice va zl vc, .int .u8 (y.toNat : Int)] W fun e w' => WbR w2.heap.size W w' zs y e) := fun W hW => with_all w2.heap.size w.heap.size vc zl va zs y W HZL.out (HRW.out.below hW) (HLB.out.below hW) (by omega) (Nat.le_trans hs2 hW.size)
        have HNL : Hid (nb < wr.heap.size) := World.block_lt_of_cell? _ _ hyc
        clear hrow hlb hld hmk hbel hra hir hrf hq hyd HLC1 hzl hzlE
        go_wp2_with (first | (go_at_call 17; refine HLC2.out.mono ?_; rintro e w3 ⟨⟨a0, a1, a2, rfl⟩, hl3⟩; refine Hid.out ?_) | go_in)
        refine Lib.hid ?_
        have b4 : ∀ o, Below wr.heap.size wr (w3.alloc o) := fun o => hl3.alloc hl3.size _
        have HB4 : Hid (∀ o, Below wr.heap.size wr (w3.alloc o)) := b4
        have cy : ∀ o, (w3.alloc o).cell? ⟨nb, ra, none⟩ = some (.int .u8 (y.toNat : Int)) := fun o => ((b4 o).cell (p := ⟨nb, ra, none⟩) HNL.out).trans hyc
        clear b4 hyc hl3
        go_wp2_with (first | (go_at_call 18; refine (HWB.out _ (HB4.out _)).mono ?_; rintro e w5 ⟨zs', va', vc', rfl, hr5, hx5, hl5, hb5⟩; refine Hid.out ?_) | go_in)
        refine Lib.hid ?_
        have hne : zs' ≠ [] := by
          intro e
          rw [e] at hx5
          have : (addB (xs zs) y).length = 0 := by rw [← hx5]; rfl
          unfold addB at this
          split at this
          · split at this <;> simp at this
          · simp at this
        have hlen : zs'.length ≤ zl + 1 := by
          have : (xs zs').length = (addB (xs zs) y).length := by rw [hx5]
          rw [xs_len] at this
          rw [this]
          unfold addB
          split
          · split
            · rw [List.length_append, List.length_dropLast, xs_len, HZL.out]; simp; try omega
            · rw [List.length_append, xs_len, HZL.out]; simp
          · simp
        have hB5 : ∀ o, Below w2.heap.size w2 (w3.alloc o) := fun o => HBE.out.trans ((HB4.out o).mono HBE.out.size)
        have HEND : Hid (∀ ra' rl' rc', ra' = (if rc = 1 then ra else ra + 1) → rl' = rl - 1 → rc' = rc - 1 → MI w2.heap.size w.heap.size nb nn old fresh R w2 (.slice va' zs'.length vc') (.slice (some ⟨nb, ra', none⟩) rl' rc') w5 (ra + 1)) := fun ra' rl' rc' e1 e2 e3 => by
          obtain ⟨h1, h2, h3⟩ := HIR.out
          have hld' : LastD (xs zs') (ra + 1) := by rw [hx5]; exact addB_last HLD.out
          refine ⟨zs', va', vc', ra', rl', rc', f', rfl, .inr ⟨hne, hr5⟩, fun z hz hk => ?_, hld', by omega, rfl, by omega, fun hne => by rw [e1, if_neg (by omega)], by omega, by omega, by rw [hx5]; exact HMK.out, (hB5 _).trans hb5⟩
          obtain ⟨g1, g2, g3, g4⟩ := hl5 z hz
          have := hld' z.x (by rw [xs_last, hz]; rfl)
          exact ⟨g1, by omega, g2, g3, g4⟩
        obtain ⟨zl', hzl'⟩ : ∃ n, zs'.length = n := ⟨_, rfl⟩
        rw [hzl'] at HEND ⊢
        clear hr5 hx5 hl5 hb5 hne hlen hB5 hzl' cy
        go_wp2
        go_roundw
        case rel =>
          refine ⟨ra + 1, ?_⟩
          by_cases hrq : rc = 1
          · rw [if_pos hrq]; exact HEND.out ra _ _ (by rw [if_pos hrq]) rfl rfl
          · rw [if_neg hrq]; exact HEND.out (ra + 1) _ _ (by rw [if_neg hrq]) rfl rfl
        case measure => simp [slLen]; omega

end Go.Proofs.Ytogakignaaoklaa.dl
