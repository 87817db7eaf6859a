import Derived.Test.YtlnagmdoepldmaaDoorSL
namespace Go.Proofs.YtlnagmdoepldmaaDoor.ex
open Go.ChangeShapes Go.WideShapes Go.ChangeAt Go.RowKit Go.Deep
set_option linter.unusedVariables false
set_option linter.unusedSimpArgs false

theorem at_init (us : List Tr) (t : Tr) (i : Nat) (h : i < us.length) : (us ++ [t])[i]? = some (Tr.at (us ++ [t]) i) := tr_at (by simp; omega)

set_option maxRecDepth 100000 in
set_option maxHeartbeats 1000000 in
theorem sh_all {O : Nat → Prop} {base : Nat} (hO : ∀ bb, O bb → bb < base) (hI : IntC base) : ∀ (r : Nat) (x : Value) (t : Tr), WfT r t → exprK t.kind = true → Sh O base r x t := by
  intro r
  induction r using Nat.strongRecOn with
  | ind r ih =>
    intro x t hwf hk w v l hown hb hnd hlen
    cases r with
    | zero => exact hnd.elim
    | succ r =>
      obtain ⟨k, tt, n, ps⟩ := t
      obtain ⟨-, vs, hvl, hch, hnv⟩ := hnd
      obtain ⟨hok, hpo, hts, hn, hps, hkids⟩ := hwf
      have hkk : exprK k = true := hk
      have hS : ∀ x t, WfT r t → exprK t.kind = true → Sh O base r x t := ih r (by omega)
      have hB : ∀ (y : Tr) (x : Value), WfT r y → (y.kind = 6 ∨ y.kind = 7) → Nd w O r x y → BdV w O base x (txt r y) := by
        intro y x h1 h2 h3
        cases r with
        | zero => exact h3.elim
        | succ r => exact bind_of hO (ih r (by omega)) h1 h2 h3
      have hPm : ∀ (w : World) (y : Tr) (x : Value), Rd base w → WfT r y → y.kind = 15 → Nd w O r x y → PmV w base x (txt r y) := by
        intro w y x hb h1 h2 h3
        cases r with
        | zero => exact h3.elim
        | succ r => exact param_of hO hb (ih r (by omega)) h1 h2 h3
      clear ih
      cases hnv
      case intN =>
        match ps, hvl with
        | [], _ => exact sh1 hI (hn rfl).1 (hn rfl).2 w v l hown hb hlen
      case strN =>
        match ps, hvl with
        | [], _ => exact sh2 (hts rfl) w v l hown hb hlen
      case nameN =>
        match ps, hvl with
        | [], _ => exact sh3 w v l hown hb hlen
      case listN a cap hP =>
        refine sh4 hO vs ps hvl (by omega) a cap w hP (fun i x y hx hy => ?_) v l hown hb hlen
        obtain ⟨hw0, hk0⟩ := hkids i y hy
        have hk0' : exprK y.kind = true := by simpa [kidOk] using hk0
        exact ⟨hch i x y hx hy, pt_of hO hk0' (hS _ _ hw0 hk0')⟩
      case setN a cap hP =>
        refine sh5 hO vs ps hvl (by omega) a cap w hP (fun i x hx => ?_) v l hown hb hlen
        have hi : i < ps.length := by rw [← hvl]; exact (List.getElem?_eq_some_iff.1 hx).1
        obtain ⟨hw0, hk0⟩ := hkids i _ (tr_at hi)
        have hk0' : (Tr.at ps i).kind = 6 ∨ (Tr.at ps i).kind = 7 := by simpa [kidOk] using hk0
        exact hB _ x hw0 hk0' (hch i x _ hx (tr_at hi))
      case bindN => exact absurd hkk (by decide)
      case inheritN => exact absurd hkk (by decide)
      case param0 => exact absurd hkk (by decide)
      case param1 => exact absurd hkk (by decide)
      case letN vs x0 a cap hP =>
        have hne : ps ≠ [] := by intro e; rw [e] at hvl; simp at hvl
        obtain ⟨us, t0, rfl⟩ : ∃ us t0, ps = us ++ [t0] := ⟨ps.dropLast, ps.getLast hne, (List.dropLast_concat_getLast hne).symm⟩
        have hul : vs.length = us.length := by simpa using hvl
        obtain ⟨hw0, hk0⟩ := hkids us.length t0 (by simp)
        have hk0' : exprK t0.kind = true := by simpa [kidOk] using hk0
        have hn0 := hch us.length x0 t0 (by rw [← hul]; simp) (by simp)
        obtain ⟨T, p, rfl⟩ := hn0.iface
        refine sh8 hO vs us t0 hul (by simp at hps; omega) a cap T p w hP (fun i x hx => ?_) (pN hO hk0' hn0 (hS _ _ hw0 hk0')) v l hown hb hlen
        have hi : i < us.length := by rw [← hul]; exact (List.getElem?_eq_some_iff.1 hx).1
        obtain ⟨hw1, hk1⟩ := hkids i _ (at_init us t0 i hi)
        have hk1' : (Tr.at (us ++ [t0]) i).kind = 6 ∨ (Tr.at (us ++ [t0]) i).kind = 7 := by
          unfold kidOk at hk1
          rw [if_pos (.inr ⟨rfl, by simp; omega⟩)] at hk1
          exact hk1
        exact hB _ x hw1 hk1' (hch i x _ (by rw [List.getElem?_append_left (by omega)]; exact hx) (at_init us t0 i hi))
      case takeN vs x0 a cap hP =>
        have hne : ps ≠ [] := by intro e; rw [e] at hvl; simp at hvl
        obtain ⟨us, t0, rfl⟩ : ∃ us t0, ps = us ++ [t0] := ⟨ps.dropLast, ps.getLast hne, (List.dropLast_concat_getLast hne).symm⟩
        have hul : vs.length = us.length := by simpa using hvl
        obtain ⟨hw0, hk0⟩ := hkids us.length t0 (by simp)
        have hk0' : exprK t0.kind = true := by simpa [kidOk] using hk0
        have hn0 := hch us.length x0 t0 (by rw [← hul]; simp) (by simp)
        obtain ⟨T, p, rfl⟩ := hn0.iface
        refine sh14 hO vs us t0 hul (by simp at hps; omega) a cap T p w hP (fun w' v' l' ha i x hx => ?_) (pN hO hk0' hn0 (hS _ _ hw0 hk0')) v l hown hb hlen
        have hi : i < us.length := by rw [← hul]; exact (List.getElem?_eq_some_iff.1 hx).1
        obtain ⟨hw1, hk1⟩ := hkids i _ (at_init us t0 i hi)
        have hk1' : (Tr.at (us ++ [t0]) i).kind = 15 := by
          unfold kidOk at hk1
          rw [if_neg (by omega), if_pos ⟨rfl, by simp; omega⟩] at hk1
          exact hk1
        exact hPm w' _ x (hb.app ha) hw1 hk1' ((hch i x _ (by rw [List.getElem?_append_left (by omega)]; exact hx) (at_init us t0 i hi)).app hO hb.le ha)
      case withN x0 x1 =>
        match ps, hvl with
        | [t0, t1], _ =>
          obtain ⟨hw0, hk0⟩ := hkids 0 t0 rfl
          have hk0' : exprK t0.kind = true := by simpa [kidOk] using hk0
          have hn0 := hch 0 x0 t0 rfl rfl
          obtain ⟨T0, p0, rfl⟩ := hn0.iface
          obtain ⟨hw1, hk1⟩ := hkids 1 t1 rfl
          have hk1' : exprK t1.kind = true := by simpa [kidOk] using hk1
          have hn1 := hch 1 x1 t1 rfl rfl
          obtain ⟨T1, p1, rfl⟩ := hn1.iface
          exact sh9 hO hk0' (hS _ _ hw0 hk0') hk1' (hS _ _ hw1 hk1') w v l hown hb hn0 hn1 hlen
      case assertN x0 x1 =>
        match ps, hvl with
        | [t0, t1], _ =>
          obtain ⟨hw0, hk0⟩ := hkids 0 t0 rfl
          have hk0' : exprK t0.kind = true := by simpa [kidOk] using hk0
          have hn0 := hch 0 x0 t0 rfl rfl
          obtain ⟨T0, p0, rfl⟩ := hn0.iface
          obtain ⟨hw1, hk1⟩ := hkids 1 t1 rfl
          have hk1' : exprK t1.kind = true := by simpa [kidOk] using hk1
          have hn1 := hch 1 x1 t1 rfl rfl
          obtain ⟨T1, p1, rfl⟩ := hn1.iface
          exact sh10 hO hk0' (hS _ _ hw0 hk0') hk1' (hS _ _ hw1 hk1') w v l hown hb hn0 hn1 hlen
      case callN x0 x1 =>
        match ps, hvl with
        | [t0, t1], _ =>
          obtain ⟨hw0, hk0⟩ := hkids 0 t0 rfl
          have hk0' : exprK t0.kind = true := by simpa [kidOk] using hk0
          have hn0 := hch 0 x0 t0 rfl rfl
          obtain ⟨T0, p0, rfl⟩ := hn0.iface
          obtain ⟨hw1, hk1⟩ := hkids 1 t1 rfl
          have hk1' : exprK t1.kind = true := by simpa [kidOk] using hk1
          have hn1 := hch 1 x1 t1 rfl rfl
          obtain ⟨T1, p1, rfl⟩ := hn1.iface
          exact sh11 hO hk0' (hS _ _ hw0 hk0') hk1' (hS _ _ hw1 hk1') w v l hown hb hn0 hn1 hlen
      case ifN x0 x1 x2 =>
        match ps, hvl with
        | [t0, t1, t2], _ =>
          obtain ⟨hw0, hk0⟩ := hkids 0 t0 rfl
          have hk0' : exprK t0.kind = true := by simpa [kidOk] using hk0
          have hn0 := hch 0 x0 t0 rfl rfl
          obtain ⟨T0, p0, rfl⟩ := hn0.iface
          obtain ⟨hw1, hk1⟩ := hkids 1 t1 rfl
          have hk1' : exprK t1.kind = true := by simpa [kidOk] using hk1
          have hn1 := hch 1 x1 t1 rfl rfl
          obtain ⟨T1, p1, rfl⟩ := hn1.iface
          obtain ⟨hw2, hk2⟩ := hkids 2 t2 rfl
          have hk2' : exprK t2.kind = true := by simpa [kidOk] using hk2
          have hn2 := hch 2 x2 t2 rfl rfl
          obtain ⟨T2, p2, rfl⟩ := hn2.iface
          exact sh12 hO hk0' (hS _ _ hw0 hk0') hk1' (hS _ _ hw1 hk1') hk2' (hS _ _ hw2 hk2') w v l hown hb hn0 hn1 hn2 hlen
      case funN x0 =>
        match ps, hvl with
        | [t0], _ =>
          obtain ⟨hw0, hk0⟩ := hkids 0 t0 rfl
          have hk0' : exprK t0.kind = true := by simpa [kidOk] using hk0
          have hn0 := hch 0 x0 t0 rfl rfl
          obtain ⟨T0, p0, rfl⟩ := hn0.iface
          exact sh13 hO hk0' (hS _ _ hw0 hk0') w v l hown hb hn0 hlen
      case get1 x0 =>
        match ps, hvl with
        | [t0], _ =>
          obtain ⟨hw0, hk0⟩ := hkids 0 t0 rfl
          have hk0' : exprK t0.kind = true := by simpa [kidOk] using hk0
          have hn0 := hch 0 x0 t0 rfl rfl
          obtain ⟨T0, p0, rfl⟩ := hn0.iface
          exact sh16_1 hO hk0' (hS _ _ hw0 hk0') w v l hown hb hn0 hlen
      case get2 x0 x1 =>
        match ps, hvl with
        | [t0, t1], _ =>
          obtain ⟨hw0, hk0⟩ := hkids 0 t0 rfl
          have hk0' : exprK t0.kind = true := by simpa [kidOk] using hk0
          have hn0 := hch 0 x0 t0 rfl rfl
          obtain ⟨T0, p0, rfl⟩ := hn0.iface
          obtain ⟨hw1, hk1⟩ := hkids 1 t1 rfl
          have hk1' : exprK t1.kind = true := by simpa [kidOk] using hk1
          have hn1 := hch 1 x1 t1 rfl rfl
          obtain ⟨T1, p1, rfl⟩ := hn1.iface
          exact sh16_2 hO hk0' (hS _ _ hw0 hk0') hk1' (hS _ _ hw1 hk1') w v l hown hb hn0 hn1 hlen
      case hasN x0 =>
        match ps, hvl with
        | [t0], _ =>
          obtain ⟨hw0, hk0⟩ := hkids 0 t0 rfl
          have hk0' : exprK t0.kind = true := by simpa [kidOk] using hk0
          have hn0 := hch 0 x0 t0 rfl rfl
          obtain ⟨T0, p0, rfl⟩ := hn0.iface
          exact sh17 hO hk0' (hS _ _ hw0 hk0') w v l hown hb hn0 hlen
      case binN x0 x1 =>
        match ps, hvl with
        | [t0, t1], _ =>
          obtain ⟨hw0, hk0⟩ := hkids 0 t0 rfl
          have hk0' : exprK t0.kind = true := by simpa [kidOk] using hk0
          have hn0 := hch 0 x0 t0 rfl rfl
          obtain ⟨T0, p0, rfl⟩ := hn0.iface
          obtain ⟨hw1, hk1⟩ := hkids 1 t1 rfl
          have hk1' : exprK t1.kind = true := by simpa [kidOk] using hk1
          have hn1 := hch 1 x1 t1 rfl rfl
          obtain ⟨T1, p1, rfl⟩ := hn1.iface
          exact sh18 hO hk0' (hS _ _ hw0 hk0') hk1' (hS _ _ hw1 hk1') w v l hown hb hn0 hn1 hlen
      case negN x0 =>
        match ps, hvl with
        | [t0], _ =>
          obtain ⟨hw0, hk0⟩ := hkids 0 t0 rfl
          have hk0' : exprK t0.kind = true := by simpa [kidOk] using hk0
          have hn0 := hch 0 x0 t0 rfl rfl
          obtain ⟨T0, p0, rfl⟩ := hn0.iface
          exact sh19 hO hk0' (hS _ _ hw0 hk0') w v l hown hb hn0 hlen
      case notN x0 =>
        match ps, hvl with
        | [t0], _ =>
          obtain ⟨hw0, hk0⟩ := hkids 0 t0 rfl
          have hk0' : exprK t0.kind = true := by simpa [kidOk] using hk0
          have hn0 := hch 0 x0 t0 rfl rfl
          obtain ⟨T0, p0, rfl⟩ := hn0.iface
          exact sh20 hO hk0' (hS _ _ hw0 hk0') w v l hown hb hn0 hlen

end Go.Proofs.YtlnagmdoepldmaaDoor.ex