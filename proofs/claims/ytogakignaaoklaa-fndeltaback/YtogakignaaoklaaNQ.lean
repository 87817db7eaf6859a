import Derived.Test.YtogakignaaoklaaNM
import Derived.Deep.RegionHeld3
import Derived.Deep.MidRow
import Derived.Laws.Cover3
namespace Go.Proofs.Ytogakignaaoklaa.dl
open Go.ChangeShapes Go.WideShapes Go.ChangeAt Go.RowKit Go.Deep
open Go.MapKept Go.ChangeMaps
open bf (Bf Ap num)
set_option linter.unusedVariables false
set_option linter.unusedSimpArgs false

/-! ### impl.placesOf -/

theorem infoI : (Try.prog.info? 3).map (fun i => (i.zero, i.size, i.bytes)) = some (some (.int .i64 0), 1, 8) := by kernel_rfl

/-- An append of one place to a key's row. -/
theorem app_int (w : World) {ops : Array Oper} {rest : List Oper} {o : Oper} {a : Act} {Q : Exit → Act → World → Prop} (hgd : o.guard = none) (s x : Operand)
    (ho : o.op = .call { callee := .builtin .append, args := #[s, x], argTypes := #[72, 72] })
    (base mb : Nat) (v0 : Value) (l : List Nat) (y : Nat) (hs : a.eval s = v0) (hrow : RowN base w mb v0 l) (ad : Addr) (hx : a.eval x = .slice (some ad) 1 1) (hy : w.cell? ad = some (.int .i64 (y : Int))) (hlen : l.length ≤ 1000000) (hbase : base ≤ w.heap.size)
    (h : ∀ g' cap' w', IR base w' g' cap' (l ++ [y]) → w.grownBy w' v0.ownBlock → (v0.ownBlock = some g' ∨ w.heap.size ≤ g') → wpList Try.prog ops Q rest (a.put o.dst (.slice (some ⟨g', 0, none⟩) (l.length + 1) cap')) w') : wpList Try.prog ops Q (o :: rest) a w := by
  obtain ⟨i, hi, hzz⟩ := Option.map_eq_some_iff.1 infoI
  simp only [Prod.mk.injEq] at hzz
  obtain ⟨hz, hsi, hb⟩ := hzz
  have hnew : ∀ j u, [iv y][j]? = some u → w.cell? (ad.add j) = some u := fun j u hj => by
    match j with
    | 0 => simp at hj; subst hj; simpa [Addr.add, iv] using hy
    | j + 1 => simp at hj
  have h1c : ∀ u ∈ [iv y], u.oneCell' = true := by intro u hu; simp only [List.mem_singleton] at hu; subst hu; rfl
  have hmap : (l ++ [y]).map iv = l.map iv ++ [iv y] := by simp
  have hl1 : (l ++ [y]).length = l.length + 1 := by simp
  rcases hrow with ⟨rfl, rfl⟩ | ⟨g, cap, rfl, hir, hgm⟩
  · refine wpList_append_grows w hgd s x 72 ho 3 i _ 1 8 Try.underlying72 hi hz hsi hb rfl (by decide) none 0 0 [] hs (fun _ => ⟨rfl, rfl⟩) rfl (fun b e => by cases e) ad 1 1 [iv y] hx rfl hnew h1c (by omega) (by unfold maxLen; omega) (by omega) ?_
    intro v' w' r1 r2
    obtain ⟨e0, r1'⟩ := r1
    rcases r1' with ⟨e, hn⟩ | ⟨g', cap', cur, rfl, q1, q2, q3⟩
    · omega
    · exact h g' cap' w' ⟨by simp, .inr ⟨g', cap', cur, by simp, Nat.le_trans hbase q1, q2, by simpa using q3⟩⟩ r2 (.inr q1)
  · by_cases hr : l.length + 1 ≤ cap
    · refine wpList_append_own_spare w hgd s x 72 ho base 3 i 1 Try.underlying72 hi hsi g l.length cap (l.map iv) hs hir ad 1 1 [iv y] hx rfl hnew h1c hr ?_
      intro w' r1 r2
      refine h g cap w' ?_ r2 (.inl rfl)
      unfold IR
      rw [hmap, hl1]
      exact r1
    · refine wpList_append_grows w hgd s x 72 ho 3 i _ 1 8 Try.underlying72 hi hz hsi hb rfl (by decide) (some ⟨g, 0, none⟩) l.length cap (l.map iv) hs (fun e => by cases e) (by simp) (fun b e j u hj => ?_) ad 1 1 [iv y] hx rfl hnew h1c (by omega) (by unfold maxLen; omega) (by omega) ?_
      · cases e
        exact World.ownsRow.cells (w := w) (base := base) (e := 3) (size := 1) (n := l.length) (xs := l.map iv) hir (g := g) rfl j u hj
      · intro v' w' r1 r2
        have r2' : w.grownBy w' (some g) := ⟨r2.os, r2.tape, r2.output, r2.size, fun k hk _ => r2.block k hk (by simp)⟩
        obtain ⟨e0, r1'⟩ := r1
        rcases r1' with ⟨e, hn⟩ | ⟨g', cap', cur, rfl, q1, q2, q3⟩
        · omega
        · refine h g' cap' w' ?_ r2' (.inr q1)
          unfold IR
          rw [hmap, hl1]
          exact ⟨e0, .inr ⟨g', cap', cur, rfl, Nat.le_trans hbase q1, q2, q3⟩⟩

/-- The places ahead of k from which on these six bytes stand. -/
def plc (old : List UInt8) : Nat → List UInt8 → List Nat
  | 0, _ => []
  | k + 1, kk => if kk = (old.drop k).take 6 then plc old k kk ++ [k] else plc old k kk
theorem plc_len (old : List UInt8) (kk : List UInt8) : ∀ k, (plc old k kk).length ≤ k
  | 0 => Nat.le_refl _
  | k + 1 => by have := plc_len old kk k; unfold plc; split <;> simp <;> omega
theorem plc_step (old : List UInt8) (k : Nat) : fadd (plc old k) ((old.drop k).take 6) k = plc old (k + 1) := by
  funext kk
  unfold fadd
  rw [plc]

theorem make_map (w : World) : (Instr.makeMap mT none).run Try.prog w = .ok (.map (some w.heap.size)) (w.alloc (.map #[] 0)) := by
  simp [Instr.makeMap, go_sem]

theorem six_at {old : List UInt8} {k : Nat} (h : k + 6 ≤ old.length) : ∃ b0 b1 b2 b3 b4 b5, (old.drop k).take 6 = [b0, b1, b2, b3, b4, b5] ∧ ∀ {w : World} {ob : Nat}, By w ob old → w.cell? ⟨ob, k, none⟩ = some (.int .u8 (b0.toNat : Int)) ∧ w.cell? ⟨ob, k + 1, none⟩ = some (.int .u8 (b1.toNat : Int)) ∧ w.cell? ⟨ob, k + 2, none⟩ = some (.int .u8 (b2.toNat : Int)) ∧ w.cell? ⟨ob, k + 3, none⟩ = some (.int .u8 (b3.toNat : Int)) ∧ w.cell? ⟨ob, k + 4, none⟩ = some (.int .u8 (b4.toNat : Int)) ∧ w.cell? ⟨ob, k + 5, none⟩ = some (.int .u8 (b5.toNat : Int)) := by
  refine ⟨old[k], old[k + 1], old[k + 2], old[k + 3], old[k + 4], old[k + 5], ?_, fun hB => ⟨hB k (by omega), hB (k + 1) (by omega), hB (k + 2) (by omega), hB (k + 3) (by omega), hB (k + 4) (by omega), hB (k + 5) (by omega)⟩⟩
  rw [List.drop_eq_getElem_cons (by omega), List.drop_eq_getElem_cons (by omega), List.drop_eq_getElem_cons (by omega), List.drop_eq_getElem_cons (by omega), List.drop_eq_getElem_cons (by omega), List.drop_eq_getElem_cons (by omega)]
  rfl

theorem Pl.start (w : World) (old : List UInt8) : Pl w.heap.size (w.alloc (.map #[] 0)) w.heap.size (plc old 0) #[] 0 :=
  ⟨heap_alloc_new w _, stamped_empty 0, fun x hx => by simp at hx, fun kk _ h => absurd rfl h, fun x y hx => by simp at hx⟩

def PlR (w w' : World) (old : List UInt8) (on : Nat) (e : Ending) : Prop := ∃ mb es clock, e = .returned (.map (some mb)) ∧ w.heap.size ≤ mb ∧ Pl w.heap.size w' mb (plc old (on + 1 - 6)) es clock ∧ Below w.heap.size w w'

set_option maxRecDepth 100000 in
set_option maxHeartbeats 4000000 in
theorem places_any {oc : Nat} (ob on : Nat) (old : List UInt8) (hon : old.length = on) (hoc : on ≤ oc := by omega) (hol : on ≤ 1000000) (w : World) (hO : By w ob old) (hob : ob < w.heap.size) :
    Calls Try.prog 16 #[.slice (some ⟨ob, 0, none⟩) on oc] w fun e w' => PlR w w' old on e := by
  have hmk := make_map w
  have HO : Hid (∀ W, Below w.heap.size w W → By W ob old) := fun W hW => hO.below hob hW
  have HON : Hid (old.length = on) := hon
  have HST : Hid (Pl w.heap.size (w.alloc (.map #[] 0)) w.heap.size (plc old 0) #[] 0) := Pl.start w old
  have HB0 : Hid (Below w.heap.size w (w.alloc (.map #[] 0))) := (Below.refl _ _).alloc (Nat.le_refl _) _
  clear hO hon
  go_enter Try.func16, Try.ntmps16
  go_wp2
  clear hmk
  go_loopw [4, 5, 11] (fun _ _ x wr => ∃ k : Nat, k ≤ on + 1 - 6 ∧ x = .int .i64 (k : Int) ∧ (∃ es clock, Pl w.heap.size wr w.heap.size (plc old k) es clock) ∧ Below w.heap.size w wr) (fun _ _ x _ => on + 1 - 6 - (intOf x).toNat)
  case atStart => exact ⟨0, Nat.zero_le _, rfl, ⟨_, _, HST.out⟩, HB0.out⟩
  case round =>
    obtain ⟨k, hk, rfl, ⟨es, clock, hpl⟩, hbel⟩ := hrel
    have HPL : Hid (Pl w.heap.size wr w.heap.size (plc old k) es clock) := hpl
    have HBE : Hid (Below w.heap.size w wr) := hbel
    clear hpl hbel
    by_cases hkl : k < on + 1 - 6
    · have hkl' : (k : Int) < (on : Int) - 6 + 1 := by omega
      obtain ⟨b0, b1, b2, b3, b4, b5, hkk, hcells⟩ := six_at (old := old) (k := k) (by rw [HON.out]; omega)
      obtain ⟨c0, c1, c2, c3, c4, c5⟩ := hcells (HO.out _ HBE.out)
      clear hcells
      obtain ⟨W, hW⟩ : ∃ W : World, W = (wr.alloc (.cells #[.int .u8 (b0.toNat : Int), .int .u8 (b1.toNat : Int), .int .u8 (b2.toNat : Int), .int .u8 (b3.toNat : Int), .int .u8 (b4.toNat : Int), .int .u8 (b5.toNat : Int)] 71)).alloc (.cells #[.int .i64 (k : Int)] 3) := ⟨_, rfl⟩
      have hBW : Below wr.heap.size wr W := by rw [hW]; exact ((Below.refl _ _).alloc (Nat.le_refl _) _).alloc (by simp) _
      obtain ⟨v0, st, W1, hrun, hg1, hrow, hstore⟩ := (HPL.out.below hBW).step (k0 := [b0, b1, b2, b3, b4, b5]) rfl k
      have HW1 : Hid (Below w.heap.size w W1) := (HBE.out.trans (hBW.mono HBE.out.size)).grown hg1 (Nat.le_trans HBE.out.size hBW.size) (fun q hq => by cases hq; exact Nat.le_refl _)
      have hyc : W1.cell? ⟨wr.heap.size + 1, 0, none⟩ = some (.int .i64 (k : Int)) := by
        rw [World.cell?_of_block (a := ⟨wr.heap.size + 1, 0, none⟩) (hg1.block (wr.heap.size + 1) (by rw [hW]; simp) (fun e => by have := HPL.out.lt; have := Option.some.inj e; omega)), hW]
        simp [go_sem]
      have HRW : Hid (RowN w.heap.size W1 w.heap.size v0 (plc old k [b0, b1, b2, b3, b4, b5])) := hrow
      have HSTO : Hid (∀ w2 g' cap', IR w.heap.size w2 g' cap' (plc old k [b0, b1, b2, b3, b4, b5] ++ [k]) → W1.grownBy w2 v0.ownBlock → (v0.ownBlock = some g' ∨ W1.heap.size ≤ g') → ∃ W3 es' clock', (Instr.entryStore mT (.map (some w.heap.size)) (.int .i64 st) (.slice (some ⟨g', 0, none⟩) ((plc old k [b0, b1, b2, b3, b4, b5]).length + 1) cap')).run Try.prog w2 = .ok () W3 ∧ w2.grownBy W3 (some w.heap.size) ∧ Pl w.heap.size W3 w.heap.size (plc old (k + 1)) es' clock') := fun w2 g' cap' h1 h2 h3 => by
        have := hstore w2 g' cap' h1 h2 h3
        rw [← hkk, plc_step] at this
        rw [hkk] at this
        exact this
      have hpl := plc_len old [b0, b1, b2, b3, b4, b5] k
      have HPLN : Hid ((plc old k [b0, b1, b2, b3, b4, b5]).length ≤ 1000000) := by show _ ≤ _; omega
      have HMB : Hid (w.heap.size ≤ W1.heap.size) := HW1.out.size
      obtain ⟨L, hL⟩ : ∃ L, plc old k [b0, b1, b2, b3, b4, b5] = L := ⟨_, rfl⟩
      rw [hL] at HRW HSTO HPLN
      have hrun' : (Instr.mapEntry mT (.map (some w.heap.size)) (.agg #[.int .u8 (b0.toNat : Int), .int .u8 (b1.toNat : Int), .int .u8 (b2.toNat : Int), .int .u8 (b3.toNat : Int), .int .u8 (b4.toNat : Int), .int .u8 (b5.toNat : Int)])).run Try.prog W = .ok (.tuple #[v0, .int .i64 st]) W1 := hrun
      rw [hW] at hrun'
      clear hW hBW hrun hg1 hrow hstore hkk hL hpl HPL
      have harr : ∀ X : World, (Instr.arrayAt 71 (.slice (some ⟨ob, k, none⟩) (on - k) (oc - k))).run Try.prog X = .ok (.pointer (some ⟨ob, k, none⟩)) X := fun X => run_arrayAt X 71 5 6 _ _ _ Try.underlying71 (by omega)
      go_wp2_with (first
        | (at_builtin; refine app_int _ rfl _ _ rfl w.heap.size w.heap.size v0 L k rfl HRW.out ⟨wr.heap.size + 1, 0, none⟩ rfl hyc HPLN.out HMB.out ?_; intro g2 cc2 w2 hir2 hgr2 hh2; obtain ⟨W3, es3, clock3, hst3, hg3, hpl3⟩ := HSTO.out w2 g2 cc2 hir2 hgr2 hh2; refine Hid.out ?_)
        | go_in)
      refine Lib.hid ?_
      have HP3 : Hid (Pl w.heap.size W3 w.heap.size (plc old (k + 1)) es3 clock3) := hpl3
      have HB3 : Hid (Below w.heap.size w W3) := by
        have hb2 : Below w.heap.size w w2 := HW1.out.grown hgr2 HMB.out (fun q hq => by
          rcases HRW.out with ⟨e, _⟩ | ⟨g, cap, e, hir, _⟩
          · rw [e] at hq; cases hq
          · rw [e] at hq; cases hq; exact hir.new)
        exact hb2.grown hg3 hb2.size (fun q hq => by cases hq; exact Nat.le_refl _)
      clear hpl3 hg3 hir2 hgr2 hh2 hrun' hyc harr c0 c1 c2 c3 c4 c5
      go_wp2
      go_roundw
      case rel => exact ⟨k + 1, by omega, by go_num, ⟨_, _, HP3.out⟩, HB3.out⟩
      case measure => simp [intOf]; omega
    · have hkl' : ¬ (k : Int) < (on : Int) - 6 + 1 := by omega
      obtain rfl : k = on + 1 - 6 := by omega
      go_wp2
      go_ret
      exact ⟨_, _, _, rfl, Nat.le_refl _, HPL.out, HBE.out⟩

end Go.Proofs.Ytogakignaaoklaa.dl
