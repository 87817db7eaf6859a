import Derived.Test.YthklplfpnciodaaGreatDoorXN
import Derived.Test.YthklplfpnciodaaGreatDoorXE
import Derived.Test.YthklplfpnciodaaGreatDoorC
import Derived.LaidLaws
import Derived.ChangeArms
import Derived.ChangeSame
import Derived.Deep.Slices
namespace Go.Proofs.YthklplfpnciodaaGreatDoor.ex
open Go.ChangeShapes Go.WideShapes Go.ChangeAt Go.RowKit Go.Deep
set_option linter.unusedVariables false
set_option linter.unusedSimpArgs false

theorem cells2 : Tryz.prog.cellsOf 2 = 1 := by kernel_rfl
theorem cells3 : Tryz.prog.cellsOf 3 = 1 := by kernel_rfl
theorem cells9 : Tryz.prog.cellsOf 9 = 1 := by kernel_rfl
theorem cellsL : Tryz.prog.cellsOf 35 = 4 := by kernel_rfl
theorem cellsSh : Tryz.prog.cellsOf 94 = 5 := by kernel_rfl
theorem cellsShs : Tryz.prog.cellsOf 95 = 21 * 5 := by kernel_rfl
theorem cellsBt : Tryz.prog.cellsOf 163 = 2 := by kernel_rfl
theorem cellsBts : Tryz.prog.cellsOf 164 = 15 * 2 := by kernel_rfl

/-! ### A list of nodes that came in -/

set_option maxRecDepth 100000 in
theorem node_cells {H : Type} {enc : TypeId × Value → H} {w : World} {base : Nat} {sp : Nat → Bool} {held : Bool} {fuel : Nat} {cs : List Value} {x : DataW H × List MemPlace}
    (h : DataW.trod enc Tryz.prog w base sp held fuel 35 cs = some x) : ∃ e : Ex, cs = [.int .i64 e.kind, .string e.text, .int .i64 e.n, .int .i64 e.size] ∧ e.text.size ≤ maxLen := by
  obtain ⟨xs, n, _, rfl, hl, hlen, hf⟩ := DataW.trod_struct Tryz.underlying35 h
  rw [cellsL] at hl
  match xs, hlen, cs, hl with
  | [y0, y1, y2, y3], _, [c0, c1, c2, c3], _ =>
    have g0 := hf 0 _ rfl
    have g1 := hf 1 _ rfl
    have g2 := hf 2 _ rfl
    have g3 := hf 3 _ rfl
    simp [cells2, cells9] at g0 g1 g2 g3
    obtain ⟨z0, e0, _, _⟩ := DataW.trod_int Tryz.underlying2 g0
    obtain ⟨z1, e1, _, hz⟩ := DataW.trod_string Tryz.underlying9 g1
    obtain ⟨z2, e2, _, _⟩ := DataW.trod_int Tryz.underlying2 g2
    obtain ⟨z3, e3, _, _⟩ := DataW.trod_int Tryz.underlying2 g3
    simp at e0 e1 e2 e3
    subst e0 e1 e2 e3
    exact ⟨⟨z0, z1, z2, z3⟩, rfl, hz⟩

instance : Inhabited Ex := ⟨⟨0, ⟨#[]⟩, 0, 0⟩⟩

theorem open_exprs {H : Type} {enc : TypeId × Value → H} {w : World} {base : Nat} {sp : Nat → Bool} {held : Bool} {fuel : Nat} {a : Option Addr} {len cap : Nat} {x : DataW H × List MemPlace}
    (h : DataW.trod enc Tryz.prog w base sp held fuel 22 [.slice a len cap] = some x) : ∃ E : Nat → Ex, SrcB w a len E ∧ len ≤ maxLen ∧ ∀ i, i < len → (E i).text.size ≤ maxLen := by
  rcases open_slice Tryz.underlying22 h with ⟨h0, _⟩ | ⟨a', len', cap', m, n, D, Pl, hcs, hb, hl, hm, hmm, _, hx⟩
  · simp at h0
    obtain ⟨rfl, rfl, rfl⟩ := h0
    exact ⟨fun _ => ⟨0, ⟨#[]⟩, 0, 0⟩, .inl rfl, Nat.zero_le _, fun i hi => by omega⟩
  · simp at hcs
    obtain ⟨rfl, rfl, rfl⟩ := hcs
    have hlm : len ≤ m := by rw [hmm]; split <;> omega
    have each : ∀ i, i < len → ∃ e : Ex, (w.cell? (a'.add (i * 4)) = some (.int .i64 e.kind) ∧ w.cell? (a'.add (i * 4 + 1)) = some (.string e.text) ∧ w.cell? (a'.add (i * 4 + 2)) = some (.int .i64 e.n) ∧ w.cell? (a'.add (i * 4 + 3)) = some (.int .i64 e.size)) ∧ e.text.size ≤ maxLen := by
      intro i hi
      obtain ⟨cs', h1, h2⟩ := hx i (by omega)
      rw [cellsL] at h1
      obtain ⟨_, hlen, hcell⟩ := World.cells?_some h1
      obtain ⟨e, rfl, ht⟩ := node_cells h2
      have e0 := hcell 0 (by omega)
      have e1 := hcell 1 (by omega)
      have e2 := hcell 2 (by omega)
      have e3 := hcell 3 (by omega)
      rw [add_add] at e0 e1 e2 e3
      exact ⟨e, ⟨by simpa using e0, by simpa using e1, by simpa using e2, by simpa using e3⟩, ht⟩
    obtain ⟨q, hq⟩ := choose_lt each
    refine ⟨q, ?_, by omega, fun i hi => (hq i hi).2⟩
    rcases Nat.eq_zero_or_pos len with h0 | h0
    · exact .inl h0
    · obtain ⟨bb, off, spot⟩ := a'
      have hspot : spot = none := by simpa [Addr.add] using World.cell?_spot (hq 0 h0).1.1
      subst hspot
      refine .inr ⟨bb, off, rfl, fun i hi => ?_⟩
      obtain ⟨⟨k0, k1, k2, k3⟩, _⟩ := hq i hi
      rw [addr_add] at k0 k1 k2 k3
      exact ⟨k0, k1, k2, k3⟩

/-! ### The tables -/

theorem chunks {α : Type} (m : Nat) : ∀ (l : List (List α)) (cs : List α), cs.length = l.length * m → (∀ i (h : i < l.length), (cs.drop (i * m)).take m = l[i]) → cs = l.flatten
  | [], cs, hl, _ => by simpa using hl
  | x :: r, cs, hl, h => by
    have h0 := h 0 (by simp)
    simp at h0
    have hlm : m ≤ cs.length := by rw [hl, List.length_cons, Nat.add_mul]; omega
    have ih := chunks m r (cs.drop m) (by rw [List.length_drop, hl, List.length_cons, Nat.add_mul]; omega) (fun i hi => by
      have := h (i + 1) (by simpa using hi)
      rw [Nat.add_mul, Nat.one_mul] at this
      rw [List.drop_drop, Nat.add_comm m]
      simpa using this)
    rw [List.flatten_cons, ← ih, ← h0, List.take_append_drop]

theorem rows_cells {H : Type} {enc : TypeId × Value → H} {P : Program} {w : World} {base : Nat} {sp : Nat → Bool} {held : Bool} {fuel : Nat} {cs : List Value} {p : List MemPlace} {n m : Nat} {t e : TypeId}
    (ht : P.underlying t = some (.array n e)) (hc : P.cellsOf e = m) (hn : P.cellsOf t = n * m) {l : List (List Value × DataW H)}
    (hel : ∀ q ∈ l, ∀ (fuel : Nat) (cs : List Value) (x : DataW H × List MemPlace), DataW.trod enc P w base sp held fuel e cs = some x → x.1 = q.2 → cs = q.1)
    (h : DataW.trod enc P w base sp held fuel t cs = some (.agg (l.map (·.2)), p)) : cs = (l.map (·.1)).flatten := by
  obtain ⟨xs, k, rfl, hx, hl, hxl, hi⟩ := DataW.trod_array ht h
  have hx1 : l.map (·.2) = xs.map (·.1) := by
    have := congrArg Prod.fst hx
    simpa using this
  have hll : l.length = n := by
    have := congrArg List.length hx1
    simp at this
    omega
  refine chunks m _ cs (by rw [hl, hn, List.length_map, hll]) (fun i h1 => ?_)
  have hil : i < l.length := by simpa using h1
  have g := hi i (by omega)
  rw [hc, List.getElem?_eq_getElem (by omega)] at g
  have e3 : (l.map (·.2))[i]? = (xs.map (·.1))[i]? := by rw [hx1]
  rw [List.getElem?_map, List.getElem?_map, List.getElem?_eq_getElem hil, List.getElem?_eq_getElem (by omega)] at e3
  simp only [Option.map_some, Option.some.injEq] at e3
  rw [List.getElem_map]
  exact hel _ (List.getElem_mem hil) _ _ _ g e3.symm

def SHL : List (List Int) := [[0, 0, 0, 0, 0], [0, 0, 0, 0, 9007199254740992], [0, 0, 0, 1, 0], [0, 0, 0, 2, 0], [0, 0, 3000, 0, 0], [6, 0, 0, 0, 1], [0, 1, 1, 2, 0], [0, 0, 0, 2, 0], [6, 1, 1, 0, 0], [0, 2, 2, 0, 0], [0, 2, 2, 0, 0], [0, 2, 2, 0, 0], [0, 3, 3, 0, 0], [0, 1, 1, 2, 0], [15, 1, 1, 0, 1], [0, 0, 1, 2, 0], [0, 1, 2, 2, 0], [0, 1, 1, 2, 0], [0, 2, 2, 3, 0], [0, 1, 1, 0, 0], [0, 1, 1, 0, 0]]
def BTL : List (List UInt8 × Int) := [([45, 62], 2), ([124, 124], 3), ([38, 38], 4), ([61, 61], 5), ([33, 61], 5), ([60], 6), ([60, 61], 6), ([62], 6), ([62, 61], 6), ([47, 47], 7), ([43], 9), ([45], 9), ([42], 10), ([47], 10), ([43, 43], 11)]

set_option maxRecDepth 100000 in
theorem shape_cells {H : Type} {enc : TypeId × Value → H} {w : World} {base : Nat} {sp : Nat → Bool} {held : Bool} {fuel : Nat} {cs : List Value} {x : DataW H × List MemPlace} {a b c d e : Int}
    (h : DataW.trod enc Tryz.prog w base sp held fuel 94 cs = some x) (hx : x.1 = .agg [.lit (.int .i64 a), .lit (.int .i64 b), .lit (.int .i64 c), .lit (.int .i64 d), .lit (.int .i64 e)]) : cs = [.int .i64 a, .int .i64 b, .int .i64 c, .int .i64 d, .int .i64 e] := by
  obtain ⟨xs, n, _, rfl, hl, hlen, hf⟩ := DataW.trod_struct Tryz.underlying94 h
  rw [cellsSh] at hl
  match xs, hlen, cs, hl with
  | [y0, y1, y2, y3, y4], _, [c0, c1, c2, c3, c4], _ =>
    have g0 := hf 0 _ rfl
    have g1 := hf 1 _ rfl
    have g2 := hf 2 _ rfl
    have g3 := hf 3 _ rfl
    have g4 := hf 4 _ rfl
    simp [cells2, cells3] at g0 g1 g2 g3 g4
    obtain ⟨z0, e0, rfl, _⟩ := DataW.trod_int Tryz.underlying2 g0
    obtain ⟨z1, e1, rfl, _⟩ := DataW.trod_int Tryz.underlying3 g1
    obtain ⟨z2, e2, rfl, _⟩ := DataW.trod_int Tryz.underlying3 g2
    obtain ⟨z3, e3, rfl, _⟩ := DataW.trod_int Tryz.underlying3 g3
    obtain ⟨z4, e4, rfl, _⟩ := DataW.trod_int Tryz.underlying2 g4
    simp at e0 e1 e2 e3 e4 hx
    obtain ⟨rfl, rfl, rfl, rfl, rfl⟩ := hx
    rw [e0, e1, e2, e3, e4]

set_option maxRecDepth 100000 in
theorem bet_cells {H : Type} {enc : TypeId × Value → H} {w : World} {base : Nat} {sp : Nat → Bool} {held : Bool} {fuel : Nat} {cs : List Value} {x : DataW H × List MemPlace} {a : List UInt8} {b : Int}
    (h : DataW.trod enc Tryz.prog w base sp held fuel 163 cs = some x) (hx : x.1 = .agg [.lit (.string a), .lit (.int .i64 b)]) : cs = [.string ⟨a.toArray⟩, .int .i64 b] := by
  obtain ⟨xs, n, _, rfl, hl, hlen, hf⟩ := DataW.trod_struct Tryz.underlying163 h
  rw [cellsBt] at hl
  match xs, hlen, cs, hl with
  | [y0, y1], _, [c0, c1], _ =>
    have g0 := hf 0 _ rfl
    have g1 := hf 1 _ rfl
    simp [cells9, cells3] at g0 g1
    obtain ⟨z0, e0, rfl, _⟩ := DataW.trod_string Tryz.underlying9 g0
    obtain ⟨z1, e1, rfl, _⟩ := DataW.trod_int Tryz.underlying3 g1
    simp at e0 e1 hx
    obtain ⟨rfl, rfl⟩ := hx
    rw [e0, e1]

def shD {H : Type} (r : List Int) : DataW H := .agg (r.map fun i => .lit (.int .i64 i))
def shC (r : List Int) : List Value := r.map fun i => .int .i64 i
def btD {H : Type} (r : List UInt8 × Int) : DataW H := .agg [.lit (.string r.1), .lit (.int .i64 r.2)]
def btC (r : List UInt8 × Int) : List Value := [.string ⟨r.1.toArray⟩, .int .i64 r.2]

theorem laid_head {P : Program} {W : World} {nm : String} {g : Nat} {t : TypeId} {d : DataW Unit} {rest : List (String × DataW Unit)} {ps : List MemPlace} (hg : P.globalNamed nm = some g) (ht : (P.globals[g]?).map (·.type) = some t)
    (h : DataW.LaidVars P W ((nm, d) :: rest) ps) : (∃ (cs : Array Value) (fuel : Nat) (p : List MemPlace) (t' : TypeId) (fr : Nat × Nat), W.heap[g]? = some (.cells cs t' fr) ∧ DataW.trod (fun _ => ()) P W 0 (fun _ => true) false fuel t cs.toList = some (d, p)) ∧ ∃ q, DataW.LaidVars P W rest q := by
  obtain ⟨g', t', cs, fuel, p, q, hg', ht', hvar, hd, hr, _⟩ := h
  obtain rfl := Option.some.inj (hg.symm.trans hg')
  obtain rfl := Option.some.inj (ht.symm.trans ht')
  refine ⟨?_, q, hr⟩
  unfold World.var? at hvar
  rw [hg] at hvar
  simp only [Option.bind_some] at hvar
  split at hvar
  · rename_i c t fr hb
    rw [Option.some.injEq] at hvar
    subst hvar
    exact ⟨_, fuel, p, _, _, hb, hd⟩
  · cases hvar

theorem gShp : Tryz.prog.globalNamed "loop.example/g00023/impl.shapes" = some 0 := by kernel_rfl
theorem gShpType : (Tryz.prog.globals[0]?).map (·.type) = some 95 := by kernel_rfl
theorem gBet : Tryz.prog.globalNamed "loop.example/g00023/impl.signsBetween" = some 1 := by kernel_rfl
theorem gBetType : (Tryz.prog.globals[1]?).map (·.type) = some 164 := by kernel_rfl

theorem shl_len : ∀ r ∈ SHL, r.length = 5 := by decide

theorem shp_of {W : World} {ps : List MemPlace} {rest : List (String × DataW Unit)}
    (h : DataW.LaidVars Tryz.prog W (("loop.example/g00023/impl.shapes", .agg (SHL.map shD)) :: rest) ps) : ShpB W ∧ ∃ q, DataW.LaidVars Tryz.prog W rest q := by
  obtain ⟨⟨cs, fuel, p, t', fr, hb, hd⟩, hr⟩ := laid_head gShp gShpType h
  refine ⟨?_, hr⟩
  have e : (SHL.map shD : List (DataW Unit)) = (SHL.map fun r => (shC r, (shD r : DataW Unit))).map (·.2) := by simp
  rw [e] at hd
  have hc := rows_cells Tryz.underlying95 cellsSh cellsShs (fun q hq fuel cs x hx hx1 => ?_) hd
  · have hcs : cs = SHP := Array.toList_inj.1 (hc.trans rfl)
    rw [hcs] at hb
    exact ⟨t', fr, hb⟩
  · obtain ⟨r, hr', rfl⟩ := List.mem_map.1 hq
    have h5 := shl_len r hr'
    match r, h5 with
    | [a, b, c, d, e], _ => exact shape_cells hx hx1

theorem bet_of {W : World} {ps : List MemPlace} {rest : List (String × DataW Unit)}
    (h : DataW.LaidVars Tryz.prog W (("loop.example/g00023/impl.signsBetween", .agg (BTL.map btD)) :: rest) ps) : BetB W ∧ ∃ q, DataW.LaidVars Tryz.prog W rest q := by
  obtain ⟨⟨cs, fuel, p, t', fr, hb, hd⟩, hr⟩ := laid_head gBet gBetType h
  refine ⟨?_, hr⟩
  have e : (BTL.map btD : List (DataW Unit)) = (BTL.map fun r => (btC r, (btD r : DataW Unit))).map (·.2) := by simp
  rw [e] at hd
  have hc := rows_cells Tryz.underlying164 cellsBt cellsBts (fun q hq fuel cs x hx hx1 => ?_) hd
  · have hcs : cs = BET := Array.toList_inj.1 (hc.trans rfl)
    rw [hcs] at hb
    exact ⟨t', fr, hb⟩
  · obtain ⟨r, hr', rfl⟩ := List.mem_map.1 hq
    exact bet_cells hx hx1

end Go.Proofs.YthklplfpnciodaaGreatDoor.ex
