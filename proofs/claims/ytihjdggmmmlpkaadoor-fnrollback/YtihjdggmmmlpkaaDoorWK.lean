import Derived.Test.YtihjdggmmmlpkaaDoorRows
import Derived.Test.YtihjdggmmmlpkaaDoorL
import Derived.Lib.ConvBytes
import Derived.ArgAppend
namespace Go.Proofs.YtihjdggmmmlpkaaDoor
open Go.ChangeShapes Go.WideShapes Go.ChangeAt Go.RowKit Go.Deep
set_option linter.unusedVariables false

/-- What '[]byte(S)' leaves: a new row of S's bytes, with room behind it that can be written. -/
structure ConvRow (w W1 : World) (cap : Nat) (S : ByteArray) : Prop where
  below : Below w.heap.size w W1
  size : W1.heap.size = w.heap.size + 1
  cells : ∀ j (h : j < S.size), W1.cell? ⟨w.heap.size, j, none⟩ = some (.int .u8 (S[j].toNat : Int))
  spare : ∀ j, j < cap → (W1.cell? ⟨w.heap.size, j, none⟩).isSome = true ∧ W1.frozen? ⟨w.heap.size, j, none⟩ = false
  le : S.size ≤ cap
  max : cap ≤ maxLen

theorem conv_row {P : Program} (w : World) (src dst e : TypeId) (S : ByteArray) (hS : S.size ≤ 1099511627776) (hs : P.underlying src = some .string) (hd : P.underlying dst = some (.slice e)) (he : P.underlying e = some (.int .u8)) :
    ∃ z cap W1, (convert src dst (.string S)).run P w = .ok (.slice (some ⟨w.heap.size, 0, none⟩) z cap) W1 ∧ z = S.size ∧ ConvRow w W1 cap S := by
  refine ⟨_, _, _, Lib.run_convert_string_bytes w src dst e S hs hd he, rfl, ?_, Lib.bytesWorld_size _ _ _, ?_, ?_, ?_, ?_⟩
  · exact ⟨rfl, rfl, rfl, by rw [Lib.bytesWorld_size]; omega, fun k hk => Lib.bytesWorld_at_old w e S k hk⟩
  · intro j hj
    rw [Lib.bytesWorld_cell w e S j hj]
    have : S.data.toList.getD j 0 = S[j] := by
      rw [List.getD_eq_getElem?_getD, List.getElem?_eq_getElem (by simpa using hj)]; rfl
    rw [this]
  · intro j hj
    have hge := grownCap_ge w S.size 0 e
    have hz : (Lib.bytesCells w e S).size = grownCap w S.size 0 e := by
      simp [Lib.bytesCells]
      omega
    have hb := Lib.bytesWorld_at_new w e S
    refine ⟨?_, ?_⟩
    · simp only [World.cell?, hb]
      rw [Array.getElem?_eq_getElem (by omega)]
      rfl
    · simp only [World.frozen?, hb]
      simp
      omega
  · exact grownCap_ge w S.size 0 e
  · exact grownCap_le_maxLen w S.size 0 e (by unfold maxLen; omega)

theorem app_any {P : Program} (w : World) {ops : Array Oper} {rest : List Oper} {o : Oper} {a : Act} {Q : Exit → Act → World → Prop} (hgd : o.guard = none) (s x : Operand) (t : TypeId)
    (ho : o.op = .call { callee := .builtin .append, args := #[s, x], argTypes := #[t, t] }) (v xv : Value) (hs : a.eval s = v) (hx : a.eval x = xv) (v' : Value) (w' : World)
    (hr : ∀ ty, (Builtin.append_ #[t, t] ty #[v, xv]).run P w = .ok v' w') (h : wpList P ops Q rest (a.put o.dst v') w') : wpList P ops Q (o :: rest) a w :=
  wpList_plain hgd fun _ hK => by
    unfold Oper.wp execOp
    simp only [ho, resolve, invoke, builtin, Sem.run_bind, Sem.run_pure, Result.andThen_ok, List.map_toArray, List.map_cons, List.map_nil, hs, hx, hr]
    exact hK _ _ h

theorem below_setCells {B : Nat} {a : World} {b : Nat} (hb : B ≤ b) : ∀ (vs : List Value) (o : Nat) (w : World), Below B a w → Below B a (w.setCells b o vs)
  | [], _, _, h => h
  | v :: r, o, w, h => below_setCells hb r (o + 1) _ (h.setCell (p := ⟨b, o, none⟩) hb v)

/-- An append of bytes to a row that a conversion has made. -/
theorem conv_app {P : Program} {w W1 : World} {cap : Nat} {S : ByteArray} (hc : ConvRow w W1 cap S) (hS : S.size ≤ 1099511627776) (t e : TypeId) (ht : P.underlying t = some (.slice e))
    (hinfo : (P.info? e).map (fun i => (i.zero, i.size, i.bytes)) = some (some (.int .u8 0), 1, 1))
    (b m c : Nat) (l : List Int) (hm : m ≤ 1099511627776) (hbw : b < w.heap.size) (hl : ∀ i, i < m → w.cell? ⟨b, i, none⟩ = some (.int .u8 (l[i]?.getD 0))) :
    ∃ g' cap' W2, (∀ ty, (Builtin.append_ #[t, t] ty #[.slice (some ⟨w.heap.size, 0, none⟩) S.size cap, .slice (some ⟨b, 0, none⟩) m c]).run P W1 = .ok (.slice (some ⟨g', 0, none⟩) (S.size + m) cap') W2) ∧
      (∀ i (h : i < S.size), W2.cell? ⟨g', i, none⟩ = some (.int .u8 (S[i].toNat : Int))) ∧ (∀ i, i < m → W2.cell? ⟨g', S.size + i, none⟩ = some (.int .u8 (l[i]?.getD 0))) ∧ Below w.heap.size w W2 := by
  obtain ⟨i, hi, hzz⟩ := Option.map_eq_some_iff.1 hinfo
  simp only [Prod.mk.injEq] at hzz
  obtain ⟨hz, hsz, hby⟩ := hzz
  let news : List Value := (List.range m).map fun j => Value.int .u8 (l[j]?.getD 0)
  have hnl : news.length = m := by simp [news]
  have hn : ∀ j u, news[j]? = some u → W1.cell? ((⟨b, 0, none⟩ : Addr).add j) = some u := by
    intro j u hj
    have hjm : j < m := by have := (List.getElem?_eq_some_iff.1 hj).1; omega
    have : u = Value.int .u8 (l[j]?.getD 0) := by simpa [news, hjm] using hj.symm
    rw [addr_add, Nat.zero_add, hc.below.cell (p := ⟨b, j, none⟩) hbw, hl j hjm, this]
  have h1 : ∀ u ∈ news, u.oneCell' = true := by
    intro u hu
    obtain ⟨j, _, rfl⟩ := List.mem_map.1 hu
    rfl
  have hnat : ∀ j (hj : j < news.length), news[j] = Value.int .u8 (l[j]?.getD 0) := by intro j hj; simp [news]
  by_cases hroom : S.size + m ≤ cap
  · have hr := fun ty => run_append_room_cells (P := P) W1 t ty e i ht hi w.heap.size 0 S.size cap ⟨b, 0, none⟩ m c news (by rw [hsz]; omega) hn h1 hroom
      (fun j hj => (hc.spare _ (by rw [hsz]; omega)).1) (fun j hj => (hc.spare _ (by rw [hsz]; omega)).2)
    simp only [hsz, Nat.mul_one, Nat.zero_add] at hr
    refine ⟨_, _, _, hr, ?_, ?_, ?_⟩
    · intro j hj
      rw [World.cell?_setCells_out _ _ _ _ _ (fun _ _ => Or.inl hj)]
      exact hc.cells j hj
    · intro j hj
      rw [World.cell?_setCells_in _ _ _ _ (fun j hj => (hc.spare _ (by omega)).1) j (by omega), hnat]
    · exact below_setCells (Nat.le_refl _) _ _ _ hc.below
  · let olds : List Value := S.data.toList.map fun x => Value.int .u8 (x.toNat : Int)
    have holen : olds.length = S.size := by simp [olds]
    have hol : ∀ j (hj : j < S.size), olds[j]? = some (Value.int .u8 (S[j].toNat : Int)) := by
      intro j hj
      simp only [olds, List.getElem?_map]
      rw [List.getElem?_eq_getElem (by simpa using hj)]
      rfl
    have holds : ∀ j u, olds[j]? = some u → W1.cell? ((⟨w.heap.size, 0, none⟩ : Addr).add j) = some u := by
      intro j u hj
      have hj' : j < S.size := by have := (List.getElem?_eq_some_iff.1 hj).1; omega
      rw [addr_add, Nat.zero_add, hc.cells j hj', ← hj, hol j hj']
    have hr : ∀ ty, (Builtin.append_ #[t, t] ty #[.slice (some ⟨w.heap.size, 0, none⟩) S.size cap, .slice (some ⟨b, 0, none⟩) m c]).run P W1 = _ := fun ty =>
      run_append_grow (P := P) W1 t ty e i (.int .u8 0) ht hi hz ⟨w.heap.size, 0, none⟩ S.size cap olds (by rw [hsz]; omega) holds ⟨b, 0, none⟩ m c news (by rw [hsz]; omega) hn (by omega) (by omega)
        (growslice_fits (by omega) (by rw [hby]; omega))
    have hcell : ∀ j v, (olds ++ news)[j]? = some v → (W1.drew.alloc (.cells (olds.toArray ++ news.toArray ++ Builtin.zeroCells (Value.int .u8 0).cells (grownCap W1 (S.size + m) cap e - (S.size + m))) e)).cell? ⟨W1.heap.size, j, none⟩ = some v := by
      intro j v hj
      have e1 : (W1.drew.alloc (.cells (olds.toArray ++ news.toArray ++ Builtin.zeroCells (Value.int .u8 0).cells (grownCap W1 (S.size + m) cap e - (S.size + m))) e)).cell? ⟨W1.heap.size, j, none⟩ = _ := World.cell?_alloc_new W1.drew _ _ j
      have hjl : j < (olds ++ news).length := (List.getElem?_eq_some_iff.1 hj).1
      rw [e1, Array.getElem?_append_left (by simpa using hjl)]
      simpa using hj
    refine ⟨_, _, _, hr, ?_, ?_, ?_⟩
    · intro j hj
      exact hcell j _ (by rw [List.getElem?_append_left (by omega)]; exact hol j hj)
    · intro j hj
      refine hcell _ _ ?_
      rw [List.getElem?_append_right (by omega), holen, show S.size + j - S.size = j by omega, List.getElem?_eq_getElem (by omega), hnat]
    · exact (hc.below.drew).alloc (by have := hc.size; show _ ≤ W1.heap.size; omega) _

end Go.Proofs.YtihjdggmmmlpkaaDoor
