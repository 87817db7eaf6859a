import Derived.Test.YtbnmefponeomiaaDoorZ
import Derived.Test.YtbnmefponeomiaaDoorY
import Derived.Test.YtbnmefponeomiaaDoorC
namespace Go.Proofs.YtbnmefponeomiaaDoor.lx
open Go.ChangeShapes Go.WideShapes Go.ChangeAt Go.RowKit Go.Deep
set_option linter.unusedVariables false
set_option linter.unusedSimpArgs false

theorem strs_cells {H : Type} {enc : TypeId × Value → H} {P : Program} {w : World} {base : Nat} {sp : Nat → Bool} {held : Bool} {fuel : Nat} {cs : List Value} {p : List MemPlace} {n : Nat} {t e : TypeId}
    (ht : P.underlying t = some (.array n e)) (he : P.underlying e = some .string) (hc : P.cellsOf e = 1) (hn : P.cellsOf t = n) {l : List (List UInt8)}
    (h : DataW.trod enc P w base sp held fuel t cs = some (.agg (l.map fun s => .lit (.string s)), p)) : cs = l.map fun s => Value.string ⟨s.toArray⟩ := by
  obtain ⟨xs, m, rfl, hx, hl, hxl, hi⟩ := DataW.trod_array ht h
  rw [hn] at hl
  have hx1 : l.map (fun s => (DataW.lit (.string s) : DataW H)) = xs.map (·.1) := by
    have := congrArg Prod.fst hx
    simpa using this
  have hll : l.length = n := by
    have := congrArg List.length hx1
    simp at this
    omega
  apply List.ext_getElem
  · simp [hl, hll]
  · intro i h1 h2
    have hin : i < n := by omega
    have g := hi i hin
    rw [hc, Nat.mul_one, List.drop_eq_getElem_cons h1, List.take_succ_cons, List.take_zero, List.getElem?_eq_getElem (by omega)] at g
    obtain ⟨s, e1, e2, _⟩ := DataW.trod_string he g
    have e3 : (l.map (fun s => (DataW.lit (.string s) : DataW H)))[i]? = (xs.map (·.1))[i]? := by rw [hx1]
    rw [List.getElem?_map, List.getElem?_map, List.getElem?_eq_getElem (by omega), List.getElem?_eq_getElem (by omega), e2] at e3
    simp at e3 e1
    rw [e1, List.getElem_map, e3]

theorem gSig : Tryd.prog.globalNamed "loop.example/g00023/impl.signs" = some 2 := by kernel_rfl
theorem gSigType : (Tryd.prog.globals[2]?).map (·.type) = some 82 := by kernel_rfl
theorem cellsS : Tryd.prog.cellsOf 9 = 1 := by kernel_rfl
theorem cellsTS : Tryd.prog.cellsOf 82 = 29 := by kernel_rfl

def SL : List (List UInt8) := [[46, 46, 46], [45, 62], [47, 47], [43, 43], [38, 38], [124, 124], [61, 61], [33, 61], [60, 61], [62, 61], [123], [125], [91], [93], [40], [41], [59], [58], [44], [46], [63], [61], [60], [62], [43], [45], [42], [47], [33]]

theorem sig_of {W : World} {ps : List MemPlace} {rest : List (String × DataW Unit)}
    (h : DataW.LaidVars Tryd.prog W (("loop.example/g00023/impl.signs", .agg (SL.map fun s => .lit (.string s))) :: rest) ps) : SigB W ∧ ∃ q, DataW.LaidVars Tryd.prog W rest q := by
  obtain ⟨g', t', cs, fuel, p, q, hg', ht', hvar, hd, hr, _⟩ := h
  refine ⟨?_, q, hr⟩
  obtain rfl := Option.some.inj (gSig.symm.trans hg')
  obtain rfl := Option.some.inj (gSigType.symm.trans ht')
  have hcs : cs = SIGC := by
    have := strs_cells Tryd.underlying82 Tryd.underlying9 cellsS cellsTS hd
    exact Array.toList_inj.1 this
  subst hcs
  unfold World.var? at hvar
  rw [gSig] at hvar
  simp only [Option.bind_some] at hvar
  split at hvar
  · rename_i c t fr hb
    rw [Option.some.injEq] at hvar
    subst hvar
    exact ⟨t, fr, hb⟩
  · cases hvar

theorem Ls.below {w w' : World} {a : Option Addr} {l : List (Lx × Nat)} (h : Ls w a l) (hb : Below w.heap.size w w') : Ls w' a l := by
  rcases h with h | ⟨b, e, h⟩
  · exact .inl h
  · exact .inr ⟨b, e, fun i hi => (h i hi).below hb⟩

/-- What both have answered, in one form. -/
def Lexed (l : List (Lx × Nat)) (p : Int) (w : World) (e : Ending) (w' : World) : Prop :=
  ∃ a c, e = .returned (.tuple #[.slice a l.length c, .int .i64 p]) ∧ Ls w' a l ∧ (l.length = 0 ∨ ∃ b N f, a = some ⟨b, 0, none⟩ ∧ w.heap.size ≤ b ∧ l.length * 4 ≤ N ∧ w'.rowIs b 39 N f) ∧ Below w.heap.size w w'

theorem lexed (s : ByteArray) (hs : s.size ≤ 1048576) : ∃ (l : List (Lx × Nat)) (p : Int), l.length ≤ 20001 ∧ (∀ w, Calls Tryd.prog 21 #[.string s] w fun e w' => Lexed l p w e w') ∧
    (∀ w, es.EscB w → SigB w → 2 < w.heap.size ∧ 1 < w.heap.size → Calls Tryd.prog 19 #[.string s] w fun e w' => Lexed l p w e w') := by
  have key : ∀ (w : World) (e : Ending) (w' : World), LexIs s w e w' → Lexed (if 20000 < s.size then [] else (lexP s 0).1) (if 20000 < s.size then 0 else (lexP s 0).2) w e w' := by
    rintro w e w' ⟨v, rfl, ho, hb⟩
    obtain ⟨a, c, rfl, h1, h2⟩ := own_Ls ho
    refine ⟨a, c, rfl, h1, ?_, hb⟩
    rcases h2 with h2 | h2
    · exact .inl (by rw [h2]; rfl)
    · exact .inr h2
  refine ⟨_, _, ?_, fun w => (sLex_any s hs w).mono fun e w' h => key w e w' h, fun w h1 h2 h3 => (iLex_any s hs w h1 h2 h3).mono fun e w' h => key w e w' h⟩
  split
  · simp
  · have := lexF_len s (s.size + 1) 0
    unfold lexP
    omega

end Go.Proofs.YtbnmefponeomiaaDoor.lx
