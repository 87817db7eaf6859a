import Derived.Test.YtnicjhapalgpdaaGreatDoorSF
import Derived.Test.YtnicjhapalgpdaaGreatDoorKC
namespace Go.Proofs.YtnicjhapalgpdaaGreatDoor.sv
open Go.ChangeShapes Go.WideShapes Go.ChangeAt Go.RowKit Go.Deep Go.Proofs.YtnicjhapalgpdaaGreatDoor.vr
set_option linter.unusedVariables false
set_option linter.unusedSimpArgs false

/-- The places, the newest first. -/
def nf (xs : List (List UInt8)) : List Nat := srt (nw xs) 11 (plc xs xs.length)

theorem nf_lt {xs : List (List UInt8)} {i : Nat} (h : i ∈ nf xs) : i < xs.length ∧ okP xs i = true := plc_lt ((srt_perm _ _ _).mem_iff.1 h)
theorem nf_len (xs : List (List UInt8)) : (nf xs).length ≤ xs.length := by unfold nf; rw [srt_len]; exact plc_len _ _

/-- A row of places, in a block that was made behind B. -/
def PlS (B : Nat) (w : World) (a : Option Addr) (l : List Nat) : Prop := (∀ (j i : Nat), l[j]? = some i → ∃ b o, a = some ⟨b, o, none⟩ ∧ w.cell? ⟨b, o + j, none⟩ = some (.int .i64 (i : Int))) ∧ ∀ ad, a = some ad → B ≤ ad.block ∧ ad.block < w.heap.size

set_option maxRecDepth 100000 in
set_option maxHeartbeats 1000000 in
theorem newest_any (xs : List (List UInt8)) (g : Nat) (K : Nat → Prop) (a : Option Addr) (n c : Nat) (B : Nat) (w : World) (hA : AtR w g K xs xs.length) (hO : w.ownsRow B 3 1 (.slice a n c) (plc xs xs.length).length ((plc xs xs.length).map iv)) (hn : xs.length ≤ 2000) :
    Calls Tryz.prog 13 #[.agg #[.slice a n c, .slice (some ⟨g, 0, none⟩) xs.length xs.length]] w fun e w' => ∃ a' c', e = .returned (.slice a' (nf xs).length c') ∧ PlS w.heap.size w' a' (nf xs) ∧ Below w.heap.size w w' := by
  have hmf : ∀ (fn : Fn) (first cap : Array Value) (w : World), (Instr.makeFunc fn first cap).run Tryz.prog w = .ok (.func fn first cap) w := fun _ _ _ _ => rfl
  have B1 : Below w.heap.size w (w.alloc (.cells #[.slice a n c, .slice (some ⟨g, 0, none⟩) xs.length xs.length] 33)) := (Below.refl _ _).alloc (Nat.le_refl _) _
  have HS : Hid (Calls Tryz.prog 23 #[.slice a n c, FV (.agg #[.slice a n c, .slice (some ⟨g, 0, none⟩) xs.length xs.length])] (w.alloc (.cells #[.slice a n c, .slice (some ⟨g, 0, none⟩) xs.length xs.length] 33)) fun e w' => ∃ a' c', e = .returned (.slice a' (nf xs).length c') ∧ PlS w.heap.size w' a' (nf xs) ∧ Below w.heap.size w w') := by
    show Calls _ _ _ _ _
    by_cases hz : Value.slice a n c = .slice none 0 0
    · have hl : plc xs xs.length = [] := by
        obtain ⟨_, h⟩ := hO
        rcases h with ⟨_, h⟩ | ⟨g, cap, cur, e, _⟩
        · exact List.length_eq_zero_iff.1 h
        · rw [hz] at e; cases e
      have hnf : nf xs = [] := by unfold nf; rw [hl]; rfl
      rw [hz]
      refine (sorted_nil _).mono ?_
      rintro e w' ⟨rfl, hb⟩
      rw [hz] at B1
      exact ⟨none, 0, by rw [hnf]; rfl, ⟨(fun j i h => by rw [hnf] at h; simp at h), (fun ad e => by cases e)⟩, B1.trans (hb.mono B1.size)⟩
    · have hR : IntR w (.slice a n c) (plc xs xs.length) := IntR.own' hO hz
      have hpl := plc_len xs xs.length
      have hp2 : (2 : Nat) ^ 11 = 2048 := by decide
      refine (sorted_all (isNewer_bf xs g K a n c w hA (by omega)) 11 (plc xs xs.length) _ _ (hR.below B1) (fun i hi => plc_lt hi) B1 (by rw [hp2]; omega) (by omega)).mono ?_
      rintro e w' ⟨v', rfl, ho, hb⟩
      obtain ⟨bb, off, cap, e, q1, q2, q3⟩ := ho.row
      refine ⟨some ⟨bb, off, none⟩, cap, by rw [e]; rfl, ⟨fun j i h => ⟨bb, off, rfl, q3 j i h⟩, fun ad e' => ?_⟩, B1.trans (hb.mono B1.size)⟩
      cases e'
      have := own_lt ho.1 (b := bb) (by rw [e]; rfl)
      simp at this ⊢
      omega
  clear hA hO
  go_enter Tryz.func13, Tryz.ntmps13
  go_wp2_with (go_at_call 23; refine HS.out.mono ?_; rintro e w1 ⟨a', c', rfl, hp, hb⟩)
  go_ret
  exact ⟨_, _, rfl, hp, hb⟩

/-- An append of a text, and where the row lies then. -/
theorem app_text (w : World) {ops : Array Oper} {rest : List Oper} {o : Oper} {a : Act} {Q : Exit → Act → World → Prop} (hgd : o.guard = none) (s x : Operand)
    (ho : o.op = .call { callee := .builtin .append, args := #[s, x], argTypes := #[22, 22] })
    (base : Nat) (v : Value) (xs : List (List UInt8)) (hs : a.eval s = v) (hown : sr.OwnS base w v xs)
    (ad : Addr) (m c : Nat) (ys : List (List UInt8)) (hx : a.eval x = .slice (some ad) m c) (hm : ys.length = m) (hnews : ∀ j u, (ys.map sr.strL)[j]? = some u → w.cell? (ad.add j) = some u) (hlen : xs.length + m ≤ 1000000) (hbase : base ≤ w.heap.size)
    (h : ∀ v' w', sr.OwnS base w' v' (xs ++ ys) → w.grownBy w' v.ownBlock → (v'.ownBlock = v.ownBlock ∨ v'.ownBlock = some w.heap.size) → wpList Tryz.prog ops Q rest (a.put o.dst v') w') : wpList Tryz.prog ops Q (o :: rest) a w := by
  obtain ⟨i0, hi, hz0, hz1, hz2⟩ := sr.info_parts sr.info9
  refine wpList_append_own_at w hgd s x 22 ho base 9 i0 _ 1 16 Tryz.underlying22 hi hz0 hz1 hz2 rfl (by omega) v xs.length (xs.map sr.strL) hs hown.1 ad m c (ys.map sr.strL) hx (by simpa using hm) hnews (sr.strL_one _) (by unfold maxLen; omega) (by omega) hbase ?_
  intro v' w' h1 h2 h3 h4
  exact h _ _ ⟨by rw [List.length_append, List.map_append, hm]; exact h1, fun e => hown.2 (h3.1 e).1⟩ h2 h4

def tx (xs : List (List UInt8)) (i : Nat) : List UInt8 := xs[i]?.getD []
def outS (xs : List (List UInt8)) : List (List UInt8) := if xs.length ≤ 2000 then (nf xs).map (tx xs) else []

theorem one_str (w : World) {l : List UInt8} {u : ByteArray} (h : sr.strL l = .string u) : ∀ j v, ([l].map sr.strL)[j]? = some v → (w.alloc (.cells #[.string u] 9)).cell? ((⟨w.heap.size, 0, none⟩ : Addr).add j) = some v := by
  rw [List.map_singleton, h]
  exact one_new w _ 9

theorem own_zeroS (w : World) : sr.OwnS w.heap.size (w.alloc (.cells #[] 9)) (.slice (some ⟨w.heap.size, 0, none⟩) 0 0) [] := ⟨sr.own_zero w, not_nil _ _ _⟩

theorem OwnS.bel {B : Nat} {w w' : World} {v : Value} {xs : List (List UInt8)} (h : sr.OwnS B w v xs) (hb : Below w.heap.size w w') : sr.OwnS B w' v xs := ⟨own_below h.1 hb, h.2⟩

theorem take_map {l : List Nat} {j i : Nat} {f : Nat → List UInt8} (h : l[j]? = some i) : ((l.take (j + 1)).map f) = (l.take j).map f ++ [f i] := by
  have hlt := (List.getElem?_eq_some_iff.1 h).1
  rw [List.take_add_one, h]; simp

end Go.Proofs.YtnicjhapalgpdaaGreatDoor.sv
