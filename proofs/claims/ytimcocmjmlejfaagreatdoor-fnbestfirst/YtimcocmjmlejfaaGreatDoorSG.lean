import Derived.Test.YtimcocmjmlejfaaGreatDoorSF
import Derived.Test.YtimcocmjmlejfaaGreatDoorKC
namespace Go.Proofs.YtimcocmjmlejfaaGreatDoor.sv
open Go.ChangeShapes Go.WideShapes Go.ChangeAt Go.RowKit Go.Deep Go.Proofs.YtimcocmjmlejfaaGreatDoor.vr
set_option linter.unusedVariables false
set_option linter.unusedSimpArgs false

/-- The places, the newest first. -/
def nf (xs : List (List UInt8)) : List Nat := srt (nw xs) 11 (plc xs xs.length)

theorem nf_lt {xs : List (List UInt8)} {i : Nat} (h : i ∈ nf xs) : i < xs.length ∧ okP xs i = true := plc_lt ((srt_perm _ _ _).mem_iff.1 h)
theorem nf_len (xs : List (List UInt8)) : (nf xs).length ≤ xs.length := by unfold nf; rw [srt_len]; exact plc_len _ _

/-- A row of places, in a block that was made behind B. -/
def PlS (B : Nat) (w : World) (a : Option Addr) (l : List Nat) : Prop := (∀ (j i : Nat), l[j]? = some i → ∃ b o, a = some ⟨b, o, none⟩ ∧ w.cell? ⟨b, o + j, none⟩ = some (.int .i64 (i : Int))) ∧ ∀ ad, a = some ad → B ≤ ad.block ∧ ad.block < w.heap.size

set_option maxRecDepth 100000 in
set_option maxHeartbeats 1000000 in
theorem newest_any (xs : List (List UInt8)) (g : Nat) (K : Nat → Prop) (a : Option Addr) (n c : Nat) (B : Nat) (w : World) (hA : AtR w g K xs xs.length) (hO : w.ownsRow B 3 1 (.slice a n c) (plc xs xs.length).length ((plc xs xs.length).map iv)) (hn : xs.length ≤ 2000) :
    Calls Tryz.prog 22 #[.agg #[.slice a n c, .slice (some ⟨g, 0, none⟩) xs.length xs.length]] w fun e w' => ∃ a' c', e = .returned (.slice a' (nf xs).length c') ∧ PlS w.heap.size w' a' (nf xs) ∧ Below w.heap.size w w' := by
  have hmf : ∀ (fn : Fn) (first cap : Array Value) (w : World), (Instr.makeFunc fn first cap).run Tryz.prog w = .ok (.func fn first cap) w := fun _ _ _ _ => rfl
  have B1 : Below w.heap.size w (w.alloc (.cells #[.slice a n c, .slice (some ⟨g, 0, none⟩) xs.length xs.length] 47)) := (Below.refl _ _).alloc (Nat.le_refl _) _
  have HS : Hid (Calls Tryz.prog 46 #[.slice a n c, FV (.agg #[.slice a n c, .slice (some ⟨g, 0, none⟩) xs.length xs.length])] (w.alloc (.cells #[.slice a n c, .slice (some ⟨g, 0, none⟩) xs.length xs.length] 47)) fun e w' => ∃ a' c', e = .returned (.slice a' (nf xs).length c') ∧ PlS w.heap.size w' a' (nf xs) ∧ Below w.heap.size w w') := by
    show Calls _ _ _ _ _
    by_cases hz : Value.slice a n c = .slice none 0 0
    · have hl : plc xs xs.length = [] := by
        obtain ⟨_, h⟩ := hO
        rcases h with ⟨_, h⟩ | ⟨g, cap, cur, e, _⟩
        · exact List.length_eq_zero_iff.1 h
        · rw [hz] at e; cases e
      have hnf : nf xs = [] := by unfold nf; rw [hl]; rfl
      rw [hz]
      refine (sorted_nil _).mono ?_
      rintro e w' ⟨rfl, hb⟩
      rw [hz] at B1
      exact ⟨none, 0, by rw [hnf]; rfl, ⟨(fun j i h => by rw [hnf] at h; simp at h), (fun ad e => by cases e)⟩, B1.trans (hb.mono B1.size)⟩
    · have hR : IntR w (.slice a n c) (plc xs xs.length) := IntR.own' hO hz
      have hpl := plc_len xs xs.length
      have hp2 : (2 : Nat) ^ 11 = 2048 := by decide
      refine (sorted_all (isNewer_bf xs g K a n c w hA (by omega)) 11 (plc xs xs.length) _ _ (hR.below B1) (fun i hi => plc_lt hi) B1 (by rw [hp2]; omega) (by omega)).mono ?_
      rintro e w' ⟨v', rfl, ho, hb⟩
      obtain ⟨bb, off, cap, e, q1, q2, q3⟩ := ho.row
      refine ⟨some ⟨bb, off, none⟩, cap, by rw [e]; rfl, ⟨fun j i h => ⟨bb, off, rfl, q3 j i h⟩, fun ad e' => ?_⟩, B1.trans (hb.mono B1.size)⟩
      cases e'
      have := own_lt ho.1 (b := bb) (by rw [e]; rfl)
      simp at this ⊢
      omega
  clear hA hO
  go_enter Tryz.func22, Tryz.ntmps22
  go_wp2_with (go_at_call 46; refine HS.out.mono ?_; rintro e w1 ⟨a', c', rfl, hp, hb⟩)
  go_ret
  exact ⟨_, _, rfl, hp, hb⟩

/-- An append of a text, and where the row lies then. -/
theorem app_text (w : World) {ops : Array Oper} {rest : List Oper} {o : Oper} {a : Act} {Q : Exit → Act → World → Prop} (hgd : o.guard = none) (s x : Operand)
    (ho : o.op = .call { callee := .builtin .append, args := #[s, x], argTypes := #[24, 24] })
    (base : Nat) (v : Value) (xs : List (List UInt8)) (hs : a.eval s = v) (hown : sr.OwnS base w v xs)
    (ad : Addr) (m c : Nat) (ys : List (List UInt8)) (hx : a.eval x = .slice (some ad) m c) (hm : ys.length = m) (hnews : ∀ j u, (ys.map sr.strL)[j]? = some u → w.cell? (ad.add j) = some u) (hlen : xs.length + m ≤ 1000000) (hbase : base ≤ w.heap.size)
    (h : ∀ v' w', sr.OwnS base w' v' (xs ++ ys) → w.grownBy w' v.ownBlock → (v'.ownBlock = v.ownBlock ∨ v'.ownBlock = some w.heap.size) → wpList Tryz.prog ops Q rest (a.put o.dst v') w') : wpList Tryz.prog ops Q (o :: rest) a w := by
  obtain ⟨i0, hi, hz0, hz1, hz2⟩ := sr.info_parts sr.info9
  refine wpList_append_own_at w hgd s x 24 ho base 9 i0 _ 1 16 Tryz.underlying24 hi hz0 hz1 hz2 rfl (by omega) v xs.length (xs.map sr.strL) hs hown.1 ad m c (ys.map sr.strL) hx (by simpa using hm) hnews (sr.strL_one _) (by unfold maxLen; omega) (by omega) hbase ?_
  intro v' w' h1 h2 h3 h4
  exact h _ _ ⟨by rw [List.length_append, List.map_append, hm]; exact h1, fun e => hown.2 (h3.1 e).1⟩ h2 h4

def tx (xs : List (List UInt8)) (i : Nat) : List UInt8 := xs[i]?.getD []
def outS (xs : List (List UInt8)) : List (List UInt8) := if xs.length ≤ 2000 then (nf xs).map (tx xs) else []

theorem one_str (w : World) {l : List UInt8} {u : ByteArray} (h : sr.strL l = .string u) : ∀ j v, ([l].map sr.strL)[j]? = some v → (w.alloc (.cells #[.string u] 9)).cell? ((⟨w.heap.size, 0, none⟩ : Addr).add j) = some v := by
  rw [List.map_singleton, h]
  exact one_new w _ 9

theorem own_zeroS (w : World) : sr.OwnS w.heap.size (w.alloc (.cells #[] 9)) (.slice (some ⟨w.heap.size, 0, none⟩) 0 0) [] := ⟨sr.own_zero w, not_nil _ _ _⟩

theorem OwnS.bel {B : Nat} {w w' : World} {v : Value} {xs : List (List UInt8)} (h : sr.OwnS B w v xs) (hb : Below w.heap.size w w') : sr.OwnS B w' v xs := ⟨own_below h.1 hb, h.2⟩

theorem take_map {l : List Nat} {j i : Nat} {f : Nat → List UInt8} (h : l[j]? = some i) : ((l.take (j + 1)).map f) = (l.take j).map f ++ [f i] := by
  have hlt := (List.getElem?_eq_some_iff.1 h).1
  rw [List.take_add_one, h]; simp

set_option maxRecDepth 100000 in
set_option maxHeartbeats 2000000 in
theorem isort_any (xs : List (List UInt8)) (v : Value) (w : World) (hR : sr.StrR w v xs) (hs : ∀ i, i < xs.length → (tx xs i).length ≤ 1048576) :
    Calls Tryz.prog 7 #[v] w fun e w' => ∃ v', e = .returned v' ∧ sr.OwnS w.heap.size w' v' (outS xs) ∧ Below w.heap.size w w' := by
  have HR : Hid (sr.StrR w v xs) := hR
  obtain ⟨bb, off, cap, rfl, h1, h2, hc⟩ := hR
  by_cases hn : 2000 < xs.length
  · have hn' : (2000 : Int) < (xs.length : Int) := by omega
    have HO : Hid (outS xs = []) := by show _ = _; unfold outS; rw [if_neg (by omega)]
    clear hc
    go_enter Tryz.func7, Tryz.ntmps7
    go_wp2
    go_ret
    exact ⟨_, rfl, by rw [HO.out]; exact own_zeroS w, (Below.refl _ _).alloc (Nat.le_refl _) _⟩
  · have hn' : ¬ (2000 : Int) < (xs.length : Int) := by omega
    have HO : Hid (outS xs = (nf xs).map (tx xs)) := by show _ = _; unfold outS; rw [if_pos (by omega)]
    have B0 : Below w.heap.size w (w.alloc (.cells #[] 9)) := (Below.refl _ _).alloc (Nat.le_refl _) _
    have HAM : Hid (Calls Tryz.prog 21 #[.slice (some ⟨bb, off, none⟩) xs.length cap] (w.alloc (.cells #[] 9)) fun e w' => ∃ a n c g K, e = .returned (.agg #[.slice a n c, .slice (some ⟨g, 0, none⟩) xs.length xs.length]) ∧ AtR w' g K xs xs.length ∧ w'.ownsRow ((w.alloc (.cells #[] 9)).heap.size + 3) 3 1 (.slice a n c) (plc xs xs.length).length ((plc xs xs.length).map iv) ∧ Below (w.alloc (.cells #[] 9)).heap.size (w.alloc (.cells #[] 9)) w') := (among_any xs _ _ (HR.out.below B0) (by omega) hs).mono (by
      rintro e w' ⟨a, n, c, K, rfl, hA, ho, hb⟩
      exact ⟨a, n, c, _, K, rfl, hA, ho, hb⟩)
    have HC : Hid (∀ i, i < xs.length → w.cell? ⟨bb, off + i, none⟩ = some (.string ⟨(tx xs i).toArray⟩)) := fun i hi => hc i _ (by simp [tx, hi])
    have HSZ : Hid (∀ i, i < xs.length → (tx xs i).length ≤ 1048576) := hs
    have hnl := nf_len xs
    clear hc hs
    go_enter Tryz.func7, Tryz.ntmps7
    go_wp2_with (first
      | (go_at_call 21; refine HAM.out.mono ?_; rintro e w1 ⟨a, n, c, g, K, rfl, hA, ho, hb1⟩)
      | (go_at_call 22; refine (newest_any xs g K a n c _ _ hA ho (by omega)).mono ?_; rintro e w2 ⟨a2, c2, rfl, hp, hb2⟩; clear hA ho))
    have hw1 := hb1.size
    have hw1' : w.heap.size + 1 ≤ w1.heap.size := by simpa using hw1
    have hw2 := hb2.size
    have BW2 : Below w.heap.size w w2 := B0.trans ((hb1.mono (by simp)).trans (hb2.mono (by omega)))
    have HP : Hid (PlS w1.heap.size w2 a2 (nf xs)) := hp
    have HO0 : Hid (sr.OwnS w.heap.size w2 (.slice (some ⟨w.heap.size, 0, none⟩) 0 0) []) := OwnS.bel (OwnS.bel (own_zeroS w) hb1) hb2
    clear hp hb1 hb2
    go_loopw [3, 5, 15] (fun r _ x wr => ∃ (j : Nat), j ≤ (nf xs).length ∧ x = .int .i64 (j : Int) ∧ sr.OwnS w.heap.size wr r (((nf xs).take j).map (tx xs)) ∧ (∀ ad, a2 = some ad → wr.heap[ad.block]? = w2.heap[ad.block]? ∧ ad.block < wr.heap.size ∧ r.ownBlock ≠ some ad.block) ∧ Below w.heap.size w wr) (fun _ _ x _ => (nf xs).length - (intOf x).toNat)
    case atStart =>
      refine ⟨0, Nat.zero_le _, rfl, HO0.out, fun ad e => ⟨rfl, (HP.out.2 ad e).2, fun h => ?_⟩, BW2⟩
      have h1 := (HP.out.2 ad e).1
      have h2 : w.heap.size = ad.block := by simpa [Value.ownBlock] using h
      omega
    case round =>
      obtain ⟨j, hj, rfl, hown, hpl, hbel⟩ := hrel
      have HOW : Hid (sr.OwnS w.heap.size wr u3 (((nf xs).take j).map (tx xs))) := hown
      have HBE : Hid (Below w.heap.size w wr) := hbel
      have hws := hbel.size
      by_cases hjl : j < (nf xs).length
      · have hj' : (j : Int) < ((nf xs).length : Int) := by omega
        obtain ⟨i, hi⟩ : ∃ i, (nf xs)[j]? = some i := ⟨_, List.getElem?_eq_getElem hjl⟩
        obtain ⟨b2, o2, rfl, cj⟩ := HP.out.1 j i hi
        obtain ⟨p1, p2, p3⟩ := hpl _ rfl
        have cj1 : wr.cell? ⟨b2, o2 + j, none⟩ = some (.int .i64 (i : Int)) := (World.cell?_of_block (a := ⟨b2, o2 + j, none⟩) p1).trans cj
        have hix := (nf_lt (List.mem_of_getElem? hi)).1
        have hix' : (i : Int) < (xs.length : Int) := by omega
        have ct : wr.cell? ⟨bb, off + i, none⟩ = some (.string ⟨(tx xs i).toArray⟩) := (hbel.cell (p := ⟨bb, _, none⟩) (World.block_lt_of_cell? _ _ (HC.out i hix))).trans (HC.out i hix)
        have HCL : Hid (∀ W, Calls Tryz.prog 23 #[.string ⟨(tx xs i).toArray⟩] W fun e w' => e = .returned (.string ⟨(tx xs i).toArray⟩) ∧ Below W.heap.size W w') := fun W => cl.clone_any _ W (by show (tx xs i).toArray.size ≤ _; have := HSZ.out i hix; simp; omega)
        have hlen : (((nf xs).take j).map (tx xs)).length ≤ 2000 := by simp; omega
        have HTK : Hid (((nf xs).take (j + 1)).map (tx xs) = ((nf xs).take j).map (tx xs) ++ [tx xs i]) := take_map hi
        have HU : Hid (Value.string ⟨(tx xs i).toArray⟩ = sr.strL (tx xs i)) := rfl
        have HPL : Hid (wr.heap[b2]? = w2.heap[b2]? ∧ b2 < wr.heap.size ∧ u3.ownBlock ≠ some b2) := ⟨p1, p2, p3⟩
        obtain ⟨S, hS⟩ : ∃ S : ByteArray, (⟨(tx xs i).toArray⟩ : ByteArray) = S := ⟨_, rfl⟩
        rw [hS] at HCL ct HU
        clear hown hpl p1 p2 p3 hS cj hi hbel
        go_wp2_with (first
          | (go_at_call 23; refine (HCL.out _).mono ?_; rintro e w3 ⟨rfl, hl3⟩; have HO3 : Hid (sr.OwnS w.heap.size w3 u3 (((nf xs).take j).map (tx xs))) := OwnS.bel HOW.out hl3; have HB3 : Hid (Below w.heap.size w w3) := HBE.out.trans (hl3.mono HBE.out.size); have hs3 := hl3.size)
          | (at_builtin; refine app_text _ rfl _ _ rfl w.heap.size _ (((nf xs).take j).map (tx xs)) rfl ⟨HO3.out.1.alloc _, HO3.out.2⟩ ⟨_, 0, none⟩ 1 1 [tx xs i] rfl rfl (one_str _ HU.out.symm) (by omega) (by have := HB3.out.size; simp; omega) ?_; intro v4 w4 hown4 hg4 hat4; have HB4 : Hid (Below w.heap.size w w4) := below_grown (HB3.out.alloc HB3.out.size _) (HO3.out.1.alloc _) hg4 (by have := HB3.out.size; simp; omega))
          | go_in)
        go_roundw
        case rel =>
          refine ⟨j + 1, by omega, by go_num, by rw [HTK.out]; exact hown4, fun ad e => ?_, HB4.out⟩
          cases e
          obtain ⟨p1, p2, p3⟩ := HPL.out
          have hg4s := hg4.size
          have hk : w4.heap[b2]? = wr.heap[b2]? := by
            rw [hg4.block b2 (by simp; omega) (fun e => p3 e.symm)]
            exact (((Below.refl w3.heap.size w3).alloc (Nat.le_refl _) _).block b2 (by omega)).trans (hl3.block b2 p2)
          refine ⟨hk.trans p1, by simp at hg4s; show b2 < _; omega, fun e => ?_⟩
          rcases hat4 with h | h
          · exact p3 (h.symm.trans e)
          · rw [h] at e
            have := Option.some.inj e
            simp at this
            omega
        case measure => simp [intOf]; omega
      · have hj' : ¬ (j : Int) < ((nf xs).length : Int) := by omega
        obtain rfl : j = (nf xs).length := by omega
        clear hown hpl
        go_wp2
        go_ret
        exact ⟨_, rfl, by rw [HO.out]; have := HOW.out; rwa [List.take_length] at this, HBE.out⟩

end Go.Proofs.YtimcocmjmlejfaaGreatDoor.sv
