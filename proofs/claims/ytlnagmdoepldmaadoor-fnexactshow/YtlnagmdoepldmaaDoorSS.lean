import Derived.Test.YtlnagmdoepldmaaDoorSR
namespace Go.Proofs.YtlnagmdoepldmaaDoor.ex
open Go.ChangeShapes Go.WideShapes Go.ChangeAt Go.RowKit Go.Deep
set_option linter.unusedVariables false
set_option linter.unusedSimpArgs false

theorem cut_sum {E : Nat → Ex} : ∀ (left p : Nat) (ps : List Nat), cutP E p left = some ps → (ps.map fun q => (E q).size.toNat + 1).sum = left := by
  intro left
  induction left using Nat.strongRecOn with
  | ind left ih =>
    intro p ps h
    rw [cutP] at h
    split at h
    · next h0 => cases h; simp [h0]
    · next h0 =>
      split at h
      · cases h
      · next h1 =>
        rw [Option.map_eq_some_iff] at h
        obtain ⟨qs, hq, rfl⟩ := h
        have := ih _ (by omega) _ _ hq
        simp only [List.map_cons, List.sum_cons, this]
        omega

theorem show_size (s : ByteArray) : (es.showA s).data.toList.length ≤ 8002 := by
  unfold es.showA
  split
  · simp
  · next h =>
    split
    · next l hl =>
      have := es.shTo_len hl
      simp
      omega
    · simp

theorem text_size {s : ByteArray} {u : Int} (h : textB s u = true) : s.data.toList.length ≤ 4000 := by
  have hs : s.data.toList.length = s.size := by simp
  unfold textB at h
  split at h
  · by_cases hbig : 4000 < s.size
    · rw [es.showA, if_pos hbig] at h
      simp [ByteArray.toList_eq] at h
    · omega
  · split at h
    · unfold wordB at h
      split at h
      · cases h
      · simp only [Bool.and_eq_true, decide_eq_true_eq] at h
        omega
    · split at h
      · unfold opB at h
        rw [List.any_eq_true] at h
        obtain ⟨x, hx, he⟩ := h
        have e : s.toList = x := by simpa using he
        have h2 : ∀ x ∈ ops.take 15, x.length ≤ 2 := by decide
        have h3 := h2 x hx
        rw [← e, ByteArray.toList_eq] at h3
        omega
      · have e : s.toList = [] := by simpa using h
        rw [ByteArray.toList_eq] at e
        rw [e]
        simp

theorem sum_le {f g : Nat → Nat} : ∀ (l : List Nat), (∀ q ∈ l, f q ≤ 12100 * g q) → (l.map f).sum ≤ 12100 * (l.map g).sum
  | [], _ => by simp
  | q :: l, h => by
    have h1 := h q (by simp)
    have h2 := sum_le l (fun x hx => h x (by simp [hx]))
    simp only [List.map_cons, List.sum_cons]
    omega

theorem txt_len {E : Nat → Ex} {n : Nat} (hn : n ≤ 3000) : ∀ (r p len : Nat), ok E r p len = true → 0 < len → p + len ≤ n → (txt r (treeP E r p)).length + 10 ≤ 12100 * len := by
  intro r
  induction r with
  | zero => intro p len h; cases h
  | succ r ih =>
    intro p len hok hl hp
    obtain ⟨hsz, hh, ps, hcp, hpo, hspt, hall⟩ := parts_of_ok (by omega) hok
    obtain ⟨hfits, hpl⟩ := cut_fits _ _ _ hcp
    have hsum := cut_sum _ _ _ hcp
    have hT : treeP E (r + 1) p = .mk (E p).kind (E p).text (E p).n (ps.map (treeP E r)) := by
      rw [treeP, show (E p).size.toNat = len - 1 by omega, hcp]
      rfl
    rw [hT]
    unfold headB at hh
    rw [Bool.and_eq_true, Bool.and_eq_true] at hh
    obtain ⟨hk, hnb, htb⟩ := hh
    have h1 := txt_node (r := r) (t := (E p).text) (n := (E p).n) (ps := ps.map (treeP E r)) hk (by simpa using hpo)
    have h2 := show_size (E p).text
    have h3 := text_size htb
    have h4 : (numL (E p).n).length ≤ 21 := by
      simp only [nB, decide_eq_true_eq] at hnb
      have hm : mostN (E p).kind ≤ 9007199254740992 := by unfold mostN; split <;> (try split) <;> omega
      exact Lib.itoa_length_le _ (by omega) (by omega)
    have h5 : sumT r (ps.map (treeP E r)) ≤ 12100 * (len - 1) := by
      rw [← hsum, sumT, List.map_map]
      refine sum_le (f := (fun y => (txt r y).length + 10) ∘ treeP E r) (g := fun q => (E q).size.toNat + 1) ps fun q hq => ?_
      obtain ⟨f1, f2, f3⟩ := hfits q hq
      exact ih q _ (hall q hq) (by omega) (by omega)
    omega

set_option maxRecDepth 100000 in
theorem show_any (E : Nat → Ex) (b n cap : Nat) (hn : n ≤ 1048576) (hc : n ≤ cap ∧ cap ≤ 1099511627776) (ht : ∀ i, i < n → (E i).text.size ≤ 1048576) (w : World) (hX : XsB w b n E) (T : Tabs w) (he : es.EscB w) (hlo : 1 < w.heap.size) (htab : Lib.TabIs Tryd.prog w "internal/strconv.uint64pow10" .u64 Lib.pow10Tab) :
    Calls Tryd.prog 7 #[.slice (some ⟨b, 0, none⟩) n cap] w fun e w' => e = .returned (.string (if okAll E n = true then ⟨(txt 61 (treeP E 61 0)).toArray⟩ else ⟨#[]⟩)) ∧ Below w.heap.size w w' := by
  by_cases hok : okAll E n = true
  · rw [if_pos hok]
    have hok0 := hok
    simp only [okAll, Bool.and_eq_true, decide_eq_true_eq] at hok0
    obtain ⟨⟨hn0, hn1⟩, hk, hok1⟩ := hok0
    have := txt_len hn1 61 0 n hok1 hn0 (by omega)
    exact show_yes E b n cap hc ht w hX T hok he hlo htab (by omega)
  · rw [if_neg hok]
    exact show_no E b n cap hn hc ht w hX T (by simpa using hok)

end Go.Proofs.YtlnagmdoepldmaaDoor.ex
