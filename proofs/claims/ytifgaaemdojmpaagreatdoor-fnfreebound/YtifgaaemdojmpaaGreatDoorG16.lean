import Derived.Test.YtifgaaemdojmpaaGreatDoorG15
namespace Go.Proofs.YtifgaaemdojmpaaGreatDoor.pr
open Go.ChangeShapes Go.WideShapes Go.ChangeAt Go.RowKit Go.Deep
open lx (Lx)
open ex (Tr Ex infoE)
set_option linter.unusedVariables false
set_option linter.unusedSimpArgs false

/-! ### Where the grammar stands while the reader goes on -/

/-- M: what the whole comes to; m: what is left of it, given what has been read. -/
structure Pg {β X : Type} (M : Rs β) (i : Nat) (b : Bool) (Q : X → Prop) (m : X → Rs β) : Prop where
  yes : b = true → M = .bad i
  no : b = false → ∃ x, Q x ∧ M = m x
section
variable {β X : Type} {M : Rs β} {i : Nat} {b : Bool} {Q : X → Prop} {m : X → Rs β} {l : Ls}
theorem Pg.start (M : Rs β) (i : Nat) : Pg M i false (fun _ : Unit => True) (fun _ => M) := ⟨(fun h => by cases h), fun _ => ⟨(), trivial, rfl⟩⟩
theorem Pg.start2 {M' : Rs β} {i : Nat} {b : Bool} (h : M = if b = true then .bad i else M') : Pg M i b (fun _ : Unit => True) (fun _ => M') := ⟨fun e => by rw [h, if_pos e], fun e => ⟨(), trivial, by rw [h, if_neg (by rw [e]; decide)]⟩⟩
theorem Pg.pos {j : Nat} (h : Pg M j false Q m) (i : Nat) : Pg M i false Q m := ⟨(fun e => by cases e), h.no⟩
theorem Pg.eq {m' : X → Rs β} (h : Pg M i b Q m) (e : b = false → ∀ x, Q x → m x = m' x) : Pg M i b Q m' := ⟨h.yes, fun e1 => by
  obtain ⟨x, h1, h2⟩ := h.no e1
  exact ⟨x, h1, h2.trans (e e1 x h1)⟩⟩
theorem Pg.read {m0 : Rs Tr} {K : X → Tr → Nat → Rs β} (h : Pg M i b Q fun x => m0.bind (K x)) {i' : Nat} {b' : Bool} {L : List Ex} (r : Rel (if b = true then .bad i else m0) i' b' L) : Pg M i' b' (fun x : X × Tr => Q x.1 ∧ Xx L (fl x.2)) (fun x => K x.1 x.2 i') := by
  cases b with
  | true =>
    rw [if_pos rfl] at r
    obtain ⟨r1, r2⟩ := r
    subst r1 r2
    exact ⟨fun _ => h.yes rfl, fun e => by cases e⟩
  | false =>
    rw [if_neg (by decide)] at r
    obtain ⟨x, h1, h2⟩ := h.no rfl
    cases m0 with
    | bad j =>
      obtain ⟨r1, r2⟩ := r
      subst r1 r2
      exact ⟨fun _ => h2, fun e => by cases e⟩
    | ok t j =>
      obtain ⟨r1, r2, r3⟩ := r
      subst r1 r2
      exact ⟨(fun e => by cases e), fun _ => ⟨(x, t), ⟨h1, r3⟩, h2⟩⟩
theorem Pg.readL {m0 : Rs (List Tr)} {K : X → List Tr → Nat → Rs β} (h : Pg M i b Q fun x => m0.bind (K x)) {i' : Nat} {b' : Bool} {L : List Ex} (r : RelL (if b = true then .bad i else m0) i' b' L) : Pg M i' b' (fun x : X × List Tr => Q x.1 ∧ Xx L (flL x.2)) (fun x => K x.1 x.2 i') := by
  cases b with
  | true =>
    rw [if_pos rfl] at r
    obtain ⟨r1, r2⟩ := r
    subst r1 r2
    exact ⟨fun _ => h.yes rfl, fun e => by cases e⟩
  | false =>
    rw [if_neg (by decide)] at r
    obtain ⟨x, h1, h2⟩ := h.no rfl
    cases m0 with
    | bad j =>
      obtain ⟨r1, r2⟩ := r
      subst r1 r2
      exact ⟨fun _ => h2, fun e => by cases e⟩
    | ok t j =>
      obtain ⟨r1, r2, r3⟩ := r
      subst r1 r2
      exact ⟨(fun e => by cases e), fun _ => ⟨(x, t), ⟨h1, r3⟩, h2⟩⟩
theorem Pg.want {s : List UInt8} {K : X → Nat → Rs β} (h : Pg M i b Q fun x => wt l s i (K x)) {v : Bool} (hv : isS l i s = v) : Pg M (wtI b v i) (wtB b v) Q (fun x => K x (wtI b v i)) := by
  subst hv
  cases b with
  | true => exact ⟨fun _ => h.yes rfl, fun e => by cases e⟩
  | false =>
    obtain ⟨x, h1, h2⟩ := h.no rfl
    unfold wt at h2
    cases hs : isS l i s with
    | true => rw [if_pos hs] at h2; exact ⟨(fun e => by cases e), fun _ => ⟨x, h1, h2⟩⟩
    | false => rw [if_neg (by rw [hs]; decide)] at h2; exact ⟨fun _ => h2, fun e => by cases e⟩
theorem Pg.wantk {s : List UInt8} {K : X → Nat → Rs β} (h : Pg M i b Q fun x => wk l s i (K x)) {v : Bool} (hv : isK l i s = v) : Pg M (wtI b v i) (wtB b v) Q (fun x => K x (wtI b v i)) := by
  subst hv
  cases b with
  | true => exact ⟨fun _ => h.yes rfl, fun e => by cases e⟩
  | false =>
    obtain ⟨x, h1, h2⟩ := h.no rfl
    unfold wk at h2
    cases hs : isK l i s with
    | true => rw [if_pos hs] at h2; exact ⟨(fun e => by cases e), fun _ => ⟨x, h1, h2⟩⟩
    | false => rw [if_neg (by rw [hs]; decide)] at h2; exact ⟨fun _ => h2, fun e => by cases e⟩
theorem Pg.word {K : X → ByteArray → Nat → Rs β} (h : Pg M i b Q fun x => ww l i (K x)) {v : Bool} (hv : isW l i = v) {s : ByteArray} (hs : s = wwT b v l i) : Pg M (wtI b v i) (wtB b v) Q (fun x => K x s (wtI b v i)) := by
  subst hv hs
  cases b with
  | true => exact ⟨fun _ => h.yes rfl, fun e => by cases e⟩
  | false =>
    obtain ⟨x, h1, h2⟩ := h.no rfl
    unfold ww at h2
    cases hs : isW l i with
    | true => rw [if_pos hs] at h2; exact ⟨(fun e => by cases e), fun _ => ⟨x, h1, h2⟩⟩
    | false => rw [if_neg (by rw [hs]; decide)] at h2; exact ⟨fun _ => h2, fun e => by cases e⟩
theorem Pg.fin {M : Rs Tr} {T : X → Tr} (h : Pg M i b Q fun x => .ok (T x) i) {L : List Ex} (k : b = false → ∀ x, Q x → Xx L (fl (T x))) : Rel M i b L := by
  cases b with
  | true => rw [h.yes rfl]; exact ⟨rfl, rfl⟩
  | false =>
    obtain ⟨x, h1, h2⟩ := h.no rfl
    rw [h2]
    exact ⟨rfl, rfl, k rfl x h1⟩
theorem Pg.finL {M : Rs (List Tr)} {T : X → List Tr} (h : Pg M i b Q fun x => .ok (T x) i) {L : List Ex} (k : b = false → ∀ x, Q x → Xx L (flL (T x))) : RelL M i b L := by
  cases b with
  | true => rw [h.yes rfl]; exact ⟨rfl, rfl⟩
  | false =>
    obtain ⟨x, h1, h2⟩ := h.no rfl
    rw [h2]
    exact ⟨rfl, rfl, k rfl x h1⟩
end
theorem Mv.inc {w W : World} {rb cp i : Nat} {a : Option Addr} {l : Ls} {b : Bool} (h : Mv w W rb a cp l i b) (hi : i + 1 ≤ l.length) : Go w W (W.setCell ⟨rb, 1, none⟩ (.int .i64 ((i : Int) + 1))) rb a cp l (i + 1) b := by
  have e : (i : Int) + 1 = ((i + 1 : Nat) : Int) := by simp
  rw [e]
  exact ⟨⟨h.rd.seti hi, gr_trans h.gr (gr_set _ _ _ _)⟩, gr_set _ _ _ _⟩
theorem Mv.sbad {w W : World} {rb cp i : Nat} {a : Option Addr} {l : Ls} {b : Bool} (h : Mv w W rb a cp l i b) : Go w W (W.setCell ⟨rb, 2, none⟩ (.bool true)) rb a cp l i true := ⟨⟨h.rd.setb true, gr_trans h.gr (gr_set _ _ _ _)⟩, gr_set _ _ _ _⟩
theorem Mv.wr {w W : World} {rb cp i : Nat} {a : Option Addr} {l : Ls} {b : Bool} (h : Mv w W rb a cp l i b) (hi : i + 1 ≤ l.length) : IntKind.i64.wrap ((i : Int) + 1) = (i : Int) + 1 := by
  have := wrap_add i 1 (by have := h.rd.cl.2.2; omega)
  simpa using this
theorem wtI_le {b v : Bool} {i : Nat} : i ≤ wtI b v i ∧ wtI b v i ≤ i + 1 := by unfold wtI; split <;> omega
theorem wtB_false {b v : Bool} {i : Nat} (h : wtB b v = false) : b = false ∧ v = true ∧ wtI b v i = i + 1 := by
  unfold wtB at h
  have h1 : b = false ∧ v = true := by revert h; cases b <;> cases v <;> decide
  obtain ⟨rfl, rfl⟩ := h1
  exact ⟨rfl, rfl, rfl⟩
theorem Rel.ge {l : Ls} {f lv i0 : Nat} (hlt : ∀ t j, P l f lv i0 = .ok t j → i0 < j) {b : Bool} {i' : Nat} {b' : Bool} {L : List Ex} (r : Rel (if b = true then .bad i0 else P l f lv i0) i' b' L) (h : b' = false) : b = false ∧ i0 < i' := by
  cases b with
  | true => rw [if_pos rfl] at r; obtain ⟨r1, _⟩ := r; rw [h] at r1; cases r1
  | false =>
    rw [if_neg (by decide)] at r
    cases hm : P l f lv i0 with
    | bad j => rw [hm] at r; obtain ⟨r1, _⟩ := r; rw [h] at r1; cases r1
    | ok t j => rw [hm] at r; obtain ⟨_, r2, _⟩ := r; exact ⟨rfl, by rw [r2]; exact hlt t j hm⟩
end Go.Proofs.YtifgaaemdojmpaaGreatDoor.pr
