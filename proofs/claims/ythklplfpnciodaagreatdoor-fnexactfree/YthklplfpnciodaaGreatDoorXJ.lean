import Derived.Test.YthklplfpnciodaaGreatDoorXI
namespace Go.Proofs.YthklplfpnciodaaGreatDoor.ex
open Go.ChangeShapes Go.WideShapes Go.ChangeAt Go.RowKit Go.Deep Go.Maps
set_option linter.unusedVariables false
set_option linter.unusedSimpArgs false

/-- How the two Booleans of a part's place come out. -/
theorem special_cases {k : Int} {L : Bool} (h : special k L = true) : k = 5 ∨ (k = 8 ∧ L = false) ∨ (k = 14 ∧ L = false) := by
  simp only [special, decide_eq_true_eq] at h
  rcases h with h | ⟨h | h, hl⟩
  · exact .inl h
  · exact .inr (.inl ⟨h, hl⟩)
  · exact .inr (.inr ⟨h, hl⟩)
theorem plain_cases {k : Int} {L : Bool} (h : special k L = false) : (k = 8 ∧ L = true) ∨ (k = 14 ∧ L = true) ∨ (k ≠ 5 ∧ k ≠ 8 ∧ k ≠ 14) := by
  simp only [special, decide_eq_false_iff_not] at h
  cases L with
  | true =>
    by_cases h8 : k = 8
    · exact .inl ⟨h8, rfl⟩
    · by_cases h14 : k = 14
      · exact .inr (.inl ⟨h14, rfl⟩)
      · exact .inr (.inr ⟨fun e => h (.inl e), h8, h14⟩)
  | false => exact .inr (.inr ⟨fun e => h (.inl e), fun e => h (.inr ⟨.inl e, rfl⟩), fun e => h (.inr ⟨.inr e, rfl⟩)⟩)

theorem strV_one (nm : List ByteArray) : ∀ u ∈ nm.map strV, u.oneCell' = true := by
  intro u hu
  obtain ⟨q, _, rfl⟩ := List.mem_map.1 hu
  rfl

theorem two_one (w : World) (o : Obj) (u : Value) (e : TypeId) : ∀ j v, [u][j]? = some v → ((w.alloc o).alloc (.cells #[u] e)).cell? ((⟨w.heap.size + 1, 0, none⟩ : Addr).add j) = some v := by
  have h := one_new (w.alloc o) u e
  have e1 : (w.alloc o).heap.size = w.heap.size + 1 := by simp
  rw [e1] at h
  exact h

set_option maxRecDepth 100000 in
set_option maxHeartbeats 4000000 in
theorem kinds_any (E : Nat → Ex) (b n p len cap : Nat) (k : Int) (ps : List Nat) (av : Option Addr) (cp : Nat) (w : World) (hX : XsB w b n E) (hp : p + len ≤ n) (hn : n ≤ 3000) (hl : 0 < len) (hk : (E p).kind = k) (hF : ∀ q ∈ ps, Fits E (p + 1) (p + len) q) (hpl : ps.length ≤ 3000) (hP : PsB w av (ps.map (relV p))) :
    Calls Tryz.prog 49 #[.slice (some ⟨b, p * 4, none⟩) len cap, .slice av ps.length cp] w fun e w' => e = .returned (.bool (kindsL k (ps.map E) && decide (namesL k (ps.map E)).Nodup)) ∧ Below w.heap.size w w' := by
  have hl' : (0 : Int) < (len : Int) := by omega
  have hln : 0 < len := hl
  have g0 := (hX p (by omega)).1
  rw [hk] at g0
  obtain ⟨bb, off, hav, hP⟩ := hP
  have hav' : ps.length = 0 ∨ av = some ⟨bb, off, none⟩ := by simpa using hav
  have hcell : ∀ i (h : i < ps.length), w.cell? ⟨bb, off + i, none⟩ = some (relV p ps[i]) := fun i h => hP i _ (by simp [h])
  clear hP hav
  go_enter Tryz.func49, Tryz.ntmps49
  go_wp2
  go_loopw [6, 7, 8, 9, 10] (fun v x _ _ _ wr => ∃ (i : Nat) (nm : List ByteArray), i ≤ ps.length ∧ x = .int .i64 (i : Int) ∧ Found E ps k i nm ∧ wr.ownsRow w.heap.size 9 1 v nm.length (nm.map strV) ∧ Below w.heap.size w wr) (fun _ x _ _ _ _ => ps.length - (intOf x).toNat)
  case atStart => exact ⟨0, [], Nat.zero_le _, rfl, Found.start E ps k, own_none w _, (Below.refl _ _).alloc (Nat.le_refl _) _⟩
  case round =>
    obtain ⟨i, nm, hil, rfl, hfd, hown, hbel⟩ := hrel
    have HFD : Hid (Found E ps k i nm) := hfd
    have hnml := hfd.len
    clear hfd
    have hszb := hbel.size
    by_cases hlt : i < ps.length
    · have hlt' : (i : Int) < (ps.length : Int) := by omega
      obtain rfl := hav'.resolve_left (by omega)
      obtain ⟨f1, f2, f3⟩ := hF _ (List.getElem_mem hlt)
      obtain ⟨d, hd⟩ : ∃ d, ps[i] = p + d := ⟨ps[i] - p, by omega⟩
      have c0 : wr.cell? ⟨bb, off + i, none⟩ = some (.int .i64 (d : Int)) := by
        have h1 := hcell i hlt
        rw [(hbel.cell (p := ⟨bb, _, none⟩) (World.block_lt_of_cell? _ _ h1)), h1, relV, hd]
        simp
      obtain ⟨k0, k1, k2, k3⟩ := hX.below hbel (p + d) (by omega)
      rw [Nat.add_mul] at k0 k1 k2 k3
      have hdl : (d : Int) < (len : Int) := by omega
      obtain ⟨L, hL⟩ : ∃ L, decide (i + 1 = ps.length) = L := ⟨_, rfl⟩
      have hLb : ((i : Int) == (ps.length : Int) - 1) = L := by
        rw [← hL, Bool.eq_iff_iff]
        simp
        omega
      have b1 := hbel.alloc hszb (.cells #[.int .i64 (E (p + d)).kind, .string (E (p + d)).text, .int .i64 (E (p + d)).n, .int .i64 (E (p + d)).size] 38)
      have HFD' := HFD
      cases hsp : special k L with
      | true =>
        cases hkp : kindP k L (E (p + d)) with
        | true =>
          have HM : Hid (Found E ps k (i + 1) (nm ++ [(E (p + d)).text])) := by
            have := HFD.out.more hlt (by rw [hL]; exact hsp) (by rw [hL, hd]; exact hkp)
            rw [hd] at this
            exact this
          have hkc : (k = 5 ∧ (E (p + d)).kind = 6) ∨ (k = 5 ∧ (E (p + d)).kind = 7) ∨ (k = 8 ∧ L = false ∧ (E (p + d)).kind = 6) ∨ (k = 8 ∧ L = false ∧ (E (p + d)).kind = 7) ∨ (k = 14 ∧ L = false ∧ (E (p + d)).kind = 15) := by
            rw [kindP, if_pos hsp] at hkp
            rcases special_cases hsp with rfl | ⟨rfl, rfl⟩ | ⟨rfl, rfl⟩
            · simp at hkp; rcases hkp with h | h <;> simp [h]
            · simp at hkp; rcases hkp with h | h <;> simp [h]
            · simp at hkp; simp [hkp]
          rcases hkc with ⟨rfl, hq⟩ | ⟨rfl, hq⟩ | ⟨rfl, rfl, hq⟩ | ⟨rfl, rfl, hq⟩ | ⟨rfl, rfl, hq⟩
          · have q6 : ((E (p + d)).kind != 6) = false := by simp [hq]
            clear hq
            clear hkp hsp hL
            go_wp2_with (first
              | (at_builtin; refine app_own _ rfl _ _ 24 rfl w.heap.size 9 (.string ⟨#[]⟩) 16 Tryz.underlying24 info9 rfl _ _ _ rfl ((hown.alloc _).alloc _) ⟨wr.heap.size + 1, 0, none⟩ 1 1 [strV (E (p + d)).text] rfl rfl ?c1 ?c2 ?c3 ?c4 ?c5 ?_)
              | go_in)
            case c1 => first | exact fun j u h => h | exact two_one wr _ (.string (E (p + d)).text) 9
            case c2 => first | rfl | (intro u hu; simp at hu; subst hu; rfl)
            case c3 => unfold maxLen; omega
            case c4 => omega
            case c5 => first | omega | (simp; omega)
            intro v' w' hown' hg
            have hb' := below_grown (b1.alloc (by simp; omega) _) ((hown.alloc _).alloc _) hg (by simp; omega)
            rw [← List.map_singleton (f := strV) (a := (E (p + d)).text), ← List.map_append] at hown'
            clear hown hg
            go_wp2_with fail
            go_roundw
            case rel => exact ⟨i + 1, nm ++ [(E (p + d)).text], by omega, by go_num, HM.out, by simpa using hown', hb'⟩
            case measure => simp [intOf]; omega
          · have q6 : ((E (p + d)).kind != 6) = true := by simp [hq]
            have q7 : ((E (p + d)).kind != 7) = false := by simp [hq]
            clear hq
            clear hkp hsp hL
            go_wp2_with (first
              | (at_builtin; refine app_own _ rfl _ _ 24 rfl w.heap.size 9 (.string ⟨#[]⟩) 16 Tryz.underlying24 info9 rfl _ _ _ rfl ((hown.alloc _).alloc _) ⟨wr.heap.size + 1, 0, none⟩ 1 1 [strV (E (p + d)).text] rfl rfl ?c1 ?c2 ?c3 ?c4 ?c5 ?_)
              | go_in)
            case c1 => first | exact fun j u h => h | exact two_one wr _ (.string (E (p + d)).text) 9
            case c2 => first | rfl | (intro u hu; simp at hu; subst hu; rfl)
            case c3 => unfold maxLen; omega
            case c4 => omega
            case c5 => first | omega | (simp; omega)
            intro v' w' hown' hg
            have hb' := below_grown (b1.alloc (by simp; omega) _) ((hown.alloc _).alloc _) hg (by simp; omega)
            rw [← List.map_singleton (f := strV) (a := (E (p + d)).text), ← List.map_append] at hown'
            clear hown hg
            go_wp2_with fail
            go_roundw
            case rel => exact ⟨i + 1, nm ++ [(E (p + d)).text], by omega, by go_num, HM.out, by simpa using hown', hb'⟩
            case measure => simp [intOf]; omega
          · have q6 : ((E (p + d)).kind != 6) = false := by simp [hq]
            clear hq
            clear hkp hsp hL
            go_wp2_with (first
              | (at_builtin; refine app_own _ rfl _ _ 24 rfl w.heap.size 9 (.string ⟨#[]⟩) 16 Tryz.underlying24 info9 rfl _ _ _ rfl ((hown.alloc _).alloc _) ⟨wr.heap.size + 1, 0, none⟩ 1 1 [strV (E (p + d)).text] rfl rfl ?c1 ?c2 ?c3 ?c4 ?c5 ?_)
              | go_in)
            case c1 => first | exact fun j u h => h | exact two_one wr _ (.string (E (p + d)).text) 9
            case c2 => first | rfl | (intro u hu; simp at hu; subst hu; rfl)
            case c3 => unfold maxLen; omega
            case c4 => omega
            case c5 => first | omega | (simp; omega)
            intro v' w' hown' hg
            have hb' := below_grown (b1.alloc (by simp; omega) _) ((hown.alloc _).alloc _) hg (by simp; omega)
            rw [← List.map_singleton (f := strV) (a := (E (p + d)).text), ← List.map_append] at hown'
            clear hown hg
            go_wp2_with fail
            go_roundw
            case rel => exact ⟨i + 1, nm ++ [(E (p + d)).text], by omega, by go_num, HM.out, by simpa using hown', hb'⟩
            case measure => simp [intOf]; omega
          · have q6 : ((E (p + d)).kind != 6) = true := by simp [hq]
            have q7 : ((E (p + d)).kind != 7) = false := by simp [hq]
            clear hq
            clear hkp hsp hL
            go_wp2_with (first
              | (at_builtin; refine app_own _ rfl _ _ 24 rfl w.heap.size 9 (.string ⟨#[]⟩) 16 Tryz.underlying24 info9 rfl _ _ _ rfl ((hown.alloc _).alloc _) ⟨wr.heap.size + 1, 0, none⟩ 1 1 [strV (E (p + d)).text] rfl rfl ?c1 ?c2 ?c3 ?c4 ?c5 ?_)
              | go_in)
            case c1 => first | exact fun j u h => h | exact two_one wr _ (.string (E (p + d)).text) 9
            case c2 => first | rfl | (intro u hu; simp at hu; subst hu; rfl)
            case c3 => unfold maxLen; omega
            case c4 => omega
            case c5 => first | omega | (simp; omega)
            intro v' w' hown' hg
            have hb' := below_grown (b1.alloc (by simp; omega) _) ((hown.alloc _).alloc _) hg (by simp; omega)
            rw [← List.map_singleton (f := strV) (a := (E (p + d)).text), ← List.map_append] at hown'
            clear hown hg
            go_wp2_with fail
            go_roundw
            case rel => exact ⟨i + 1, nm ++ [(E (p + d)).text], by omega, by go_num, HM.out, by simpa using hown', hb'⟩
            case measure => simp [intOf]; omega
          · have q15 : ((E (p + d)).kind != 15) = false := by simp [hq]
            clear hq
            clear hkp hsp hL
            go_wp2_with (first
              | (at_builtin; refine app_own _ rfl _ _ 24 rfl w.heap.size 9 (.string ⟨#[]⟩) 16 Tryz.underlying24 info9 rfl _ _ _ rfl ((hown.alloc _).alloc _) ⟨wr.heap.size + 1, 0, none⟩ 1 1 [strV (E (p + d)).text] rfl rfl ?c1 ?c2 ?c3 ?c4 ?c5 ?_)
              | go_in)
            case c1 => first | exact fun j u h => h | exact two_one wr _ (.string (E (p + d)).text) 9
            case c2 => first | rfl | (intro u hu; simp at hu; subst hu; rfl)
            case c3 => unfold maxLen; omega
            case c4 => omega
            case c5 => first | omega | (simp; omega)
            intro v' w' hown' hg
            have hb' := below_grown (b1.alloc (by simp; omega) _) ((hown.alloc _).alloc _) hg (by simp; omega)
            rw [← List.map_singleton (f := strV) (a := (E (p + d)).text), ← List.map_append] at hown'
            clear hown hg
            go_wp2_with fail
            go_roundw
            case rel => exact ⟨i + 1, nm ++ [(E (p + d)).text], by omega, by go_num, HM.out, by simpa using hown', hb'⟩
            case measure => simp [intOf]; omega
        | false =>
          have HN : Hid (kindsL k (ps.map E) = false) := HFD.out.no hlt (by rw [hL, hd]; exact hkp)
          rcases special_cases hsp with rfl | ⟨rfl, rfl⟩ | ⟨rfl, rfl⟩
          · have q6 : ((E (p + d)).kind != 6) = true := by simp [kindP, special] at hkp; simp; omega
            have q7 : ((E (p + d)).kind != 7) = true := by simp [kindP, special] at hkp; simp; omega
            clear hkp hsp hL
            go_wp2_with fail
            go_ret
            exact ⟨ret_bool (by rw [HN.out]; rfl), b1⟩
          · have q6 : ((E (p + d)).kind != 6) = true := by simp [kindP, special] at hkp; simp; omega
            have q7 : ((E (p + d)).kind != 7) = true := by simp [kindP, special] at hkp; simp; omega
            clear hkp hsp hL
            go_wp2_with fail
            go_ret
            exact ⟨ret_bool (by rw [HN.out]; rfl), b1⟩
          · have q15 : ((E (p + d)).kind != 15) = true := by simp [kindP, special] at hkp; simp; omega
            clear hkp hsp hL
            go_wp2_with fail
            go_ret
            exact ⟨ret_bool (by rw [HN.out]; rfl), b1⟩
      | false =>
        cases hkp : kindP k L (E (p + d)) with
        | true =>
          have HM : Hid (Found E ps k (i + 1) nm) := HFD.out.plain hlt (by rw [hL]; exact hsp) (by rw [hL, hd]; exact hkp)
          have hx : exprK (E (p + d)).kind = true := by rw [kindP, if_neg (by simp [hsp])] at hkp; exact hkp
          rcases plain_cases hsp with ⟨rfl, rfl⟩ | ⟨rfl, rfl⟩ | ⟨n5, n8, n14⟩
          · clear hkp hsp hL
            go_wp2_with (go_at_call 25; refine (exprK_any _ _).mono ?_; rw [hx]; rintro e w' ⟨rfl, rfl⟩)
            go_roundw
            case rel => exact ⟨i + 1, nm, by omega, by go_num, HM.out, hown.alloc _, b1⟩
            case measure => simp [intOf]; omega
          · clear hkp hsp hL
            go_wp2_with (go_at_call 25; refine (exprK_any _ _).mono ?_; rw [hx]; rintro e w' ⟨rfl, rfl⟩)
            go_roundw
            case rel => exact ⟨i + 1, nm, by omega, by go_num, HM.out, hown.alloc _, b1⟩
            case measure => simp [intOf]; omega
          · have e5 : (k == 5) = false := by simpa using n5
            have e8 : (k == 8) = false := by simpa using n8
            have e14 : (k == 14) = false := by simpa using n14
            clear hkp hsp hL n5 n8 n14
            go_wp2_with (go_at_call 25; refine (exprK_any _ _).mono ?_; rw [hx]; rintro e w' ⟨rfl, rfl⟩)
            go_roundw
            case rel => exact ⟨i + 1, nm, by omega, by go_num, HM.out, hown.alloc _, b1⟩
            case measure => simp [intOf]; omega
        | false =>
          have HN : Hid (kindsL k (ps.map E) = false) := HFD.out.no hlt (by rw [hL, hd]; exact hkp)
          have hx : exprK (E (p + d)).kind = false := by rw [kindP, if_neg (by simp [hsp])] at hkp; exact hkp
          rcases plain_cases hsp with ⟨rfl, rfl⟩ | ⟨rfl, rfl⟩ | ⟨n5, n8, n14⟩
          · clear hkp hsp hL
            go_wp2_with (go_at_call 25; refine (exprK_any _ _).mono ?_; rw [hx]; rintro e w' ⟨rfl, rfl⟩)
            go_ret
            exact ⟨ret_bool (by rw [HN.out]; rfl), b1⟩
          · clear hkp hsp hL
            go_wp2_with (go_at_call 25; refine (exprK_any _ _).mono ?_; rw [hx]; rintro e w' ⟨rfl, rfl⟩)
            go_ret
            exact ⟨ret_bool (by rw [HN.out]; rfl), b1⟩
          · have e5 : (k == 5) = false := by simpa using n5
            have e8 : (k == 8) = false := by simpa using n8
            have e14 : (k == 14) = false := by simpa using n14
            clear hkp hsp hL n5 n8 n14
            go_wp2_with (go_at_call 25; refine (exprK_any _ _).mono ?_; rw [hx]; rintro e w' ⟨rfl, rfl⟩)
            go_ret
            exact ⟨ret_bool (by rw [HN.out]; rfl), b1⟩
    · have hlt' : ¬ (i : Int) < (ps.length : Int) := by omega
      obtain rfl : i = ps.length := by omega
      obtain ⟨hkt, hnn⟩ := HFD.out.done
      have HG : Hid ((kindsL k (ps.map E) && decide (namesL k (ps.map E)).Nodup) = decide (nm.map bytesOf).Nodup) := by show _ = _; rw [hkt, hnn, Bool.true_and]
      clear hkt hnn HFD
      obtain ⟨hnl, an, cn, rfl, hcn, _, hPn⟩ := PsB.own hown
      obtain ⟨b2, o2, han, hPn⟩ := hPn
      have han' : nm.length = 0 ∨ an = some ⟨b2, o2, none⟩ := by simpa using han
      have hnc : ∀ i, i < nm.length → wr.cell? ⟨b2, o2 + i, none⟩ = some (.string (nmAt nm i)) := fun i h => hPn i _ (by simp [h, nmAt, strV])
      clear hPn han hnl hown
      go_wp2_with fail
      go_loopw [11, 12] (fun x _ wq => ∃ (i q : Nat), i ≤ nm.length ∧ x = .int .i64 (i : Int) ∧ Dis nm i ∧ wq = wr.drewN q) (fun x _ _ => nm.length - (intOf x).toNat)
      case atStart => exact ⟨0, 0, Nat.zero_le _, rfl, fun a c h1 h2 => by omega, rfl⟩
      case round =>
        obtain ⟨i, q, hi, rfl, hdis, rfl⟩ := hrel
        have HD : Hid (Dis nm i) := hdis
        clear hdis
        by_cases h1 : i < nm.length
        · have h1' : (i : Int) < (nm.length : Int) := by omega
          obtain rfl := han'.resolve_left (by omega)
          have ci : (wr.drewN q).cell? ⟨b2, o2 + i, none⟩ = some (.string (nmAt nm i)) := hnc i h1
          go_wp2_with fail
          go_loopw [12] (fun y wz => ∃ (j q2 : Nat), j ≤ i ∧ y = .int .i64 (j : Int) ∧ (∀ a, a < j → bytesOf (nmAt nm a) ≠ bytesOf (nmAt nm i)) ∧ wz = wr.drewN q2) (fun y _ => i - (intOf y).toNat)
          case atStart => exact ⟨0, q, Nat.zero_le _, rfl, fun a h => by omega, rfl⟩
          case round =>
            obtain ⟨j, q2, hj, rfl, hno, rfl⟩ := hrel
            have HO : Hid (∀ a, a < j → bytesOf (nmAt nm a) ≠ bytesOf (nmAt nm i)) := hno
            clear hno
            by_cases h2 : j < i
            · have h2' : (j : Int) < (i : Int) := by omega
              have h2n : (j : Int) < (nm.length : Int) := by omega
              have cj : wr.cell? ⟨b2, o2 + j, none⟩ = some (.string (nmAt nm j)) := hnc j (by omega)
              have ci' : wr.cell? ⟨b2, o2 + i, none⟩ = some (.string (nmAt nm i)) := hnc i h1
              clear ci
              cases he : ((nmAt nm i).toList == (nmAt nm j).toList) with
              | true =>
                have HX : Hid (decide (nm.map bytesOf).Nodup = false) := dis_no h1 h2 (by simpa [ByteArray.toList_eq, bytesOf] using he)
                go_wp2_with fail
                go_quiet (fail)
                go_wp2_with fail
                go_ret
                exact ⟨ret_bool (by rw [HG.out, HX.out]), by first | exact Go.below_drewN hbel _ | exact Go.below_drewN (Go.below_drewN hbel _) _⟩
              | false =>
                have HX : Hid (bytesOf (nmAt nm j) ≠ bytesOf (nmAt nm i)) := by
                  intro e
                  have : ((nmAt nm i).toList == (nmAt nm j).toList) = true := by simpa [ByteArray.toList_eq, bytesOf] using e.symm
                  rw [he] at this
                  cases this
                go_wp2_with fail
                go_quiet (fail)
                go_wp2_with fail
                go_roundw
                case rel => exact ⟨j + 1, _, by omega, by go_num, fun a ha => by
                  rcases Nat.lt_or_ge a j with h | h
                  · exact HO.out a h
                  · obtain rfl : a = j := by omega
                    exact HX.out, rfl⟩
                case measure => simp [intOf]; omega
            · have h2' : ¬ (j : Int) < (i : Int) := by omega
              obtain rfl : j = i := by omega
              go_wp2_with fail
              go_roundw
              case rel => exact ⟨j + 1, _, by omega, by go_num, fun a c hac hcj => by
                rcases Nat.lt_or_ge c j with h | h
                · exact HD.out a c hac h
                · obtain rfl : c = j := by omega
                  exact HO.out a hac, rfl⟩
              case measure => simp [intOf]; omega
        · have h1' : ¬ (i : Int) < (nm.length : Int) := by omega
          obtain rfl : i = nm.length := by omega
          have HX : Hid (decide (nm.map bytesOf).Nodup = true) := dis_yes HD.out
          go_wp2_with fail
          go_ret
          exact ⟨ret_bool (by rw [HG.out, HX.out]), Go.below_drewN hbel _⟩

end Go.Proofs.YthklplfpnciodaaGreatDoor.ex
