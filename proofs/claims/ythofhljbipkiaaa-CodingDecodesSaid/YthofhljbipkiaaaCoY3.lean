import Derived.Test.YthofhljbipkiaaaCoY1
namespace Go.Proofs.Ythofhljbipkiaaa.Co
open Go.RowKit
open Go.Proofs.Ythofhljbipkiaaa.Tp
set_option linter.unusedVariables false


set_option maxRecDepth 100000 in
set_option maxHeartbeats 8000000 in
theorem refesc_dec (v : Value) (bs : List Nat) (w : World) (h : By w v bs) (hn : bs.length ≤ 1000000) : Calls Try.prog 54 #[v] w (OptPost (um 92 eR bs) w) := by
  have HBY := Lib.hid h
  have hle := h.1
  have HLE := Lib.hid hle
  obtain ⟨D, cp, rfl⟩ := h.form
  obtain ⟨n, hL⟩ : ∃ n, bs.length = n := ⟨_, rfl⟩
  rw [hL] at hn ⊢
  have HL := Lib.hid hL
  clear h hle hL
  go_enter Try.func54, Try.ntmps54
  go_wp2_with fail
  go_loopw [4, 5] (fun u i wr => ∃ (k : Nat) (xs : List Nat), k ≤ n ∧ i = .int .i64 (k : Int) ∧ ERel w xs u wr ∧ xs.length ≤ k ∧ um 92 eR bs = (um 92 eR (bs.drop k)).map (xs ++ ·)) (fun _ i _ => n - (intOf i).toNat)
  case atStart => exact ⟨0, [], by omega, rfl, ERel.start w, by simp, by simp⟩
  case round =>
    obtain ⟨k, xs, hk, rfl, hrel, hlen, hval⟩ := hrel
    have HR := Lib.hid hrel
    have hbw := hrel.2.size
    have HV := Lib.hid hval
    clear hrel hval
    by_cases hlt : k < n
    · obtain ⟨hln, p0, off, rfl, hp0, hcl⟩ := HBY.out.at_ (by rw [HL.out]; omega)
      obtain ⟨k1, e1⟩ : ∃ k1, k + 1 = k1 := ⟨_, rfl⟩
      obtain ⟨k2, e2⟩ : ∃ k2, k1 + 1 = k2 := ⟨_, rfl⟩
      obtain ⟨k3, e3⟩ : ∃ k3, k1 + 2 = k3 := ⟨_, rfl⟩
      obtain ⟨k4, e4⟩ : ∃ k4, k3 + 1 = k4 := ⟨_, rfl⟩
      have i1 : (k : Int) + 1 = (k1 : Int) := by omega
      have i2 : (k1 : Int) + 1 = (k2 : Int) := by omega
      have i3 : (k1 : Int) + 2 = (k3 : Int) := by omega
      have i4 : (k3 : Int) + 1 = (k4 : Int) := by omega
      have w1 : IntKind.i64.wrap (k1 : Int) = (k1 : Int) := IntWalk.i64_in _ (by omega)
      have w2 : IntKind.i64.wrap (k2 : Int) = (k2 : Int) := IntWalk.i64_in _ (by omega)
      have w3 : IntKind.i64.wrap (k3 : Int) = (k3 : Int) := IntWalk.i64_in _ (by omega)
      have w4 : IntKind.i64.wrap (k4 : Int) = (k4 : Int) := IntWalk.i64_in _ (by omega)
      have hki : (k : Int) < (n : Int) := by omega
      have c0 := hcl _ HR.out.2 k (by rw [HL.out]; omega)
      have HD1 := Lib.hid (show bs.drop k = bs.getD k 0 :: bs.drop k1 by rw [drop_cons (k := k) (by rw [HL.out]; omega), e1])
      generalize bs.getD k 0 = b at *
      by_cases hb92 : b = 92
      · subst hb92
        by_cases hend : n ≤ k1
        · have hbi : (n : Int) ≤ (k1 : Int) := by omega
          have HF : Hid (um 92 eR bs = none) := by
            show _ = _
            rw [HV.out, HD1.out, List.drop_eq_nil_of_le (show bs.length ≤ k1 by rw [HL.out]; omega), um_none rfl]
            rfl
          clear hcl hln
          go_wp2_with fail
          go_ret2
          exact ⟨by rw [HF]; rfl, HR.out.2⟩
        · have hbi : ¬ (n : Int) ≤ (k1 : Int) := by omega
          have hk1i : (k1 : Int) < (n : Int) := by omega
          have c1 := hcl _ HR.out.2 k1 (by rw [HL.out]; omega)
          have HD2 := Lib.hid (show bs.drop k = 92 :: bs.getD k1 0 :: bs.drop k2 by rw [HD1.out, drop_cons (k := k1) (by rw [HL.out]; omega), e2])
          generalize bs.getD k1 0 = c at *
          by_cases hc110 : c = 110
          · subst hc110
            have HF : Hid (um 92 eR bs = (um 92 eR (bs.drop k2)).map ((xs ++ [10]) ++ ·)) := by
              show _ = _
              rw [HV.out, HD2.out, um_some (c := 10) (n := 1) rfl, show List.drop 1 (110 :: bs.drop k2) = bs.drop k2 from rfl, Option.map_map]
              congr 1
              funext z
              simp
            clear hcl hln
            go_wp2_with (at_builtin; refine wp_lit (by rfl) (.tmp 36) (.tmp 37) (by rfl) w.heap.size u4 xs [10] (by rfl) (by rfl) (by rfl) HR.out.1 (by simp; omega) hbw ?_; intro v' w3 hown hgr; have HO := Lib.hid (HR.out.more (box_below _ _) hown hgr); clear hown hgr)
            exact ⟨⟨k2, xs ++ [10], by omega, by go_num, HO.out, by simp; omega, HF⟩, by simp [intOf]; omega⟩
          by_cases hc114 : c = 114
          · subst hc114
            have HF : Hid (um 92 eR bs = (um 92 eR (bs.drop k2)).map ((xs ++ [13]) ++ ·)) := by
              show _ = _
              rw [HV.out, HD2.out, um_some (c := 13) (n := 1) rfl, show List.drop 1 (114 :: bs.drop k2) = bs.drop k2 from rfl, Option.map_map]
              congr 1
              funext z
              simp
            clear hcl hln
            go_wp2_with (at_builtin; refine wp_lit (by rfl) (.tmp 41) (.tmp 42) (by rfl) w.heap.size u4 xs [13] (by rfl) (by rfl) (by rfl) HR.out.1 (by simp; omega) hbw ?_; intro v' w3 hown hgr; have HO := Lib.hid (HR.out.more (box_below _ _) hown hgr); clear hown hgr)
            exact ⟨⟨k2, xs ++ [13], by omega, by go_num, HO.out, by simp; omega, HF⟩, by simp [intOf]; omega⟩
          by_cases hc116 : c = 116
          · subst hc116
            have HF : Hid (um 92 eR bs = (um 92 eR (bs.drop k2)).map ((xs ++ [9]) ++ ·)) := by
              show _ = _
              rw [HV.out, HD2.out, um_some (c := 9) (n := 1) rfl, show List.drop 1 (116 :: bs.drop k2) = bs.drop k2 from rfl, Option.map_map]
              congr 1
              funext z
              simp
            clear hcl hln
            go_wp2_with (at_builtin; refine wp_lit (by rfl) (.tmp 46) (.tmp 47) (by rfl) w.heap.size u4 xs [9] (by rfl) (by rfl) (by rfl) HR.out.1 (by simp; omega) hbw ?_; intro v' w3 hown hgr; have HO := Lib.hid (HR.out.more (box_below _ _) hown hgr); clear hown hgr)
            exact ⟨⟨k2, xs ++ [9], by omega, by go_num, HO.out, by simp; omega, HF⟩, by simp [intOf]; omega⟩
          by_cases hc92 : c = 92
          · subst hc92
            have HF : Hid (um 92 eR bs = (um 92 eR (bs.drop k2)).map ((xs ++ [92]) ++ ·)) := by
              show _ = _
              rw [HV.out, HD2.out, um_some (c := 92) (n := 1) rfl, show List.drop 1 (92 :: bs.drop k2) = bs.drop k2 from rfl, Option.map_map]
              congr 1
              funext z
              simp
            clear hcl hln
            go_wp2_with (at_builtin; refine wp_lit (by rfl) (.tmp 51) (.tmp 52) (by rfl) w.heap.size u4 xs [92] (by rfl) (by rfl) (by rfl) HR.out.1 (by simp; omega) hbw ?_; intro v' w3 hown hgr; have HO := Lib.hid (HR.out.more (box_below _ _) hown hgr); clear hown hgr)
            exact ⟨⟨k2, xs ++ [92], by omega, by go_num, HO.out, by simp; omega, HF⟩, by simp [intOf]; omega⟩
          have q1 : ((c : Int) == 110) = false := beq_eq_false_iff_ne.2 (by omega)
          have q2 : ((c : Int) == 114) = false := beq_eq_false_iff_ne.2 (by omega)
          have q3 : ((c : Int) == 116) = false := beq_eq_false_iff_ne.2 (by omega)
          have q4 : ((c : Int) == 92) = false := beq_eq_false_iff_ne.2 (by omega)
          by_cases hc120 : c = 120
          · subst hc120
            by_cases hbig : n ≤ k3
            · have hbj : (n : Int) ≤ (k3 : Int) := by omega
              have hbd : decide ((n : Int) ≤ (k3 : Int)) = true := decide_eq_true hbj
              have hR : eR (120 :: bs.drop k2) = none := by
                have hl : (bs.drop k2).length < 2 := by rw [List.length_drop, HL.out]; omega
                generalize bs.drop k2 = r at *
                match r, hl with
                | [], _ => rfl
                | [_], _ => rfl
                | _ :: _ :: _, hl => simp at hl; omega
              have HF : Hid (um 92 eR bs = none) := by
                show _ = _
                rw [HV.out, HD2.out, um_none hR]
                rfl
              clear hR hcl hln
              go_wp2_with fail
              go_ret2
              exact ⟨by rw [HF]; rfl, HR.out.2⟩
            · have hbj : ¬ (n : Int) ≤ (k3 : Int) := by omega
              have hbd : decide ((n : Int) ≤ (k3 : Int)) = false := decide_eq_false hbj
              have hk2i : (k2 : Int) < (n : Int) := by omega
              have hk3i : (k3 : Int) < (n : Int) := by omega
              have HC2 := Lib.hid (show ∀ w', Below w.heap.size w w' → w'.cell? ⟨p0, off + k2, none⟩ = some (.int .u8 ((bs.getD k2 0 : Nat) : Int)) ∧ w'.cell? ⟨p0, off + k3, none⟩ = some (.int .u8 ((bs.getD k3 0 : Nat) : Int)) from fun w' hw => ⟨hcl w' hw k2 (by rw [HL.out]; omega), hcl w' hw k3 (by rw [HL.out]; omega)⟩)
              obtain ⟨cc1, cc2⟩ := HC2.out _ HR.out.2
              obtain ⟨d1, d2⟩ := HC2.out _ HR.out.2.drew
              have HD := Lib.hid (show bs.drop k = 92 :: 120 :: bs.getD k2 0 :: bs.getD k3 0 :: bs.drop k4 by rw [HD2.out, drop_cons (k := k2) (by rw [HL.out]; omega), show k2 + 1 = k3 by omega, drop_cons (k := k3) (by rw [HL.out]; omega), e4])
              have HOW := Lib.hid (own_bel HR.out.1 ((Below.refl wr.heap.size wr).drew))
              have HBD := Lib.hid ((Below.refl wr.heap.size wr).drew)
              clear hcl hln HD1 HD2
              generalize bs.getD k2 0 = x at *
              generalize bs.getD k3 0 = y at *
              cases hx : hexB x
              · have hR : eR (120 :: x :: y :: bs.drop k4) = none := by
                  show (hxP (x :: y :: bs.drop k4)).map (fun c => (c, 3)) = _
                  rw [hxP, hx]
                  rfl
                have HF : Hid (um 92 eR bs = none) := by
                  show _ = _
                  rw [HV.out, HD.out, um_none hR]
                  rfl
                have CX := Lib.hid (fun w => digit_neg hx w)
                clear hx hR
                go_wp2_with (go_at_call 65; with_reducible refine (CX.out _).mono ?_; rintro e w4 ⟨rfl, rfl⟩)
                go_ret2
                exact ⟨by rw [HF]; rfl, HR.out.2⟩
              · cases hy : hexB y
                · have hR : eR (120 :: x :: y :: bs.drop k4) = none := by
                    show (hxP (x :: y :: bs.drop k4)).map (fun c => (c, 3)) = _
                    rw [hxP, hx, hy]
                    rfl
                  have HF : Hid (um 92 eR bs = none) := by
                    show _ = _
                    rw [HV.out, HD.out, um_none hR]
                    rfl
                  have hp := hv_lt hx
                  have CX := Lib.hid (fun w => digit_pos hx w)
                  have CY := Lib.hid (fun w => digit_neg hy w)
                  clear hx hy hR
                  generalize hv x = p at *
                  have s1 : ¬ (p : Int) < 0 := by omega
                  have s1' : decide ((p : Int) < 0) = false := decide_eq_false s1
                  go_wp2_with (first
                    | (go_at_call 65; with_reducible refine (CX.out _).mono ?_; rintro e w4 ⟨rfl, rfl⟩)
                    | (go_at_call 65; with_reducible refine (CY.out _).mono ?_; rintro e w4 ⟨rfl, rfl⟩))
                  go_ret2
                  exact ⟨by rw [HF]; rfl, HR.out.2⟩
                · have hp := hv_lt hx
                  have hq := hv_lt hy
                  have CX := Lib.hid (fun w => digit_pos hx w)
                  have CY := Lib.hid (fun w => digit_pos hy w)
                  have hR : eR (120 :: x :: y :: bs.drop k4) = some (hv x * 16 + hv y, 3) := by
                    show (hxP (x :: y :: bs.drop k4)).map (fun c => (c, 3)) = _
                    rw [hxP, hx, hy, Bool.and_self, if_pos rfl]
                    rfl
                  have HF : Hid (um 92 eR bs = (um 92 eR (bs.drop k4)).map ((xs ++ [hv x * 16 + hv y]) ++ ·)) := by
                    show _ = _
                    rw [HV.out, HD.out, um_some hR, show List.drop 3 (120 :: x :: y :: bs.drop k4) = bs.drop k4 from rfl, Option.map_map]
                    congr 1
                    funext z
                    simp
                  obtain ⟨z, t, g1, g2, g3, g4, ht, hz, ht2⟩ := hx_nums _ _ hp hq
                  rw [← ht] at HF
                  clear ht hx hy hR
                  generalize hv x = p at *
                  generalize hv y = q at *
                  have s1 : ¬ (p : Int) < 0 := by omega
                  have s2 : ¬ (q : Int) < 0 := by omega
                  have s1' : decide ((p : Int) < 0) = false := decide_eq_false s1
                  have s2' : decide ((q : Int) < 0) = false := decide_eq_false s2
                  go_wp2_with (first
                    | (go_at_call 65; with_reducible refine (CX.out _).mono ?_; rintro e w4 ⟨rfl, rfl⟩)
                    | (go_at_call 65; with_reducible refine (CY.out _).mono ?_; rintro e w4 ⟨rfl, rfl⟩))
                  go_region_held3 (fun w' => w'.cell? ⟨p0, off + k2, none⟩ = some (.int .u8 (x : Int)) ∧ w'.cell? ⟨p0, off + k3, none⟩ = some (.int .u8 (y : Int))) (first | exact ⟨d1, d2⟩ | exact ⟨cell_al d1 _, cell_al d2 _⟩ | assumption) (first
                    | (go_at_call 65; with_reducible refine (CX.out _).mono ?_; rintro e w4 ⟨rfl, rfl⟩)
                    | (go_at_call 65; with_reducible refine (CY.out _).mono ?_; rintro e w4 ⟨rfl, rfl⟩)
                    | (refine step_lit (by rfl) (.tmp 79) (.tmp 95) (by rfl) w.heap.size u4 xs [t] (by rfl) (by rfl) (by rfl) HOW.out (by simp) (by simp; omega) (Nat.le_trans hbw HBD.out.size) ?_; intro v' w3 hown hgr; have HO := Lib.hid (HR.out.more (HBD.out.alloc (Nat.le_refl _) _) hown hgr); clear hown hgr; have hk3c := HC2.out _ HO.out.2))
                  all_goals
                    go_wp2_with fail
                    exact ⟨⟨k4, xs ++ [t], by omega, by go_num, HO.out, by simp; omega, HF⟩, by simp [intOf]; omega⟩
          · have q5 : ((c : Int) == 120) = false := beq_eq_false_iff_ne.2 (by omega)
            have HF : Hid (um 92 eR bs = none) := by
              show _ = _
              rw [HV.out, HD2.out, um_none (by simp [eR, hc110, hc114, hc116, hc92, hc120])]
              rfl
            clear hcl hln
            go_wp2_with fail
            go_ret2
            exact ⟨by rw [HF]; rfl, HR.out.2⟩
      · have hb : ((b : Int) == 92) = false := beq_eq_false_iff_ne.2 (by omega)
        have HF : Hid (um 92 eR bs = (um 92 eR (bs.drop k1)).map ((xs ++ [b]) ++ ·)) := by
          show _ = _
          rw [HV.out, HD1.out, um_off hb92, Option.map_map]
          congr 1
          funext z
          simp
        clear hcl hln
        go_wp2_with (at_builtin; refine wp_lit (by rfl) (.tmp 17) (.tmp 22) (by rfl) w.heap.size u4 xs [b] (by rfl) (by rfl) (by rfl) HR.out.1 (by simp; omega) hbw ?_; intro v' w3 hown hgr; have HO := Lib.hid (HR.out.more (box_below _ _) hown hgr); clear hown hgr)
        exact ⟨⟨k1, xs ++ [b], by omega, by go_num, HO.out, by simp; omega, HF⟩, by simp [intOf]; omega⟩
    · obtain rfl : k = n := by omega
      have HF := Lib.hid (show um 92 eR bs = some xs by rw [HV.out, List.drop_eq_nil_of_le (by rw [HL.out]; exact Nat.le_refl _), um_nil]; simp)
      go_wp2
      go_ret2
      exact ⟨by rw [HF.out]; exact ⟨_, rfl, HR.out⟩, HR.out.2⟩

end Go.Proofs.Ythofhljbipkiaaa.Co
