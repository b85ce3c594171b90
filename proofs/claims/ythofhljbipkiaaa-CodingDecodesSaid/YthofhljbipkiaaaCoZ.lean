import Derived.Test.YthofhljbipkiaaaCoW
namespace Go.Proofs.Ythofhljbipkiaaa.Co
open Go.RowKit
open Go.Proofs.Ythofhljbipkiaaa.Tp
set_option linter.unusedVariables false

theorem and255i (a : Nat) (ha : a < 2 ^ 62) : bits .and .i64 (a : Int) 255 = ((a % 256 : Nat) : Int) := by
  have key : (BitVec.ofInt 64 (a : Int) &&& BitVec.ofInt 64 255).toNat = a % 2 ^ 8 := by
    rw [BitVec.toNat_and, BitVec.ofInt_natCast, BitVec.toNat_ofNat, Nat.mod_eq_of_lt (by omega), show (BitVec.ofInt 64 255).toNat = 2 ^ 8 - 1 by decide, Nat.and_two_pow_sub_one_eq_mod]
  show IntKind.i64.wrap ((BitVec.ofInt 64 (a : Int) &&& BitVec.ofInt 64 255).toNat : Nat) = _
  rw [key, IntKind.wrap_i64]
  have := Nat.mod_lt a (show 0 < 2 ^ 8 by decide)
  omega

set_option maxRecDepth 100000 in
set_option maxHeartbeats 8000000 in
theorem refb64_dec (v : Value) (bs : List Nat) (w : World) (h : By w v bs) (hn : bs.length ≤ 1000000) : Calls Try.prog 52 #[v] w (OptPost (b64D bs) w) := by
  have HBY := Lib.hid h
  have hle := h.1
  have HLE := Lib.hid hle
  obtain ⟨D, cp, rfl⟩ := h.form
  obtain ⟨n, hL⟩ : ∃ n, bs.length = n := ⟨_, rfl⟩
  rw [hL] at hn ⊢
  have HL := Lib.hid hL
  clear h hle hL
  by_cases h4 : n % 4 = 0
  · have hm : (n : Int).tmod 4 = 0 := by rw [Int.tmod_eq_emod_of_nonneg (by omega)]; omega
    have hm2 : (n : Int) % 4 = 0 := by omega
    go_enter Try.func52, Try.ntmps52
    go_wp2_with fail
    go_loopw [4, 5] (fun u i wr => ∃ (k : Nat) (xs : List Nat), k ≤ n ∧ k % 4 = 0 ∧ i = .int .i64 (k : Int) ∧ ERel w xs u wr ∧ xs.length ≤ k ∧ b64D bs = (b64D (bs.drop k)).map (xs ++ ·)) (fun _ i _ => n - (intOf i).toNat)
    case atStart => exact ⟨0, [], by omega, rfl, rfl, ERel.start w, by simp, by simp⟩
    case round =>
      obtain ⟨k, xs, hk, hk4, rfl, hrel, hlen, hval⟩ := hrel
      have HR := Lib.hid hrel
      have hbw := hrel.2.size
      have HV := Lib.hid hval
      clear hrel hval
      by_cases hlt : k < n
      · obtain ⟨hln, p0, off, rfl, hp0, hcl⟩ := HBY.out.at_ (by rw [HL.out]; omega)
        have HCL := Lib.hid hcl
        obtain ⟨k2, e2⟩ : ∃ k2, k + 2 = k2 := ⟨_, rfl⟩
        obtain ⟨k3, e3⟩ : ∃ k3, k + 3 = k3 := ⟨_, rfl⟩
        obtain ⟨k4, e4⟩ : ∃ k4, k + 4 = k4 := ⟨_, rfl⟩
        have i2 : (k : Int) + 2 = (k2 : Int) := by omega
        have i3 : (k : Int) + 3 = (k3 : Int) := by omega
        have i4 : (k : Int) + 4 = (k4 : Int) := by omega
        have w2 : IntKind.i64.wrap (k2 : Int) = (k2 : Int) := IntWalk.i64_in _ (by omega)
        have w3 : IntKind.i64.wrap (k3 : Int) = (k3 : Int) := IntWalk.i64_in _ (by omega)
        have w4 : IntKind.i64.wrap (k4 : Int) = (k4 : Int) := IntWalk.i64_in _ (by omega)
        have hki : (k : Int) < (n : Int) := by omega
        have hk2i : (k2 : Int) < (n : Int) := by omega
        have hk3i : (k3 : Int) < (n : Int) := by omega
        have c2 := hcl _ HR.out.2 k2 (by rw [HL.out]; omega)
        have c3 := hcl _ HR.out.2 k3 (by rw [HL.out]; omega)
        have HD0 : bs.drop k = bs.getD k 0 :: bs.getD (k + 1) 0 :: bs.getD k2 0 :: bs.getD k3 0 :: bs.drop k4 := by rw [drop_cons (k := k) (by rw [HL.out]; omega), drop_cons (k := k + 1) (by rw [HL.out]; omega), show k + 1 + 1 = k2 by omega, drop_cons (k := k2) (by rw [HL.out]; omega), show k2 + 1 = k3 by omega, drop_cons (k := k3) (by rw [HL.out]; omega), show k3 + 1 = k4 by omega]
        obtain ⟨a, ha⟩ : ∃ a, bs.getD (k + 0) 0 = a := ⟨_, rfl⟩
        obtain ⟨b, hb⟩ : ∃ b, bs.getD (k + 1) 0 = b := ⟨_, rfl⟩
        obtain ⟨c, hc⟩ : ∃ c, bs.getD (k + 2) 0 = c := ⟨_, rfl⟩
        obtain ⟨d, hd⟩ : ∃ d, bs.getD (k + 3) 0 = d := ⟨_, rfl⟩
        rw [show bs.getD k 0 = a from ha, hb, show bs.getD k2 0 = c by rw [← e2]; exact hc, show bs.getD k3 0 = d by rw [← e3]; exact hd] at HD0
        rw [show bs.getD k2 0 = c by rw [← e2]; exact hc] at c2
        rw [show bs.getD k3 0 = d by rw [← e3]; exact hd] at c3
        have HD := Lib.hid HD0
        clear hcl hln HD0
        by_cases hkn : k4 = n
        · have hq : ((k4 : Int) == (n : Int)) = true := beq_iff_eq.2 (by omega)
          by_cases hd61 : d = 61
          · by_cases hc61 : c = 61
            · have eg : gN c d = 2 := by unfold gN; rw [if_pos hd61, if_pos hc61]
              have dq : ((d : Int) == 61) = true := beq_iff_eq.2 (by omega)
              have cq : ((c : Int) == 61) = true := beq_iff_eq.2 (by omega)
              have HN : Hid ([a, b].all sgB = false → b64D bs = none) := fun hf => by
                rw [HV.out, HD.out, b64D]
                split
                · rfl
                · rw [eg, show List.take 2 [a, b, c, d] = [a, b] from rfl, show grpB [a, b] = none by unfold grpB; rw [hf]; rfl]
                  rfl
              have HG : Hid ([a, b].all sgB = true → b64D bs = match grpB [a, b] with | none => none | some g => (b64D (bs.drop k4)).map ((xs ++ g) ++ ·)) := fun hf => by
                rw [HV.out, HD.out, b64D, if_neg (by rw [eg]; first | omega | (rw [List.length_drop, HL.out]; omega)), eg, show List.take 2 [a, b, c, d] = [a, b] from rfl]
                cases grpB [a, b] with
                | none => rfl
                | some g =>
                  show Option.map _ (Option.map _ _) = _
                  rw [Option.map_map]
                  congr 1
                  funext z
                  simp
              have HLJ := Lib.hid (show ∀ j, j < 2 → [a, b].getD j 0 = bs.getD (k + j) 0 from fun j hj => by
                rcases (by omega : j = 0 ∨ j = 1) with rfl | rfl
                · exact ha.symm
                · exact hb.symm)
              clear ha hb hc hd
              generalize hl : [a, b] = l at *
              have hll : l.length = 2 := by rw [← hl]; rfl
              have HLL := Lib.hid hll
              clear hll hl
              go_wp2_with fail
              go_loopw [7, 8] (fun x i w3 => w3 = wr ∧ ∃ j : Nat, j ≤ 4 ∧ i = .int .i64 (j : Int) ∧ x = .int .i64 (vTo l j : Nat) ∧ ∀ m, m < j → m < l.length → sgB (l.getD m 0) = true) (fun _ i _ => 4 - (intOf i).toNat)
              case atStart => exact ⟨rfl, 0, by omega, rfl, rfl, fun m hm => by omega⟩
              case round =>
                obtain ⟨rfl, j, hj, rfl, rfl, hall⟩ := hrel
                have HALL := Lib.hid hall
                have hV := vTo_lt j hall
                clear hall
                by_cases hjl : j < 4
                · have hji : (j : Int) < 4 := by omega
                  have hpw : 64 ^ j ≤ 64 ^ 3 := Nat.pow_le_pow_right (by decide) (by omega)
                  obtain ⟨V, hVV⟩ : ∃ V, vTo l j = V := ⟨_, rfl⟩
                  rw [hVV] at hV ⊢
                  have hV3 : V < 262144 := by omega
                  clear hV hpw
                  obtain ⟨V6, hV6⟩ : ∃ V6, V * 64 = V6 := ⟨_, rfl⟩
                  have g1 : (V : Int) * 64 = (V6 : Int) := by omega
                  have g2 : IntKind.i64.wrap (V6 : Int) = (V6 : Int) := IntWalk.i64_in _ (by omega)
                  have HS := Lib.hid (show vTo l (j + 1) = V6 + (if j < l.length then sv (l.getD j 0) else 0) by simp only [vTo]; rw [hVV, hV6])
                  clear hVV
                  by_cases hjn : j < 2
                  · have hjn2 : (j : Int) < 2 := by omega
                    obtain ⟨kj, hkj⟩ : ∃ kj, k + j = kj := ⟨_, rfl⟩
                    have g3 : (k : Int) + (j : Int) = (kj : Int) := by omega
                    have g4 : IntKind.i64.wrap (kj : Int) = (kj : Int) := IntWalk.i64_in _ (by omega)
                    have g5 : (kj : Int) < (n : Int) := by omega
                    have hcell := HCL.out _ HR.out.2 kj (by rw [HL.out]; omega)
                    have HQ := Lib.hid (show bs.getD kj 0 = l.getD j 0 by rw [← hkj]; exact (HLJ.out j hjn).symm)
                    generalize bs.getD kj 0 = q at *
                    cases hsg : sgB q
                    · have HF : Hid (b64D bs = none) := HN.out (not_all (P := sgB) (k := j) (by rw [HLL.out]; exact hjn) (by rw [← HQ.out]; exact hsg))
                      have cx := fun w => sign_any q w
                      rw [show sgV q = -1 from if_neg (by rw [hsg]; decide)] at cx
                      have CX := Lib.hid cx
                      clear cx
                      go_wp2_with (go_at_call 66; refine (CX.out _).mono ?_; rintro e w1 ⟨rfl, rfl⟩)
                      go_ret2
                      exact ⟨by rw [HF]; rfl, HR.out.2⟩
                    · have hq := sv_lt hsg
                      have hall2 : ∀ m, m < j + 1 → m < l.length → sgB (l.getD m 0) = true := fun m hm hml => by
                        by_cases hmj : m < j
                        · exact HALL.out m hmj hml
                        · obtain rfl : m = j := by omega
                          rw [← HQ.out]
                          exact hsg
                      have HA2 := Lib.hid hall2
                      have hHS := HS.out
                      rw [if_pos (by rw [HLL.out]; exact hjn), ← HQ.out] at hHS
                      have HS2 := Lib.hid hHS
                      have cx := fun w => sign_any q w
                      rw [show sgV q = (sv q : Int) from if_pos hsg] at cx
                      have CX := Lib.hid cx
                      clear hall2 hHS cx
                      generalize sv q = r at *
                      have g6 : ¬ (r : Int) < 0 := by omega
                      have g7 : bits .or .i64 (V6 : Int) (r : Int) = ((V6 + r : Nat) : Int) := or_i64 _ _ 6 (by omega) ⟨V, by omega⟩ (by omega)
                      obtain ⟨V7, hV7⟩ : ∃ V7, V6 + r = V7 := ⟨_, rfl⟩
                      rw [hV7] at g7 HS2
                      go_wp2_with (go_at_call 66; refine (CX.out _).mono ?_; rintro e w1 ⟨rfl, rfl⟩)
                      exact ⟨⟨trivial, j + 1, by omega, by go_num, by rw [HS2.out], HA2.out⟩, by simp [intOf]; omega⟩
                  · have hjn2 : ¬ (j : Int) < 2 := by omega
                    have hHS := HS.out
                    rw [if_neg (by rw [HLL.out]; exact hjn)] at hHS
                    have HS2 := Lib.hid (hHS.trans (Nat.add_zero V6))
                    clear hHS
                    have g7 : bits .or .i64 (V6 : Int) 0 = (V6 : Int) := by
                      have := or_i64 V6 0 0 (by decide) ⟨V6, by omega⟩ (by omega)
                      simpa using this
                    go_wp2_with fail
                    exact ⟨⟨trivial, j + 1, by omega, by go_num, by rw [HS2.out], fun m hm hml => HALL.out m (by rw [HLL.out] at hml; omega) hml⟩, by simp [intOf]; omega⟩
                · obtain rfl : j = 4 := by omega
                  have hV4 : vTo l 4 < 16777216 := hV
                  have hsa : l.all sgB = true := by
                    rw [List.all_eq_true]
                    intro y hy
                    obtain ⟨m, hm, rfl⟩ := List.mem_iff_getElem.1 hy
                    have := HALL.out m (by rw [HLL.out] at hm; omega) hm
                    rw [List.getD_eq_getElem?_getD, List.getElem?_eq_getElem hm] at this
                    exact this
                  have hG2 := HG.out hsa
                  rw [show grpB l = if ([vTo l 4 / 65536, vTo l 4 / 256 % 256, vTo l 4 % 256].drop 1).all (· == 0) then some ([vTo l 4 / 65536, vTo l 4 / 256 % 256, vTo l 4 % 256].take 1) else none by unfold grpB; rw [hsa, if_pos rfl, HLL.out]] at hG2
                  have HG2 := Lib.hid hG2
                  clear hsa hV hG2 HG HN
                  generalize vTo l 4 = V at *
                  obtain ⟨y0, hy0⟩ : ∃ y0, V / 65536 = y0 := ⟨_, rfl⟩
                  obtain ⟨y1, hy1⟩ : ∃ y1, V / 256 = y1 := ⟨_, rfl⟩
                  obtain ⟨z1, hz1⟩ : ∃ z1, V / 256 % 256 = z1 := ⟨_, rfl⟩
                  obtain ⟨z2, hz2⟩ : ∃ z2, V % 256 = z2 := ⟨_, rfl⟩
                  have f0 : (V : Int) / 65536 = (y0 : Int) := by omega
                  have f1 : (V : Int) / 256 = (y1 : Int) := by omega
                  have f2 : IntKind.u8.wrap (y0 : Int) = (y0 : Int) := by rw [IntKind.wrap_u8]; omega
                  have f3 : IntKind.u8.wrap (y1 : Int) = (z1 : Int) := by rw [IntKind.wrap_u8]; omega
                  have f4 : IntKind.u8.wrap (V : Int) = (z2 : Int) := by rw [IntKind.wrap_u8]; omega
                  rw [hy0, hz1, hz2] at HG2
                  have b0 : y0 ≤ 255 := by omega
                  have b1 : z1 ≤ 255 := by omega
                  have b2 : z2 ≤ 255 := by omega
                  have HBX := Lib.hid (box_below wr (.cells #[.int .u8 (y0 : Int), .int .u8 (z1 : Int), .int .u8 (z2 : Int)] 5))
                  have HBT := Lib.hid (by_take (W := wr) b0 b1 b2 1 (by omega))
                  have HO1 := Lib.hid (own_bel HR.out.1 HBX.out)
                  obtain ⟨z3, hz3⟩ : ∃ z3, V % 65536 = z3 := ⟨_, rfl⟩
                  have a1 : bits .and .i64 (V : Int) 65535 = (z3 : Int) := by rw [and_65535]; omega
                  by_cases h0 : z3 = 0
                  · obtain rfl : z1 = 0 := by omega
                    obtain rfl : z2 = 0 := by omega
                    subst h0
                    have HF : Hid (b64D bs = (b64D (bs.drop k4)).map ((xs ++ [y0, 0, 0].take 1) ++ ·)) := HG2.out
                    clear hy0 hy1 hz1 hz2 hz3
                    go_wp2_with (at_builtin; refine wp_by (by rfl) (.tmp 75) (.tmp 87) (by rfl) w.heap.size u4 _ xs ([y0, 0, 0].take 1) (by rfl) (by rfl) HO1.out HBT.out (by simp) (by simp; omega) (Nat.le_trans hbw HBX.out.size) ?_; intro v' w3 hown hgr; have HO := Lib.hid (HR.out.more HBX.out hown hgr); clear hown hgr)
                    exact ⟨⟨k4, xs ++ [y0, 0, 0].take 1, by omega, by omega, by go_num, HO.out, by simp; omega, HF⟩, by simp [intOf]; omega⟩
                  · have a2 : ((z3 : Int) == 0) = false := beq_eq_false_iff_ne.2 (by omega)
                    have HF : Hid (b64D bs = none) := by
                      have := HG2.out
                      rw [if_neg (by simp; omega)] at this
                      exact this
                    clear hy0 hy1 hz1 hz2 hz3
                    go_wp2_with fail
                    go_ret2
                    exact ⟨by rw [HF]; rfl, HR.out.2⟩
            · have eg : gN c d = 3 := by unfold gN; rw [if_pos hd61, if_neg hc61]
              have dq : ((d : Int) == 61) = true := beq_iff_eq.2 (by omega)
              have cq : ((c : Int) == 61) = false := beq_eq_false_iff_ne.2 (by omega)
              have HN : Hid ([a, b, c].all sgB = false → b64D bs = none) := fun hf => by
                rw [HV.out, HD.out, b64D]
                split
                · rfl
                · rw [eg, show List.take 3 [a, b, c, d] = [a, b, c] from rfl, show grpB [a, b, c] = none by unfold grpB; rw [hf]; rfl]
                  rfl
              have HG : Hid ([a, b, c].all sgB = true → b64D bs = match grpB [a, b, c] with | none => none | some g => (b64D (bs.drop k4)).map ((xs ++ g) ++ ·)) := fun hf => by
                rw [HV.out, HD.out, b64D, if_neg (by rw [eg]; first | omega | (rw [List.length_drop, HL.out]; omega)), eg, show List.take 3 [a, b, c, d] = [a, b, c] from rfl]
                cases grpB [a, b, c] with
                | none => rfl
                | some g =>
                  show Option.map _ (Option.map _ _) = _
                  rw [Option.map_map]
                  congr 1
                  funext z
                  simp
              have HLJ := Lib.hid (show ∀ j, j < 3 → [a, b, c].getD j 0 = bs.getD (k + j) 0 from fun j hj => by
                rcases (by omega : j = 0 ∨ j = 1 ∨ j = 2) with rfl | rfl | rfl
                · exact ha.symm
                · exact hb.symm
                · exact hc.symm)
              clear ha hb hc hd
              generalize hl : [a, b, c] = l at *
              have hll : l.length = 3 := by rw [← hl]; rfl
              have HLL := Lib.hid hll
              clear hll hl
              go_wp2_with fail
              go_loopw [7, 8] (fun x i w3 => w3 = wr ∧ ∃ j : Nat, j ≤ 4 ∧ i = .int .i64 (j : Int) ∧ x = .int .i64 (vTo l j : Nat) ∧ ∀ m, m < j → m < l.length → sgB (l.getD m 0) = true) (fun _ i _ => 4 - (intOf i).toNat)
              case atStart => exact ⟨rfl, 0, by omega, rfl, rfl, fun m hm => by omega⟩
              case round =>
                obtain ⟨rfl, j, hj, rfl, rfl, hall⟩ := hrel
                have HALL := Lib.hid hall
                have hV := vTo_lt j hall
                clear hall
                by_cases hjl : j < 4
                · have hji : (j : Int) < 4 := by omega
                  have hpw : 64 ^ j ≤ 64 ^ 3 := Nat.pow_le_pow_right (by decide) (by omega)
                  obtain ⟨V, hVV⟩ : ∃ V, vTo l j = V := ⟨_, rfl⟩
                  rw [hVV] at hV ⊢
                  have hV3 : V < 262144 := by omega
                  clear hV hpw
                  obtain ⟨V6, hV6⟩ : ∃ V6, V * 64 = V6 := ⟨_, rfl⟩
                  have g1 : (V : Int) * 64 = (V6 : Int) := by omega
                  have g2 : IntKind.i64.wrap (V6 : Int) = (V6 : Int) := IntWalk.i64_in _ (by omega)
                  have HS := Lib.hid (show vTo l (j + 1) = V6 + (if j < l.length then sv (l.getD j 0) else 0) by simp only [vTo]; rw [hVV, hV6])
                  clear hVV
                  by_cases hjn : j < 3
                  · have hjn2 : (j : Int) < 3 := by omega
                    obtain ⟨kj, hkj⟩ : ∃ kj, k + j = kj := ⟨_, rfl⟩
                    have g3 : (k : Int) + (j : Int) = (kj : Int) := by omega
                    have g4 : IntKind.i64.wrap (kj : Int) = (kj : Int) := IntWalk.i64_in _ (by omega)
                    have g5 : (kj : Int) < (n : Int) := by omega
                    have hcell := HCL.out _ HR.out.2 kj (by rw [HL.out]; omega)
                    have HQ := Lib.hid (show bs.getD kj 0 = l.getD j 0 by rw [← hkj]; exact (HLJ.out j hjn).symm)
                    generalize bs.getD kj 0 = q at *
                    cases hsg : sgB q
                    · have HF : Hid (b64D bs = none) := HN.out (not_all (P := sgB) (k := j) (by rw [HLL.out]; exact hjn) (by rw [← HQ.out]; exact hsg))
                      have cx := fun w => sign_any q w
                      rw [show sgV q = -1 from if_neg (by rw [hsg]; decide)] at cx
                      have CX := Lib.hid cx
                      clear cx
                      go_wp2_with (go_at_call 66; refine (CX.out _).mono ?_; rintro e w1 ⟨rfl, rfl⟩)
                      go_ret2
                      exact ⟨by rw [HF]; rfl, HR.out.2⟩
                    · have hq := sv_lt hsg
                      have hall2 : ∀ m, m < j + 1 → m < l.length → sgB (l.getD m 0) = true := fun m hm hml => by
                        by_cases hmj : m < j
                        · exact HALL.out m hmj hml
                        · obtain rfl : m = j := by omega
                          rw [← HQ.out]
                          exact hsg
                      have HA2 := Lib.hid hall2
                      have hHS := HS.out
                      rw [if_pos (by rw [HLL.out]; exact hjn), ← HQ.out] at hHS
                      have HS2 := Lib.hid hHS
                      have cx := fun w => sign_any q w
                      rw [show sgV q = (sv q : Int) from if_pos hsg] at cx
                      have CX := Lib.hid cx
                      clear hall2 hHS cx
                      generalize sv q = r at *
                      have g6 : ¬ (r : Int) < 0 := by omega
                      have g7 : bits .or .i64 (V6 : Int) (r : Int) = ((V6 + r : Nat) : Int) := or_i64 _ _ 6 (by omega) ⟨V, by omega⟩ (by omega)
                      obtain ⟨V7, hV7⟩ : ∃ V7, V6 + r = V7 := ⟨_, rfl⟩
                      rw [hV7] at g7 HS2
                      go_wp2_with (go_at_call 66; refine (CX.out _).mono ?_; rintro e w1 ⟨rfl, rfl⟩)
                      exact ⟨⟨trivial, j + 1, by omega, by go_num, by rw [HS2.out], HA2.out⟩, by simp [intOf]; omega⟩
                  · have hjn2 : ¬ (j : Int) < 3 := by omega
                    have hHS := HS.out
                    rw [if_neg (by rw [HLL.out]; exact hjn)] at hHS
                    have HS2 := Lib.hid (hHS.trans (Nat.add_zero V6))
                    clear hHS
                    have g7 : bits .or .i64 (V6 : Int) 0 = (V6 : Int) := by
                      have := or_i64 V6 0 0 (by decide) ⟨V6, by omega⟩ (by omega)
                      simpa using this
                    go_wp2_with fail
                    exact ⟨⟨trivial, j + 1, by omega, by go_num, by rw [HS2.out], fun m hm hml => HALL.out m (by rw [HLL.out] at hml; omega) hml⟩, by simp [intOf]; omega⟩
                · obtain rfl : j = 4 := by omega
                  have hV4 : vTo l 4 < 16777216 := hV
                  have hsa : l.all sgB = true := by
                    rw [List.all_eq_true]
                    intro y hy
                    obtain ⟨m, hm, rfl⟩ := List.mem_iff_getElem.1 hy
                    have := HALL.out m (by rw [HLL.out] at hm; omega) hm
                    rw [List.getD_eq_getElem?_getD, List.getElem?_eq_getElem hm] at this
                    exact this
                  have hG2 := HG.out hsa
                  rw [show grpB l = if ([vTo l 4 / 65536, vTo l 4 / 256 % 256, vTo l 4 % 256].drop 2).all (· == 0) then some ([vTo l 4 / 65536, vTo l 4 / 256 % 256, vTo l 4 % 256].take 2) else none by unfold grpB; rw [hsa, if_pos rfl, HLL.out]] at hG2
                  have HG2 := Lib.hid hG2
                  clear hsa hV hG2 HG HN
                  generalize vTo l 4 = V at *
                  obtain ⟨y0, hy0⟩ : ∃ y0, V / 65536 = y0 := ⟨_, rfl⟩
                  obtain ⟨y1, hy1⟩ : ∃ y1, V / 256 = y1 := ⟨_, rfl⟩
                  obtain ⟨z1, hz1⟩ : ∃ z1, V / 256 % 256 = z1 := ⟨_, rfl⟩
                  obtain ⟨z2, hz2⟩ : ∃ z2, V % 256 = z2 := ⟨_, rfl⟩
                  have f0 : (V : Int) / 65536 = (y0 : Int) := by omega
                  have f1 : (V : Int) / 256 = (y1 : Int) := by omega
                  have f2 : IntKind.u8.wrap (y0 : Int) = (y0 : Int) := by rw [IntKind.wrap_u8]; omega
                  have f3 : IntKind.u8.wrap (y1 : Int) = (z1 : Int) := by rw [IntKind.wrap_u8]; omega
                  have f4 : IntKind.u8.wrap (V : Int) = (z2 : Int) := by rw [IntKind.wrap_u8]; omega
                  rw [hy0, hz1, hz2] at HG2
                  have b0 : y0 ≤ 255 := by omega
                  have b1 : z1 ≤ 255 := by omega
                  have b2 : z2 ≤ 255 := by omega
                  have HBX := Lib.hid (box_below wr (.cells #[.int .u8 (y0 : Int), .int .u8 (z1 : Int), .int .u8 (z2 : Int)] 5))
                  have HBT := Lib.hid (by_take (W := wr) b0 b1 b2 2 (by omega))
                  have HO1 := Lib.hid (own_bel HR.out.1 HBX.out)
                  have a1 : bits .and .i64 (V : Int) 255 = (z2 : Int) := by rw [and255i V (by omega), hz2]
                  by_cases h0 : z2 = 0
                  · subst h0
                    have HF : Hid (b64D bs = (b64D (bs.drop k4)).map ((xs ++ [y0, z1, 0].take 2) ++ ·)) := HG2.out
                    clear hy0 hy1 hz1 hz2
                    go_wp2_with (at_builtin; refine wp_by (by rfl) (.tmp 75) (.tmp 87) (by rfl) w.heap.size u4 _ xs ([y0, z1, 0].take 2) (by rfl) (by rfl) HO1.out HBT.out (by simp) (by simp; omega) (Nat.le_trans hbw HBX.out.size) ?_; intro v' w3 hown hgr; have HO := Lib.hid (HR.out.more HBX.out hown hgr); clear hown hgr)
                    exact ⟨⟨k4, xs ++ [y0, z1, 0].take 2, by omega, by omega, by go_num, HO.out, by simp; omega, HF⟩, by simp [intOf]; omega⟩
                  · have a2 : ((z2 : Int) == 0) = false := beq_eq_false_iff_ne.2 (by omega)
                    have HF : Hid (b64D bs = none) := by
                      have := HG2.out
                      rw [if_neg (by simp; omega)] at this
                      exact this
                    clear hy0 hy1 hz1 hz2
                    go_wp2_with fail
                    go_ret2
                    exact ⟨by rw [HF]; rfl, HR.out.2⟩
          · have eg : gN c d = 4 := if_neg hd61
            have dq : ((d : Int) == 61) = false := beq_eq_false_iff_ne.2 (by omega)
            have HN : Hid ([a, b, c, d].all sgB = false → b64D bs = none) := fun hf => by
              rw [HV.out, HD.out, b64D]
              split
              · rfl
              · rw [eg, show List.take 4 [a, b, c, d] = [a, b, c, d] from rfl, show grpB [a, b, c, d] = none by unfold grpB; rw [hf]; rfl]
                rfl
            have HG : Hid ([a, b, c, d].all sgB = true → b64D bs = match grpB [a, b, c, d] with | none => none | some g => (b64D (bs.drop k4)).map ((xs ++ g) ++ ·)) := fun hf => by
              rw [HV.out, HD.out, b64D, if_neg (by rw [eg]; first | omega | (rw [List.length_drop, HL.out]; omega)), eg, show List.take 4 [a, b, c, d] = [a, b, c, d] from rfl]
              cases grpB [a, b, c, d] with
              | none => rfl
              | some g =>
                show Option.map _ (Option.map _ _) = _
                rw [Option.map_map]
                congr 1
                funext z
                simp
            have HLJ := Lib.hid (show ∀ j, j < 4 → [a, b, c, d].getD j 0 = bs.getD (k + j) 0 from fun j hj => by
              rcases (by omega : j = 0 ∨ j = 1 ∨ j = 2 ∨ j = 3) with rfl | rfl | rfl | rfl
              · exact ha.symm
              · exact hb.symm
              · exact hc.symm
              · exact hd.symm)
            clear ha hb hc hd
            generalize hl : [a, b, c, d] = l at *
            have hll : l.length = 4 := by rw [← hl]; rfl
            have HLL := Lib.hid hll
            clear hll hl
            go_wp2_with fail
            go_loopw [7, 8] (fun x i w3 => w3 = wr ∧ ∃ j : Nat, j ≤ 4 ∧ i = .int .i64 (j : Int) ∧ x = .int .i64 (vTo l j : Nat) ∧ ∀ m, m < j → m < l.length → sgB (l.getD m 0) = true) (fun _ i _ => 4 - (intOf i).toNat)
            case atStart => exact ⟨rfl, 0, by omega, rfl, rfl, fun m hm => by omega⟩
            case round =>
              obtain ⟨rfl, j, hj, rfl, rfl, hall⟩ := hrel
              have HALL := Lib.hid hall
              have hV := vTo_lt j hall
              clear hall
              by_cases hjl : j < 4
              · have hji : (j : Int) < 4 := by omega
                have hpw : 64 ^ j ≤ 64 ^ 3 := Nat.pow_le_pow_right (by decide) (by omega)
                obtain ⟨V, hVV⟩ : ∃ V, vTo l j = V := ⟨_, rfl⟩
                rw [hVV] at hV ⊢
                have hV3 : V < 262144 := by omega
                clear hV hpw
                obtain ⟨V6, hV6⟩ : ∃ V6, V * 64 = V6 := ⟨_, rfl⟩
                have g1 : (V : Int) * 64 = (V6 : Int) := by omega
                have g2 : IntKind.i64.wrap (V6 : Int) = (V6 : Int) := IntWalk.i64_in _ (by omega)
                have HS := Lib.hid (show vTo l (j + 1) = V6 + (if j < l.length then sv (l.getD j 0) else 0) by simp only [vTo]; rw [hVV, hV6])
                clear hVV
                by_cases hjn : j < 4
                · have hjn2 : (j : Int) < 4 := by omega
                  obtain ⟨kj, hkj⟩ : ∃ kj, k + j = kj := ⟨_, rfl⟩
                  have g3 : (k : Int) + (j : Int) = (kj : Int) := by omega
                  have g4 : IntKind.i64.wrap (kj : Int) = (kj : Int) := IntWalk.i64_in _ (by omega)
                  have g5 : (kj : Int) < (n : Int) := by omega
                  have hcell := HCL.out _ HR.out.2 kj (by rw [HL.out]; omega)
                  have HQ := Lib.hid (show bs.getD kj 0 = l.getD j 0 by rw [← hkj]; exact (HLJ.out j hjn).symm)
                  generalize bs.getD kj 0 = q at *
                  cases hsg : sgB q
                  · have HF : Hid (b64D bs = none) := HN.out (not_all (P := sgB) (k := j) (by rw [HLL.out]; exact hjn) (by rw [← HQ.out]; exact hsg))
                    have cx := fun w => sign_any q w
                    rw [show sgV q = -1 from if_neg (by rw [hsg]; decide)] at cx
                    have CX := Lib.hid cx
                    clear cx
                    go_wp2_with (go_at_call 66; refine (CX.out _).mono ?_; rintro e w1 ⟨rfl, rfl⟩)
                    go_ret2
                    exact ⟨by rw [HF]; rfl, HR.out.2⟩
                  · have hq := sv_lt hsg
                    have hall2 : ∀ m, m < j + 1 → m < l.length → sgB (l.getD m 0) = true := fun m hm hml => by
                      by_cases hmj : m < j
                      · exact HALL.out m hmj hml
                      · obtain rfl : m = j := by omega
                        rw [← HQ.out]
                        exact hsg
                    have HA2 := Lib.hid hall2
                    have hHS := HS.out
                    rw [if_pos (by rw [HLL.out]; exact hjn), ← HQ.out] at hHS
                    have HS2 := Lib.hid hHS
                    have cx := fun w => sign_any q w
                    rw [show sgV q = (sv q : Int) from if_pos hsg] at cx
                    have CX := Lib.hid cx
                    clear hall2 hHS cx
                    generalize sv q = r at *
                    have g6 : ¬ (r : Int) < 0 := by omega
                    have g7 : bits .or .i64 (V6 : Int) (r : Int) = ((V6 + r : Nat) : Int) := or_i64 _ _ 6 (by omega) ⟨V, by omega⟩ (by omega)
                    obtain ⟨V7, hV7⟩ : ∃ V7, V6 + r = V7 := ⟨_, rfl⟩
                    rw [hV7] at g7 HS2
                    go_wp2_with (go_at_call 66; refine (CX.out _).mono ?_; rintro e w1 ⟨rfl, rfl⟩)
                    exact ⟨⟨trivial, j + 1, by omega, by go_num, by rw [HS2.out], HA2.out⟩, by simp [intOf]; omega⟩
                · omega
              · obtain rfl : j = 4 := by omega
                have hV4 : vTo l 4 < 16777216 := hV
                have hsa : l.all sgB = true := by
                  rw [List.all_eq_true]
                  intro y hy
                  obtain ⟨m, hm, rfl⟩ := List.mem_iff_getElem.1 hy
                  have := HALL.out m (by rw [HLL.out] at hm; omega) hm
                  rw [List.getD_eq_getElem?_getD, List.getElem?_eq_getElem hm] at this
                  exact this
                have hG2 := HG.out hsa
                rw [show grpB l = if ([vTo l 4 / 65536, vTo l 4 / 256 % 256, vTo l 4 % 256].drop 3).all (· == 0) then some ([vTo l 4 / 65536, vTo l 4 / 256 % 256, vTo l 4 % 256].take 3) else none by unfold grpB; rw [hsa, if_pos rfl, HLL.out]] at hG2
                have HG2 := Lib.hid hG2
                clear hsa hV hG2 HG HN
                generalize vTo l 4 = V at *
                obtain ⟨y0, hy0⟩ : ∃ y0, V / 65536 = y0 := ⟨_, rfl⟩
                obtain ⟨y1, hy1⟩ : ∃ y1, V / 256 = y1 := ⟨_, rfl⟩
                obtain ⟨z1, hz1⟩ : ∃ z1, V / 256 % 256 = z1 := ⟨_, rfl⟩
                obtain ⟨z2, hz2⟩ : ∃ z2, V % 256 = z2 := ⟨_, rfl⟩
                have f0 : (V : Int) / 65536 = (y0 : Int) := by omega
                have f1 : (V : Int) / 256 = (y1 : Int) := by omega
                have f2 : IntKind.u8.wrap (y0 : Int) = (y0 : Int) := by rw [IntKind.wrap_u8]; omega
                have f3 : IntKind.u8.wrap (y1 : Int) = (z1 : Int) := by rw [IntKind.wrap_u8]; omega
                have f4 : IntKind.u8.wrap (V : Int) = (z2 : Int) := by rw [IntKind.wrap_u8]; omega
                rw [hy0, hz1, hz2] at HG2
                have b0 : y0 ≤ 255 := by omega
                have b1 : z1 ≤ 255 := by omega
                have b2 : z2 ≤ 255 := by omega
                have HBX := Lib.hid (box_below wr (.cells #[.int .u8 (y0 : Int), .int .u8 (z1 : Int), .int .u8 (z2 : Int)] 5))
                have HBT := Lib.hid (by_take (W := wr) b0 b1 b2 3 (by omega))
                have HO1 := Lib.hid (own_bel HR.out.1 HBX.out)
                have HF : Hid (b64D bs = (b64D (bs.drop k4)).map ((xs ++ [y0, z1, z2].take 3) ++ ·)) := HG2.out
                clear hy0 hy1 hz1 hz2
                go_wp2_with (at_builtin; refine wp_by (by rfl) (.tmp 75) (.tmp 87) (by rfl) w.heap.size u4 _ xs ([y0, z1, z2].take 3) (by rfl) (by rfl) HO1.out HBT.out (by simp) (by simp; omega) (Nat.le_trans hbw HBX.out.size) ?_; intro v' w3 hown hgr; have HO := Lib.hid (HR.out.more HBX.out hown hgr); clear hown hgr)
                exact ⟨⟨k4, xs ++ [y0, z1, z2].take 3, by omega, by omega, by go_num, HO.out, by simp; omega, HF⟩, by simp [intOf]; omega⟩
        · have hq : ((k4 : Int) == (n : Int)) = false := beq_eq_false_iff_ne.2 (by omega)
          have HN : Hid ([a, b, c, d].all sgB = false → b64D bs = none) := fun hf => by
            by_cases hd61 : d = 61
            · rw [HV.out, HD.out, b64D, if_pos ⟨by unfold gN; rw [if_pos hd61]; split <;> decide, by rw [List.length_drop, HL.out]; omega⟩]
              rfl
            · have eg : gN c d = 4 := if_neg hd61
              rw [HV.out, HD.out, b64D]
              split
              · rfl
              · rw [eg, show List.take 4 [a, b, c, d] = [a, b, c, d] from rfl, show grpB [a, b, c, d] = none by unfold grpB; rw [hf]; rfl]
                rfl
          have HG : Hid ([a, b, c, d].all sgB = true → b64D bs = match grpB [a, b, c, d] with | none => none | some g => (b64D (bs.drop k4)).map ((xs ++ g) ++ ·)) := fun hf => by
            by_cases hd61 : d = 61
            · subst hd61
              simp [show sgB 61 = false by decide] at hf
            · have eg : gN c d = 4 := if_neg hd61
              rw [HV.out, HD.out, b64D, if_neg (by rw [eg]; first | omega | (rw [List.length_drop, HL.out]; omega)), eg, show List.take 4 [a, b, c, d] = [a, b, c, d] from rfl]
              cases grpB [a, b, c, d] with
              | none => rfl
              | some g =>
                show Option.map _ (Option.map _ _) = _
                rw [Option.map_map]
                congr 1
                funext z
                simp
          have HLJ := Lib.hid (show ∀ j, j < 4 → [a, b, c, d].getD j 0 = bs.getD (k + j) 0 from fun j hj => by
            rcases (by omega : j = 0 ∨ j = 1 ∨ j = 2 ∨ j = 3) with rfl | rfl | rfl | rfl
            · exact ha.symm
            · exact hb.symm
            · exact hc.symm
            · exact hd.symm)
          clear ha hb hc hd
          generalize hl : [a, b, c, d] = l at *
          have hll : l.length = 4 := by rw [← hl]; rfl
          have HLL := Lib.hid hll
          clear hll hl
          go_wp2_with fail
          go_loopw [7, 8] (fun x i w3 => w3 = wr ∧ ∃ j : Nat, j ≤ 4 ∧ i = .int .i64 (j : Int) ∧ x = .int .i64 (vTo l j : Nat) ∧ ∀ m, m < j → m < l.length → sgB (l.getD m 0) = true) (fun _ i _ => 4 - (intOf i).toNat)
          case atStart => exact ⟨rfl, 0, by omega, rfl, rfl, fun m hm => by omega⟩
          case round =>
            obtain ⟨rfl, j, hj, rfl, rfl, hall⟩ := hrel
            have HALL := Lib.hid hall
            have hV := vTo_lt j hall
            clear hall
            by_cases hjl : j < 4
            · have hji : (j : Int) < 4 := by omega
              have hpw : 64 ^ j ≤ 64 ^ 3 := Nat.pow_le_pow_right (by decide) (by omega)
              obtain ⟨V, hVV⟩ : ∃ V, vTo l j = V := ⟨_, rfl⟩
              rw [hVV] at hV ⊢
              have hV3 : V < 262144 := by omega
              clear hV hpw
              obtain ⟨V6, hV6⟩ : ∃ V6, V * 64 = V6 := ⟨_, rfl⟩
              have g1 : (V : Int) * 64 = (V6 : Int) := by omega
              have g2 : IntKind.i64.wrap (V6 : Int) = (V6 : Int) := IntWalk.i64_in _ (by omega)
              have HS := Lib.hid (show vTo l (j + 1) = V6 + (if j < l.length then sv (l.getD j 0) else 0) by simp only [vTo]; rw [hVV, hV6])
              clear hVV
              by_cases hjn : j < 4
              · have hjn2 : (j : Int) < 4 := by omega
                obtain ⟨kj, hkj⟩ : ∃ kj, k + j = kj := ⟨_, rfl⟩
                have g3 : (k : Int) + (j : Int) = (kj : Int) := by omega
                have g4 : IntKind.i64.wrap (kj : Int) = (kj : Int) := IntWalk.i64_in _ (by omega)
                have g5 : (kj : Int) < (n : Int) := by omega
                have hcell := HCL.out _ HR.out.2 kj (by rw [HL.out]; omega)
                have HQ := Lib.hid (show bs.getD kj 0 = l.getD j 0 by rw [← hkj]; exact (HLJ.out j hjn).symm)
                generalize bs.getD kj 0 = q at *
                cases hsg : sgB q
                · have HF : Hid (b64D bs = none) := HN.out (not_all (P := sgB) (k := j) (by rw [HLL.out]; exact hjn) (by rw [← HQ.out]; exact hsg))
                  have cx := fun w => sign_any q w
                  rw [show sgV q = -1 from if_neg (by rw [hsg]; decide)] at cx
                  have CX := Lib.hid cx
                  clear cx
                  go_wp2_with (go_at_call 66; refine (CX.out _).mono ?_; rintro e w1 ⟨rfl, rfl⟩)
                  go_ret2
                  exact ⟨by rw [HF]; rfl, HR.out.2⟩
                · have hq := sv_lt hsg
                  have hall2 : ∀ m, m < j + 1 → m < l.length → sgB (l.getD m 0) = true := fun m hm hml => by
                    by_cases hmj : m < j
                    · exact HALL.out m hmj hml
                    · obtain rfl : m = j := by omega
                      rw [← HQ.out]
                      exact hsg
                  have HA2 := Lib.hid hall2
                  have hHS := HS.out
                  rw [if_pos (by rw [HLL.out]; exact hjn), ← HQ.out] at hHS
                  have HS2 := Lib.hid hHS
                  have cx := fun w => sign_any q w
                  rw [show sgV q = (sv q : Int) from if_pos hsg] at cx
                  have CX := Lib.hid cx
                  clear hall2 hHS cx
                  generalize sv q = r at *
                  have g6 : ¬ (r : Int) < 0 := by omega
                  have g7 : bits .or .i64 (V6 : Int) (r : Int) = ((V6 + r : Nat) : Int) := or_i64 _ _ 6 (by omega) ⟨V, by omega⟩ (by omega)
                  obtain ⟨V7, hV7⟩ : ∃ V7, V6 + r = V7 := ⟨_, rfl⟩
                  rw [hV7] at g7 HS2
                  go_wp2_with (go_at_call 66; refine (CX.out _).mono ?_; rintro e w1 ⟨rfl, rfl⟩)
                  exact ⟨⟨trivial, j + 1, by omega, by go_num, by rw [HS2.out], HA2.out⟩, by simp [intOf]; omega⟩
              · omega
            · obtain rfl : j = 4 := by omega
              have hV4 : vTo l 4 < 16777216 := hV
              have hsa : l.all sgB = true := by
                rw [List.all_eq_true]
                intro y hy
                obtain ⟨m, hm, rfl⟩ := List.mem_iff_getElem.1 hy
                have := HALL.out m (by rw [HLL.out] at hm; omega) hm
                rw [List.getD_eq_getElem?_getD, List.getElem?_eq_getElem hm] at this
                exact this
              have hG2 := HG.out hsa
              rw [show grpB l = if ([vTo l 4 / 65536, vTo l 4 / 256 % 256, vTo l 4 % 256].drop 3).all (· == 0) then some ([vTo l 4 / 65536, vTo l 4 / 256 % 256, vTo l 4 % 256].take 3) else none by unfold grpB; rw [hsa, if_pos rfl, HLL.out]] at hG2
              have HG2 := Lib.hid hG2
              clear hsa hV hG2 HG HN
              generalize vTo l 4 = V at *
              obtain ⟨y0, hy0⟩ : ∃ y0, V / 65536 = y0 := ⟨_, rfl⟩
              obtain ⟨y1, hy1⟩ : ∃ y1, V / 256 = y1 := ⟨_, rfl⟩
              obtain ⟨z1, hz1⟩ : ∃ z1, V / 256 % 256 = z1 := ⟨_, rfl⟩
              obtain ⟨z2, hz2⟩ : ∃ z2, V % 256 = z2 := ⟨_, rfl⟩
              have f0 : (V : Int) / 65536 = (y0 : Int) := by omega
              have f1 : (V : Int) / 256 = (y1 : Int) := by omega
              have f2 : IntKind.u8.wrap (y0 : Int) = (y0 : Int) := by rw [IntKind.wrap_u8]; omega
              have f3 : IntKind.u8.wrap (y1 : Int) = (z1 : Int) := by rw [IntKind.wrap_u8]; omega
              have f4 : IntKind.u8.wrap (V : Int) = (z2 : Int) := by rw [IntKind.wrap_u8]; omega
              rw [hy0, hz1, hz2] at HG2
              have b0 : y0 ≤ 255 := by omega
              have b1 : z1 ≤ 255 := by omega
              have b2 : z2 ≤ 255 := by omega
              have HBX := Lib.hid (box_below wr (.cells #[.int .u8 (y0 : Int), .int .u8 (z1 : Int), .int .u8 (z2 : Int)] 5))
              have HBT := Lib.hid (by_take (W := wr) b0 b1 b2 3 (by omega))
              have HO1 := Lib.hid (own_bel HR.out.1 HBX.out)
              have HF : Hid (b64D bs = (b64D (bs.drop k4)).map ((xs ++ [y0, z1, z2].take 3) ++ ·)) := HG2.out
              clear hy0 hy1 hz1 hz2
              go_wp2_with (at_builtin; refine wp_by (by rfl) (.tmp 75) (.tmp 87) (by rfl) w.heap.size u4 _ xs ([y0, z1, z2].take 3) (by rfl) (by rfl) HO1.out HBT.out (by simp) (by simp; omega) (Nat.le_trans hbw HBX.out.size) ?_; intro v' w3 hown hgr; have HO := Lib.hid (HR.out.more HBX.out hown hgr); clear hown hgr)
              exact ⟨⟨k4, xs ++ [y0, z1, z2].take 3, by omega, by omega, by go_num, HO.out, by simp; omega, HF⟩, by simp [intOf]; omega⟩
      · obtain rfl : k = n := by omega
        have HF := Lib.hid (show b64D bs = some xs by rw [HV.out, List.drop_eq_nil_of_le (by rw [HL.out]; exact Nat.le_refl _)]; simp [b64D])
        go_wp2
        go_ret2
        exact ⟨by rw [HF.out]; exact ⟨_, rfl, HR.out⟩, HR.out.2⟩
  · obtain ⟨m, hmm⟩ : ∃ m, n % 4 = m := ⟨_, rfl⟩
    have hm1 : (n : Int).tmod 4 = (m : Int) := by rw [Int.tmod_eq_emod_of_nonneg (by omega)]; omega
    have hm2 : (n : Int) % 4 = (m : Int) := by omega
    have hmb : ((m : Int) == 0) = false := beq_eq_false_iff_ne.2 (by omega)
    have hmn : ¬ m = 0 := by omega
    have hmw : IntKind.i64.wrap (m : Int) = (m : Int) := IntWalk.i64_in _ (by omega)
    rw [b64D_len (by rw [HL.out]; exact h4)]
    go_enter Try.func52, Try.ntmps52
    go_wp2
    go_ret2
    exact ⟨rfl, Below.refl _ _⟩

end Go.Proofs.Ythofhljbipkiaaa.Co
