import Derived.Test.YthofhljbipkiaaaCoC
import Derived.Test.YthofhljbipkiaaaCoE
namespace Go.Proofs.Ythofhljbipkiaaa.Co
open Go.RowKit
open Go.Proofs.Ythofhljbipkiaaa.Tp
set_option linter.unusedVariables false

theorem hexC_few (b : Nat) : ((fun b => [loC (b / 16), loC (b % 16)]) b : List Nat).length ≤ 2 := by simp

theorem escC_pos (b : Nat) : 0 < (escC b).length := by
  unfold escC
  split
  · simp
  split
  · simp
  split
  · simp
  split
  · simp
  split
  · simp
  simp

/-- The encoding of bytes. -/
def encL (c : Int) (bs : List Nat) : List Nat := if c = 2 then b64E bs else if c = 1 then hexE bs else if c = 3 then pctE bs else escE bs

set_option maxRecDepth 100000 in
set_option maxHeartbeats 4000000 in
theorem enc1_any  (v : Value) (bs : List Nat) (w : World) (h : By w v bs) (hn : bs.length ≤ 1000000) :
    Calls Try.prog 15 #[.int .i64 1, v] w fun e w' => ∃ v', e = .returned v' ∧ ERel w (hexE bs) v' w' := by
  have HBY := Lib.hid h
  have hle := h.1
  have HLE := Lib.hid hle
  obtain ⟨D, cp, rfl⟩ := h.form
  obtain ⟨n, hL⟩ : ∃ n, bs.length = n := ⟨_, rfl⟩
  rw [hL] at hn ⊢
  have HL := Lib.hid hL
  clear h hle hL
  go_enter Try.func15, Try.ntmps15
  go_wp2_with fail
  go_loopw [5, 6] (fun v i wr => ∃ k : Nat, k ≤ n ∧ i = .int .i64 (k : Int) ∧ ERel w (hexE (bs.take k)) v wr) (fun _ i _ => n - (intOf i).toNat)
  case atStart => exact ⟨0, by omega, rfl, ERel.start w⟩
  case round =>
    obtain ⟨k, hk, rfl, hrel⟩ := hrel
    have HR := Lib.hid hrel
    have hbw := hrel.2.size
    clear hrel
    by_cases hlt : k < n
    · obtain ⟨hln, p, off, rfl, hp, hcl⟩ := HBY.out.at_ (by rw [HL.out]; omega)
      have HC := Lib.hid (show ∀ w', Below w.heap.size w w' → w'.cell? ⟨p, off + k, none⟩ = some (.int .u8 ((bs.getD k 0 : Nat) : Int)) from fun w' hw => hcl w' hw k (by rw [HL.out]; exact hlt))
      have hcell := HC.out _ HR.out.2
      have hcelld := HC.out _ HR.out.2.drew
      have hb := getD_le HLE.out k
      have HE := Lib.hid (take_flat (fun b => [loC (b / 16), loC (b % 16)]) bs k (by rw [HL.out]; exact hlt))
      have HX := Lib.hid (flat_few (f := (fun b => [loC (b / 16), loC (b % 16)])) hexC_few (bs.take k))
      have hkl : (bs.take k).length ≤ 1000000 := by rw [List.length_take]; omega
      have hx3 : (hexE (bs.take k)).length ≤ 2000000 := Nat.le_trans HX.out (by omega)
      have hki : (k : Int) < (n : Int) := by omega
      clear hcl hln HX hkl
      generalize bs.getD k 0 = b at *
      have HOW := Lib.hid (own_bel HR.out.1 ((Below.refl wr.heap.size wr).drew))
      have HBD := Lib.hid ((Below.refl wr.heap.size wr).drew)
      have g1 := lo_at (b / 16) (by omega)
      have g2 := lo_at (b % 16) (by omega)
      have ha := and15b b (by omega)
      have hsh : (b : Int) / 16 = ((b / 16 : Nat) : Int) := by omega
      generalize b / 16 = q at *
      generalize b % 16 = r at *
      generalize loC q = x at *
      generalize loC r = y at *
      go_wp2_with fail
      go_region_held3 (fun w' => w'.cell? ⟨p, off + k, none⟩ = some (.int .u8 (b : Int))) (first | exact hcelld | exact cell_al hcelld _ | assumption) (first
        | (refine step_lit (by rfl) (.tmp 35) (.tmp 48) (by rfl) w.heap.size u5 (hexE (bs.take k)) [x, y] (by rfl) (by rfl) (by rfl) HOW.out (by simp) (by simp; omega) (Nat.le_trans hbw HBD.out.size) ?_; intro v' w3 hown hgr; have HO := Lib.hid (HR.out.more (HBD.out.alloc (Nat.le_refl _) _) hown hgr); clear hown hgr; have k3 := HC.out _ HO.out.2))
      all_goals
        go_wp2_with fail
        exact ⟨⟨k + 1, by omega, by go_num, by unfold hexE; rw [HE.out]; exact HO.out⟩, by simp [intOf]; omega⟩
    · obtain rfl : k = n := by omega
      have HRT : bs.take k = bs := List.take_of_length_le (by rw [HL.out]; exact Nat.le_refl _)
      rw [HRT] at HR
      go_wp2
      go_ret
      exact ⟨_, rfl, HR.out⟩

set_option maxRecDepth 100000 in
set_option maxHeartbeats 4000000 in
theorem enc3_any  (v : Value) (bs : List Nat) (w : World) (h : By w v bs) (hn : bs.length ≤ 1000000) :
    Calls Try.prog 15 #[.int .i64 3, v] w fun e w' => ∃ v', e = .returned v' ∧ ERel w (pctE bs) v' w' := by
  have HBY := Lib.hid h
  have hle := h.1
  have HLE := Lib.hid hle
  obtain ⟨D, cp, rfl⟩ := h.form
  obtain ⟨n, hL⟩ : ∃ n, bs.length = n := ⟨_, rfl⟩
  rw [hL] at hn ⊢
  have HL := Lib.hid hL
  clear h hle hL
  go_enter Try.func15, Try.ntmps15
  go_wp2_with fail
  go_loopw [5, 7] (fun v i wr => ∃ k : Nat, k ≤ n ∧ i = .int .i64 (k : Int) ∧ ERel w (pctE (bs.take k)) v wr) (fun _ i _ => n - (intOf i).toNat)
  case atStart => exact ⟨0, by omega, rfl, ERel.start w⟩
  case round =>
    obtain ⟨k, hk, rfl, hrel⟩ := hrel
    have HR := Lib.hid hrel
    have hbw := hrel.2.size
    clear hrel
    by_cases hlt : k < n
    · obtain ⟨hln, p, off, rfl, hp, hcl⟩ := HBY.out.at_ (by rw [HL.out]; omega)
      have HC := Lib.hid (show ∀ w', Below w.heap.size w w' → w'.cell? ⟨p, off + k, none⟩ = some (.int .u8 ((bs.getD k 0 : Nat) : Int)) from fun w' hw => hcl w' hw k (by rw [HL.out]; exact hlt))
      have hcell := HC.out _ HR.out.2
      have hcelld := HC.out _ HR.out.2.drew
      have hb := getD_le HLE.out k
      have HE := Lib.hid (take_flat pctC bs k (by rw [HL.out]; exact hlt))
      have HX := Lib.hid (flat_few (f := pctC) pctC_few (bs.take k))
      have hkl : (bs.take k).length ≤ 1000000 := by rw [List.length_take]; omega
      have hx3 : (pctE (bs.take k)).length ≤ 3000000 := Nat.le_trans HX.out (by omega)
      have hki : (k : Int) < (n : Int) := by omega
      clear hcl hln HX hkl
      generalize bs.getD k 0 = b at *
      have HOW := Lib.hid (own_bel HR.out.1 ((Below.refl wr.heap.size wr).drew))
      have HBD := Lib.hid ((Below.refl wr.heap.size wr).drew)
      cases hpl : plainB b
      · have hE2 : pctC b = [37, hiC (b / 16), hiC (b % 16)] := by unfold pctC; rw [if_neg (by rw [hpl]; decide)]
        rw [hE2] at HE
        clear hE2
        have g1 := hi_at (b / 16) (by omega)
        have g2 := hi_at (b % 16) (by omega)
        have ha := and15b b (by omega)
        have hsh : (b : Int) / 16 = ((b / 16 : Nat) : Int) := by omega
        generalize b / 16 = q at *
        generalize b % 16 = r at *
        generalize hiC q = x at *
        generalize hiC r = y at *
        go_wp2_with (go_at_call 27; refine (refplain_any _ _).mono ?_; rintro e w1 ⟨rfl, rfl⟩; rw [hpl])
        go_region_held3 (fun w' => w'.cell? ⟨p, off + k, none⟩ = some (.int .u8 (b : Int))) (first | exact hcelld | exact cell_al hcelld _ | assumption) (first
          | (refine step_lit (by rfl) (.tmp 70) (.tmp 83) (by rfl) w.heap.size u5 (pctE (bs.take k)) [37, x, y] (by rfl) (by rfl) (by rfl) HOW.out (by simp) (by simp; omega) (Nat.le_trans hbw HBD.out.size) ?_; intro v' w3 hown hgr; have HO := Lib.hid (HR.out.more (HBD.out.alloc (Nat.le_refl _) _) hown hgr); clear hown hgr; have k3 := HC.out _ HO.out.2))
        all_goals
          go_wp2_with fail
          exact ⟨⟨k + 1, by omega, by go_num, by unfold pctE; rw [HE.out]; exact HO.out⟩, by simp [intOf]; omega⟩
      · have hE2 : pctC b = [b] := by unfold pctC; rw [if_pos hpl]
        rw [hE2] at HE
        clear hE2
        go_wp2_with (first
          | (go_at_call 27; refine (refplain_any _ _).mono ?_; rintro e w1 ⟨rfl, rfl⟩; rw [hpl])
          | (at_builtin; refine wp_lit (by rfl) (.tmp 63) (.tmp 68) (by rfl) w.heap.size u5 (pctE (bs.take k)) [b] (by rfl) (by rfl) (by rfl) HR.out.1 (by simp; omega) hbw ?_; intro v' w3 hown hgr; have HO := Lib.hid (HR.out.more (box_below _ _) hown hgr); clear hown hgr))
        exact ⟨⟨k + 1, by omega, by go_num, by unfold pctE; rw [HE.out]; exact HO.out⟩, by simp [intOf]; omega⟩
    · obtain rfl : k = n := by omega
      have HRT : bs.take k = bs := List.take_of_length_le (by rw [HL.out]; exact Nat.le_refl _)
      rw [HRT] at HR
      go_wp2
      go_ret
      exact ⟨_, rfl, HR.out⟩

set_option maxRecDepth 100000 in
set_option maxHeartbeats 4000000 in
theorem enc0_any (c : Int) (h1 : c ≠ 1) (h2 : c ≠ 2) (h3 : c ≠ 3) (v : Value) (bs : List Nat) (w : World) (h : By w v bs) (hn : bs.length ≤ 1000000) :
    Calls Try.prog 15 #[.int .i64 c, v] w fun e w' => ∃ v', e = .returned v' ∧ ERel w (escE bs) v' w' := by
  have HBY := Lib.hid h
  have hle := h.1
  have HLE := Lib.hid hle
  obtain ⟨D, cp, rfl⟩ := h.form
  obtain ⟨n, hL⟩ : ∃ n, bs.length = n := ⟨_, rfl⟩
  rw [hL] at hn ⊢
  have HL := Lib.hid hL
  clear h hle hL
  have f1 : (c == 1) = false := beq_eq_false_iff_ne.2 h1
  have f2 : (c == 2) = false := beq_eq_false_iff_ne.2 h2
  have f3 : (c == 3) = false := beq_eq_false_iff_ne.2 h3
  go_enter Try.func15, Try.ntmps15
  go_wp2_with fail
  go_loopw [5, 8] (fun v i wr => ∃ k : Nat, k ≤ n ∧ i = .int .i64 (k : Int) ∧ ERel w (escE (bs.take k)) v wr) (fun _ i _ => n - (intOf i).toNat)
  case atStart => exact ⟨0, by omega, rfl, ERel.start w⟩
  case round =>
    obtain ⟨k, hk, rfl, hrel⟩ := hrel
    have HR := Lib.hid hrel
    have hbw := hrel.2.size
    clear hrel
    by_cases hlt : k < n
    · obtain ⟨hln, p, off, rfl, hp, hcl⟩ := HBY.out.at_ (by rw [HL.out]; omega)
      have HC := Lib.hid (show ∀ w', Below w.heap.size w w' → w'.cell? ⟨p, off + k, none⟩ = some (.int .u8 ((bs.getD k 0 : Nat) : Int)) from fun w' hw => hcl w' hw k (by rw [HL.out]; exact hlt))
      have hcell := HC.out _ HR.out.2
      have hcelld := HC.out _ HR.out.2.drew
      have hb := getD_le HLE.out k
      have HE := Lib.hid (take_flat escC bs k (by rw [HL.out]; exact hlt))
      have HX := Lib.hid (flat_few (f := escC) escC_few (bs.take k))
      have hkl : (bs.take k).length ≤ 1000000 := by rw [List.length_take]; omega
      have hx3 : (escE (bs.take k)).length ≤ 4000000 := Nat.le_trans HX.out (by omega)
      have hki : (k : Int) < (n : Int) := by omega
      clear hcl hln HX hkl
      generalize bs.getD k 0 = b at *
      have HOW := Lib.hid (own_bel HR.out.1 ((Below.refl wr.heap.size wr).drew))
      have HBD := Lib.hid ((Below.refl wr.heap.size wr).drew)
      have hel := escC_few b
      have hel0 := escC_pos b
      go_wp2_with (first
        | (go_at_call 28; refine (refesc_any _ _ hb).mono ?_; rintro e w1 ⟨v1, rfl, hby1, hb1⟩; have HB1 := Lib.hid hb1; have HBY1 := Lib.hid hby1; have HRO := Lib.hid (own_bel HR.out.1 hb1); have hs1 := hb1.size; clear hb1 hby1)
        | (at_builtin; refine wp_by (by rfl) (.tmp 16) (.tmp 21) (by rfl) w.heap.size u5 v1 (escE (bs.take k)) (escC b) (by rfl) (by rfl) HRO.out HBY1.out hel0 (by omega) (Nat.le_trans hbw hs1) ?_; intro v' w3 hown hgr; have HO := Lib.hid (HR.out.more HB1.out hown hgr); clear hown hgr))
      exact ⟨⟨k + 1, by omega, by go_num, by unfold escE; rw [HE.out]; exact HO.out⟩, by simp [intOf]; omega⟩
    · obtain rfl : k = n := by omega
      have HRT : bs.take k = bs := List.take_of_length_le (by rw [HL.out]; exact Nat.le_refl _)
      rw [HRT] at HR
      go_wp2
      go_ret
      exact ⟨_, rfl, HR.out⟩


end Go.Proofs.Ythofhljbipkiaaa.Co
