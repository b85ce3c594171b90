import Derived.Test.YtidpkkekoldkgaaEntCounts
namespace Go.Proofs.Ytidpkkekoldkgaa.Ent
open Go.RowKit

theorem index_tab (bs : List Nat) (k : Nat) (h : k < 256) (w : World) :
    (Instr.index 33 (.agg (tab bs)) (.int .i64 (k : Int))).run Try.prog w = .ok (.int .i64 (cnt bs k : Int)) w := by
  have e := tab_at bs k h
  simp [Instr.index, run_underlying Try.underlying33, asIntOf, e, Try.isAgg3, Try.sizeOf3, go_sem]
  intro h2
  omega

/-- What one byte adds, and the sum over the first bytes. -/
def term (bs : List Nat) (W : Int) (k : Nat) : Int := if 0 < cnt bs k then (cnt bs k : Int) * (W - lgI (cnt bs k)) else 0
def ms (bs : List Nat) (W : Int) : Nat → Int
  | 0 => 0
  | k + 1 => ms bs W k + term bs W k

theorem prod_bd (c : Nat) (d : Int) (hc : c ≤ 65536) (h0 : -2031615 ≤ d) (h1 : d ≤ 2031615) : -133143920640 ≤ (c : Int) * d ∧ (c : Int) * d ≤ 133143920640 := by
  have hc' : (c : Int) ≤ 65536 := by omega
  constructor
  · have a1 : (c : Int) * (-2031615) ≤ (c : Int) * d := Int.mul_le_mul_of_nonneg_left h0 (by omega)
    omega
  · have a1 : (c : Int) * d ≤ (c : Int) * 2031615 := Int.mul_le_mul_of_nonneg_left h1 (by omega)
    omega

theorem term_bd (bs : List Nat) (W : Int) (k : Nat) (hb : bs.length ≤ 65536) (h0 : 0 ≤ W) (h1 : W ≤ 2031615) : -133143920640 ≤ term bs W k ∧ term bs W k ≤ 133143920640 := by
  have hc := cnt_le bs k
  have hl := lgI_bd (cnt bs k)
  unfold term
  split
  · exact prod_bd _ _ (by omega) (by omega) (by omega)
  · omega

theorem ms_bd (bs : List Nat) (W : Int) (hb : bs.length ≤ 65536) (h0 : 0 ≤ W) (h1 : W ≤ 2031615) : ∀ k : Nat, -133143920640 * (k : Int) ≤ ms bs W k ∧ ms bs W k ≤ 133143920640 * (k : Int)
  | 0 => by simp [ms]
  | k + 1 => by
    have ih := ms_bd bs W hb h0 h1 k
    have ht := term_bd bs W k hb h0 h1
    simp only [ms]
    omega

theorem few_len (bs : List Nat) : (few bs).length ≤ 65536 := by
  unfold few
  split
  · assumption
  · simp

set_option maxRecDepth 100000 in
set_option maxHeartbeats 400000 in
theorem measure_any (A : Option Addr) (n c : Nat) (bs : List Nat) (w : World) (h : Bytes w A n bs) :
    Calls Try.prog 20 #[.slice A n c] w fun e w' => e = .returned (.int .i64 (ms (few bs) (lgI n) 256)) ∧ Below w.heap.size w w' := by
  have hW := lgI_bd n
  have hf := few_len bs
  have hmax := h.2.2.1
  have hlog := fun w => log_any (n : Int) w
  have hcounts := fun w' (hb : Below w.heap.size w w') => counts_any A n c bs w' (h.below hb)
  have HF := Lib.hid hf
  have HL := Lib.hid hlog
  have HC := Lib.hid hcounts
  clear h hf hlog hcounts
  generalize lgI (n : Int) = W at *
  generalize few bs = cs at *
  obtain ⟨hW0, hW1⟩ := hW
  go_enter Try.func20, Try.ntmps20
  go_wp2_with (first
    | (go_at_call 13; refine (HL.out _).mono ?_; rintro e w' ⟨rfl, rfl⟩)
    | (go_at_call 18; refine (HC.out _ (Below.refl _ _)).mono ?_; rintro e w' ⟨rfl, hb⟩))
  have HB := Lib.hid hb
  clear hb
  go_loop [4, 6, 12] (fun s _ i => ∃ k : Nat, k ≤ 256 ∧ i = .int .i64 k ∧ s = .int .i64 (ms cs W k)) (fun _ _ i => 256 - (intOf i).toNat)
  case atStart => exact ⟨0, by omega, rfl, rfl⟩
  case round =>
    obtain ⟨k, hk, rfl, rfl⟩ := hrel
    have hm := ms_bd cs W HF.out hW0 hW1 k
    by_cases hlt : k < 256
    · have hidx := index_tab cs k hlt
      have hc := cnt_le cs k
      have hl := lgI_bd (cnt cs k)
      have hlog := fun w => log_any (cnt cs k : Int) w
      have hms : ms cs W (k + 1) = ms cs W k + term cs W k := rfl
      have hff := HF.out
      obtain ⟨hm1, hm2⟩ := hm
      obtain ⟨hl1, hl2⟩ := hl
      by_cases hpos : 0 < cnt cs k
      · have ht : term cs W k = (cnt cs k : Int) * (W - lgI (cnt cs k)) := if_pos hpos
        have hpb := prod_bd (cnt cs k) (W - lgI (cnt cs k)) (by omega) (by omega) (by omega)
        rw [ht] at hms
        have HMS := Lib.hid hms
        have HLOG := Lib.hid hlog
        clear hms hlog ht
        obtain ⟨hp1, hp2⟩ := hpb
        generalize ms cs W k = S at *
        generalize hX : lgI (cnt cs k : Int) = X at *
        clear hX
        generalize hC : cnt cs k = C at *
        clear hC
        go_wp2_with (go_at_call 13; refine (HLOG.out _).mono ?_; rintro e w' ⟨rfl, rfl⟩)
        go_round
        case rel => exact ⟨k + 1, by omega, by go_num, by rw [HMS.out]⟩
        case measure => simp [intOf]; omega
      · have ht : term cs W k = 0 := if_neg hpos
        rw [ht, Int.add_zero] at hms
        have HMS := Lib.hid hms
        clear hms hlog ht
        have hz : cnt cs k = 0 := by omega
        rw [hz] at hidx
        clear hz hpos hc hl1 hl2
        generalize ms cs W k = S at *
        go_wp2
        go_round
        case rel => exact ⟨k + 1, by omega, by go_num, by rw [HMS.out]⟩
        case measure => simp [intOf]; omega
    · obtain rfl : k = 256 := by omega
      go_wp2
      go_ret
      exact ⟨rfl, HB.out⟩
end Go.Proofs.Ytidpkkekoldkgaa.Ent
