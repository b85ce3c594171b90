import Derived.Test.YthofhljbipkiaaaDoorCkF
namespace Go.Proofs.YthofhljbipkiaaaDoor.Ck
open Go.RowKit
open Go.Proofs.YthofhljbipkiaaaDoor.Tp
set_option linter.unusedVariables false

set_option maxRecDepth 100000 in
set_option maxHeartbeats 1000000 in
theorem refholds_4 (s : ByteArray) (w : World) (hs : s.size ≤ 100000) : Calls Tryd.prog 20 #[.int .i64 4, .string s] w fun e w' => e = .returned (.bool (holds4 (nums s))) ∧ Below w.heap.size w w' := by
  have hL := Lib.hid (nums_length s)
  by_cases h2 : 2 ≤ s.size
  · have hd : decide ((2 : Int) ≤ (s.size : Int)) = true := by simp; omega
    have hn : (s.size : Int) - 1 = ((s.size - 1 : Nat) : Int) := by omega
    have hd2 : decide ((1 : Int) ≤ ((s.size - 1 : Nat) : Int)) = true := by simp; omega
    have hlt : s.size - 1 < s.size := by omega
    have hnb := nb_at s (s.size - 1) hlt
    have hfin := Lib.hid (holds4_val s h2)
    go_enter Tryd.func20, Tryd.ntmps20
    go_wp2
    go_quiet ((go_at_call 18; with_reducible exact Calls.quiet_of_same (same_of (reflet_any _ _ (Nat.le_trans (size_extract_le _ _ _) hs)))))
    go_wp2
    go_ret
    exact ⟨by rw [hfin.out]; rfl, below_drewN (Below.refl _ _) _⟩
  · have hd : decide ((2 : Int) ≤ (s.size : Int)) = false := by simp; omega
    have hfin := Lib.hid (show holds4 (nums s) = false by unfold holds4; rw [hL.out, show decide (2 ≤ s.size) = false by simp; omega]; rfl)
    go_enter Tryd.func20, Tryd.ntmps20
    go_wp2
    go_quiet (fail)
    go_wp2
    go_ret
    exact ⟨by rw [hfin.out]; rfl, below_drewN (Below.refl _ _) _⟩

set_option maxRecDepth 100000 in
set_option maxHeartbeats 1000000 in
theorem refholds_3 (s : ByteArray) (w : World) (hs : s.size ≤ 100000) : Calls Tryd.prog 20 #[.int .i64 3, .string s] w fun e w' => e = .returned (.bool (holds3 (nums s))) ∧ Below w.heap.size w w' := by
  have hL := Lib.hid (nums_length s)
  by_cases h9 : 9 ≤ s.size
  · have hd : decide ((9 : Int) ≤ (s.size : Int)) = true := by simp; omega
    have hn : (s.size : Int) - 8 = ((s.size - 8 : Nat) : Int) := by omega
    have hw : IntKind.i64.wrap ((s.size - 8 : Nat) : Int) = ((s.size - 8 : Nat) : Int) := IntWalk.i64_in _ (by omega)
    have hfin := Lib.hid (show holds3 (nums s) = ((s.extract (s.size - 8) s.size).toList == (strB (hexL (crc (nums (s.extract 0 (s.size - 8)))) 8)).toList) by
      unfold holds3
      rw [str_eq, nums_strB (hexL_le _ _), hL.out, nums_drop, nums_take, show decide (9 ≤ s.size) = true by simpa using h9]
      rfl)
    go_enter Tryd.func20, Tryd.ntmps20
    go_wp2
    go_region_held3 (fun w' => Below w.heap.size w w')
      (first | exact Below.refl _ _ | exact (Below.refl _ _).drew | assumption)
      (first
        | (go_at_call 16; refine (refcrc_any _ _ (Nat.le_trans (size_extract_le _ _ _) hs)).mono ?_; rintro e w1 ⟨rfl, rfl⟩)
        | (go_at_call 29; refine (hex_any _ _ (crc_lt _)).mono ?_; rintro e w1 ⟨rfl, hb⟩; have hb2 := below_one hb))
    go_wp2
    go_ret
    exact ⟨by rw [hfin.out]; rfl, hb2⟩
  · have hd : decide ((9 : Int) ≤ (s.size : Int)) = false := by simp; omega
    have hfin := Lib.hid (show holds3 (nums s) = false by unfold holds3; rw [hL.out, show decide (9 ≤ s.size) = false by simp; omega]; rfl)
    go_enter Tryd.func20, Tryd.ntmps20
    go_wp2
    go_quiet (fail)
    go_wp2
    go_ret
    exact ⟨by rw [hfin.out]; rfl, below_drewN (Below.refl _ _) _⟩

set_option maxRecDepth 100000 in
set_option maxHeartbeats 1000000 in
theorem refholds_any (c : Int) (s : ByteArray) (w : World) (hs : s.size ≤ 100000) : Calls Tryd.prog 20 #[.int .i64 c, .string s] w fun e w' => e = .returned (.bool (holds c (nums s))) ∧ Below w.heap.size w w' := by
  by_cases c0 : c = 0
  · subst c0
    go_enter Tryd.func20, Tryd.ntmps20
    go_wp2
    go_ret
    exact ⟨rfl, Below.refl _ _⟩
  by_cases c1 : c = 1
  · subst c1
    go_enter Tryd.func20, Tryd.ntmps20
    go_wp2_with (go_at_call 12; refine (refluhn_any _ _ hs).mono ?_; rintro e w1 ⟨rfl, rfl⟩)
    go_ret
    exact ⟨rfl, Below.refl _ _⟩
  by_cases c2 : c = 2
  · subst c2
    go_enter Tryd.func20, Tryd.ntmps20
    go_wp2_with (go_at_call 14; refine (refmod97_any _ _ hs).mono ?_; rintro e w1 ⟨rfl, rfl⟩)
    go_ret
    exact ⟨rfl, Below.refl _ _⟩
  by_cases c3 : c = 3
  · subst c3
    exact refholds_3 s w hs
  by_cases c4 : c = 4
  · subst c4
    exact refholds_4 s w hs
  · have hv := Lib.hid (show holds c (nums s) = false by unfold holds; rw [if_neg c0, if_neg c1, if_neg c2, if_neg c3, if_neg c4])
    have q0 : (c == 0) = false := by simpa using c0
    have q1 : (c == 1) = false := by simpa using c1
    have q2 : (c == 2) = false := by simpa using c2
    have q3 : (c == 3) = false := by simpa using c3
    have q4 : (c == 4) = false := by simpa using c4
    go_enter Tryd.func20, Tryd.ntmps20
    go_wp2
    go_ret
    exact ⟨by rw [hv.out]; rfl, Below.refl _ _⟩


end Go.Proofs.YthofhljbipkiaaaDoor.Ck
