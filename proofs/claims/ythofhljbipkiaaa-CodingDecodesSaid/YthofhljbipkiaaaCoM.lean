import Derived.Test.YthofhljbipkiaaaCoL
import Derived.Test.YthofhljbipkiaaaCoF
namespace Go.Proofs.Ythofhljbipkiaaa.Co
open Go.RowKit
open Go.Proofs.Ythofhljbipkiaaa.Tp
set_option linter.unusedVariables false

/-- What is handed back: the bytes, or none. -/
def UmPost (m : Nat) (R : List Nat → Option (Nat × Nat)) (s : ByteArray) (w : World) (e : Ending) (w' : World) : Prop :=
  (match um m R (nums s) with
    | none => e = .returned (.tuple #[.slice none 0 0, .bool false])
    | some xs => ∃ v, e = .returned (.tuple #[v, .bool true]) ∧ ERel w xs v w') ∧ Below w.heap.size w w'

set_option maxRecDepth 100000 in
set_option maxHeartbeats 2000000 in
theorem pctmark_any (s : ByteArray) (w : World) (hs : s.size ≤ 1000000) : Calls Try.prog 48 #[.string s, .int .u8 37, .func (.func 49) #[] #[]] w (UmPost 37 pR s w) := by
  have hL := nums_length s
  have HL := Lib.hid hL
  clear hL
  go_enter Try.func48, Try.ntmps48
  go_wp2_with fail
  go_loopw [8, 9] (fun u i wr => ∃ (k : Nat) (xs : List Nat), k ≤ s.size ∧ i = .int .i64 (k : Int) ∧ ERel w xs u wr ∧ xs.length ≤ k ∧ um 37 pR (nums s) = (um 37 pR ((nums s).drop k)).map (xs ++ ·)) (fun _ i _ => s.size - (intOf i).toNat)
  case atStart => exact ⟨0, [], by omega, rfl, ERel.start w, by simp, by simp⟩
  case round =>
    obtain ⟨k, xs, hk, rfl, hrel, hlen, hval⟩ := hrel
    have HR := Lib.hid hrel
    have hbw := hrel.2.size
    have HV := Lib.hid hval
    clear hrel hval
    by_cases hlt : k < s.size
    · have hki : (k : Int) < (s.size : Int) := by omega
      have hnb := nb_at s k hlt
      obtain ⟨k1, hk1⟩ : ∃ k1, k + 1 = k1 := ⟨_, rfl⟩
      have e1 : (k : Int) + 1 = (k1 : Int) := by omega
      have e1w : IntKind.i64.wrap (k1 : Int) = (k1 : Int) := IntWalk.i64_in _ (by omega)
      have k1n : (k1 : Int) ≤ (s.size : Int) := by omega
      have k1m : k1 ≤ s.size := by omega
      have HD := Lib.hid (show (nums s).drop k = nb s k :: (nums s).drop k1 by rw [← hk1]; unfold nb; rw [drop_cons (by rw [HL.out]; exact hlt)])
      generalize nb s k = x at *
      by_cases hx : x = 37
      · subst hx
        have hrn := nums_drop s k1
        have HRN := Lib.hid hrn
        have hrl : (s.extract k1 s.size).size + k1 = s.size := by rw [ByteArray.size_extract]; omega
        have hnl := nums_length (s.extract k1 s.size)
        have HNL := Lib.hid hnl
        clear hrn hnl
        go_wp2_with fail
        refine (pctbyte_any (s.extract k1 s.size) _).mono ?_
        rintro e w1 ⟨⟨c, q, b, rfl, hcs⟩, hb⟩
        have HB := Lib.hid hb
        clear hb
        rcases hcs with ⟨rfl, hR⟩ | ⟨rfl, hR⟩
        · obtain ⟨hc255, hq3, hql⟩ := pR_le hR
          have HRR := Lib.hid hR
          obtain ⟨k2, hk2⟩ : ∃ k2, k + q = k2 := ⟨_, rfl⟩
          have e2 : (k : Int) + (q : Int) = (k2 : Int) := by omega
          have e2w : IntKind.i64.wrap (k2 : Int) = (k2 : Int) := IntWalk.i64_in _ (by omega)
          obtain ⟨k3, hk3⟩ : ∃ k3, k2 + 1 = k3 := ⟨_, rfl⟩
          have e3 : (k2 : Int) + 1 = (k3 : Int) := by omega
          have e3w : IntKind.i64.wrap (k3 : Int) = (k3 : Int) := IntWalk.i64_in _ (by omega)
          have hk3s : k3 ≤ s.size := by rw [HNL.out] at hql; omega
          have HO1 := Lib.hid (own_bel HR.out.1 HB.out)
          have hs1 := HB.out.size
          have hF : um 37 pR (nums s) = (um 37 pR ((nums s).drop k3)).map ((xs ++ [c]) ++ ·) := by
            rw [HV.out, HD.out, um_some (by rw [← HRN.out]; exact HRR.out), List.drop_drop, show k1 + q = k3 by omega, Option.map_map]
            congr 1
            funext z
            simp
          have HF := Lib.hid hF
          clear hF hR
          go_wp2_with (at_builtin; refine wp_lit (by rfl) (.tmp 42) (.tmp 44) (by rfl) w.heap.size u8 xs [c] (by rfl) (by rfl) (by rfl) HO1.out (by simp; omega) (Nat.le_trans hbw hs1) ?_; intro v' w3 hown hgr; have HO := Lib.hid (HR.out.more (HB.out.trans ((box_below _ _).mono hs1)) hown hgr); clear hown hgr)
          exact ⟨⟨k3, xs ++ [c], by omega, by go_num, HO.out, by simp; omega, HF.out⟩, by simp [intOf]; omega⟩
        · have hF : um 37 pR (nums s) = none := by
            rw [HV.out, HD.out, um_none (by rw [← HRN.out]; exact hR)]
            rfl
          have HF := Lib.hid hF
          have HB2 := Lib.hid (HR.out.2.trans (HB.out.mono hbw))
          clear hF hR
          go_wp2_with fail
          go_ret2
          exact ⟨by rw [HF.out]; rfl, HB2.out⟩
      · have hxn : ((x : Int) == 37) = false := beq_eq_false_iff_ne.2 (by omega)
        have hF : um 37 pR (nums s) = (um 37 pR ((nums s).drop k1)).map ((xs ++ [x]) ++ ·) := by
          rw [HV.out, HD.out, um_off hx, Option.map_map]
          congr 1
          funext z
          simp
        have HF := Lib.hid hF
        clear hF
        go_wp2_with (at_builtin; refine wp_lit (by rfl) (.tmp 24) (.tmp 28) (by rfl) w.heap.size u8 xs [x] (by rfl) (by rfl) (by rfl) HR.out.1 (by simp; omega) hbw ?_; intro v' w3 hown hgr; have HO := Lib.hid (HR.out.more (box_below _ _) hown hgr); clear hown hgr)
        exact ⟨⟨k1, xs ++ [x], by omega, by go_num, HO.out, by simp; omega, HF.out⟩, by simp [intOf]; omega⟩
    · obtain rfl : k = s.size := by omega
      have HF := Lib.hid (show um 37 pR (nums s) = some xs by rw [HV.out, List.drop_eq_nil_of_le (by rw [HL.out]; exact Nat.le_refl _), um_nil]; simp)
      go_wp2
      go_ret2
      exact ⟨by rw [HF.out]; exact ⟨_, rfl, HR.out⟩, HR.out.2⟩

set_option maxRecDepth 100000 in
set_option maxHeartbeats 2000000 in
theorem escmark_any (s : ByteArray) (w : World) (hs : s.size ≤ 1000000) : Calls Try.prog 48 #[.string s, .int .u8 92, .func (.func 50) #[] #[]] w (UmPost 92 eR s w) := by
  have hL := nums_length s
  have HL := Lib.hid hL
  clear hL
  go_enter Try.func48, Try.ntmps48
  go_wp2_with fail
  go_loopw [8, 9] (fun u i wr => ∃ (k : Nat) (xs : List Nat), k ≤ s.size ∧ i = .int .i64 (k : Int) ∧ ERel w xs u wr ∧ xs.length ≤ k ∧ um 92 eR (nums s) = (um 92 eR ((nums s).drop k)).map (xs ++ ·)) (fun _ i _ => s.size - (intOf i).toNat)
  case atStart => exact ⟨0, [], by omega, rfl, ERel.start w, by simp, by simp⟩
  case round =>
    obtain ⟨k, xs, hk, rfl, hrel, hlen, hval⟩ := hrel
    have HR := Lib.hid hrel
    have hbw := hrel.2.size
    have HV := Lib.hid hval
    clear hrel hval
    by_cases hlt : k < s.size
    · have hki : (k : Int) < (s.size : Int) := by omega
      have hnb := nb_at s k hlt
      obtain ⟨k1, hk1⟩ : ∃ k1, k + 1 = k1 := ⟨_, rfl⟩
      have e1 : (k : Int) + 1 = (k1 : Int) := by omega
      have e1w : IntKind.i64.wrap (k1 : Int) = (k1 : Int) := IntWalk.i64_in _ (by omega)
      have k1n : (k1 : Int) ≤ (s.size : Int) := by omega
      have k1m : k1 ≤ s.size := by omega
      have HD := Lib.hid (show (nums s).drop k = nb s k :: (nums s).drop k1 by rw [← hk1]; unfold nb; rw [drop_cons (by rw [HL.out]; exact hlt)])
      generalize nb s k = x at *
      by_cases hx : x = 92
      · subst hx
        have hrn := nums_drop s k1
        have HRN := Lib.hid hrn
        have hrl : (s.extract k1 s.size).size + k1 = s.size := by rw [ByteArray.size_extract]; omega
        have hnl := nums_length (s.extract k1 s.size)
        have HNL := Lib.hid hnl
        clear hrn hnl
        go_wp2_with fail
        refine (escbyte_any (s.extract k1 s.size) _).mono ?_
        rintro e w1 ⟨⟨c, q, b, rfl, hcs⟩, hb⟩
        have HB := Lib.hid hb
        clear hb
        rcases hcs with ⟨rfl, hR⟩ | ⟨rfl, hR⟩
        · obtain ⟨hc255, hq3, hql⟩ := eR_le hR
          have HRR := Lib.hid hR
          obtain ⟨k2, hk2⟩ : ∃ k2, k + q = k2 := ⟨_, rfl⟩
          have e2 : (k : Int) + (q : Int) = (k2 : Int) := by omega
          have e2w : IntKind.i64.wrap (k2 : Int) = (k2 : Int) := IntWalk.i64_in _ (by omega)
          obtain ⟨k3, hk3⟩ : ∃ k3, k2 + 1 = k3 := ⟨_, rfl⟩
          have e3 : (k2 : Int) + 1 = (k3 : Int) := by omega
          have e3w : IntKind.i64.wrap (k3 : Int) = (k3 : Int) := IntWalk.i64_in _ (by omega)
          have hk3s : k3 ≤ s.size := by rw [HNL.out] at hql; omega
          have HO1 := Lib.hid (own_bel HR.out.1 HB.out)
          have hs1 := HB.out.size
          have hF : um 92 eR (nums s) = (um 92 eR ((nums s).drop k3)).map ((xs ++ [c]) ++ ·) := by
            rw [HV.out, HD.out, um_some (by rw [← HRN.out]; exact HRR.out), List.drop_drop, show k1 + q = k3 by omega, Option.map_map]
            congr 1
            funext z
            simp
          have HF := Lib.hid hF
          clear hF hR
          go_wp2_with (at_builtin; refine wp_lit (by rfl) (.tmp 42) (.tmp 44) (by rfl) w.heap.size u8 xs [c] (by rfl) (by rfl) (by rfl) HO1.out (by simp; omega) (Nat.le_trans hbw hs1) ?_; intro v' w3 hown hgr; have HO := Lib.hid (HR.out.more (HB.out.trans ((box_below _ _).mono hs1)) hown hgr); clear hown hgr)
          exact ⟨⟨k3, xs ++ [c], by omega, by go_num, HO.out, by simp; omega, HF.out⟩, by simp [intOf]; omega⟩
        · have hF : um 92 eR (nums s) = none := by
            rw [HV.out, HD.out, um_none (by rw [← HRN.out]; exact hR)]
            rfl
          have HF := Lib.hid hF
          have HB2 := Lib.hid (HR.out.2.trans (HB.out.mono hbw))
          clear hF hR
          go_wp2_with fail
          go_ret2
          exact ⟨by rw [HF.out]; rfl, HB2.out⟩
      · have hxn : ((x : Int) == 92) = false := beq_eq_false_iff_ne.2 (by omega)
        have hF : um 92 eR (nums s) = (um 92 eR ((nums s).drop k1)).map ((xs ++ [x]) ++ ·) := by
          rw [HV.out, HD.out, um_off hx, Option.map_map]
          congr 1
          funext z
          simp
        have HF := Lib.hid hF
        clear hF
        go_wp2_with (at_builtin; refine wp_lit (by rfl) (.tmp 24) (.tmp 28) (by rfl) w.heap.size u8 xs [x] (by rfl) (by rfl) (by rfl) HR.out.1 (by simp; omega) hbw ?_; intro v' w3 hown hgr; have HO := Lib.hid (HR.out.more (box_below _ _) hown hgr); clear hown hgr)
        exact ⟨⟨k1, xs ++ [x], by omega, by go_num, HO.out, by simp; omega, HF.out⟩, by simp [intOf]; omega⟩
    · obtain rfl : k = s.size := by omega
      have HF := Lib.hid (show um 92 eR (nums s) = some xs by rw [HV.out, List.drop_eq_nil_of_le (by rw [HL.out]; exact Nat.le_refl _), um_nil]; simp)
      go_wp2
      go_ret2
      exact ⟨by rw [HF.out]; exact ⟨_, rfl, HR.out⟩, HR.out.2⟩

end Go.Proofs.Ythofhljbipkiaaa.Co
