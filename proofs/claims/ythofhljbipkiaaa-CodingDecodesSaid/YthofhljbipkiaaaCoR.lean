import Derived.Test.YthofhljbipkiaaaCoM
namespace Go.Proofs.Ythofhljbipkiaaa.Co
open Go.RowKit
open Go.Proofs.Ythofhljbipkiaaa.Tp
set_option linter.unusedVariables false

/-- Bytes, or none. -/
def OptPost (D : Option (List Nat)) (w : World) (e : Ending) (w' : World) : Prop :=
  (match D with
    | none => e = .returned (.tuple #[.slice none 0 0, .bool false])
    | some xs => ∃ v, e = .returned (.tuple #[v, .bool true]) ∧ ERel w xs v w') ∧ Below w.heap.size w w'

def hexD : List Nat → Option (List Nat)
  | [] => some []
  | [_] => none
  | a :: b :: r => if hexB a && hexB b then (hexD r).map ((hv a * 16 + hv b) :: ·) else none

theorem hexD_none {l : List Nat} (h : hxP l = none) (h0 : 0 < l.length) : hexD l = none := by
  match l, h, h0 with
  | [a], _, _ => rfl
  | a :: b :: r, h, _ =>
    simp only [hxP] at h
    simp only [hexD]
    split at h
    · cases h
    · rename_i hh
      rw [if_neg hh]

theorem hexD_some {l : List Nat} {c : Nat} (h : hxP l = some c) : hexD l = (hexD (l.drop 2)).map (c :: ·) := by
  match l, h with
  | a :: b :: r, h =>
    simp only [hxP] at h
    simp only [hexD]
    split at h
    · rename_i hh
      rw [if_pos hh]
      cases h
      rfl
    · cases h

def strLen : Value → Nat
  | .string t => t.size
  | _ => 0

set_option maxRecDepth 100000 in
set_option maxHeartbeats 2000000 in
theorem fromhex_any (s : ByteArray) (w : World) (hs : s.size ≤ 1000000) : Calls Try.prog 47 #[.string s] w (OptPost (hexD (nums s)) w) := by
  obtain ⟨i0, hi, hz0, hz1, hz2⟩ := info_parts info5
  obtain ⟨C, hC⟩ : ∃ C, s.size / 2 = C := ⟨_, rfl⟩
  obtain ⟨W, hmk, hown, hg⟩ := run_make_own (P := Try.prog) w w.heap.size 23 5 i0 (.int .u8 0) 1 Try.underlying23 hi hz0 hz1 .i64 .i64 C (by rw [hz2]; omega) (by unfold maxLen; omega) (Nat.le_refl _)
  have HREL := Lib.hid (show ERel w [] (.slice (some ⟨w.heap.size, 0, none⟩) 0 C) W from ⟨hown, (Below.refl _ _).grown hg (Nat.le_refl _) (fun g e => by cases e)⟩)
  have hCi : (s.size : Int).tdiv 2 = (C : Int) := by rw [Int.tdiv_eq_ediv_of_nonneg (by omega)]; omega
  have hCi2 : (s.size : Int) / 2 = (C : Int) := by omega
  have hCw : IntKind.i64.wrap (C : Int) = (C : Int) := IntWalk.i64_in _ (by omega)
  clear hi hz0 hz1 hz2 hown hg hC
  go_enter Try.func47, Try.ntmps47
  go_wp2_with fail
  go_loopw [0, 4] (fun u v wr => ∃ (t : ByteArray) (xs : List Nat), u = .string t ∧ t.size ≤ s.size ∧ ERel w xs v wr ∧ xs.length + t.size ≤ s.size ∧ hexD (nums s) = (hexD (nums t)).map (xs ++ ·)) (fun u _ _ => strLen u)
  case atStart => exact ⟨s, [], rfl, Nat.le_refl _, HREL.out, by simp, by simp⟩
  case round =>
    obtain ⟨t, xs, rfl, hts, hrel, hlen, hval⟩ := hrel
    have HR := Lib.hid hrel
    have hbw := hrel.2.size
    have HV := Lib.hid hval
    clear hrel hval
    by_cases h0 : t.size = 0
    · have HF : Hid (hexD (nums s) = some xs) := by
        show _ = _
        rw [HV.out, show nums t = [] from List.eq_nil_of_length_eq_zero (by rw [nums_length]; exact h0)]
        simp [hexD]
      obtain rfl := empty_eq h0
      go_wp2
      go_ret2
      exact ⟨by rw [HF]; exact ⟨_, rfl, HR.out⟩, HR.out.2⟩
    · have hne := ne_empty2 (s := t) (by omega)
      have hne2 := ne_empty3 (s := t) (by omega)
      have HX := Lib.hid (nums_length t)
      cases hh : hxP (nums t) with
      | none =>
        have HF : Hid (hexD (nums s) = none) := by
          show _ = _
          rw [HV.out, hexD_none hh (by rw [HX.out]; omega)]
          rfl
        have HH := Lib.hid hh
        clear hh
        go_wp2_with (go_at_call 64; refine (hexbyte_any _ _).mono ?_; rintro e w1 ⟨rfl, hb⟩; rw [HH.out]; dsimp only [hxV]; have HB := Lib.hid (HR.out.2.trans (hb.mono hbw)); clear hb)
        go_ret2
        exact ⟨by rw [HF]; rfl, HB.out⟩
      | some c =>
        obtain ⟨hc255, h2⟩ := hxP_le hh
        rw [HX.out] at h2
        have h2i : (2 : Int) ≤ (t.size : Int) := by omega
        have hsz : (t.extract 2 t.size).size + 2 = t.size := by rw [ByteArray.size_extract]; omega
        have HF : Hid (hexD (nums s) = (hexD (nums (t.extract 2 t.size))).map ((xs ++ [c]) ++ ·)) := by
          show _ = _
          rw [HV.out, hexD_some hh, nums_drop, Option.map_map]
          congr 1
          funext z
          simp
        have HH := Lib.hid hh
        clear hh
        go_wp2_with (first
          | (go_at_call 64; refine (hexbyte_any _ _).mono ?_; rintro e w1 ⟨rfl, hb⟩; rw [HH.out]; dsimp only [hxV]; have HB := Lib.hid hb; have hs1 := hb.size; have HO1 := Lib.hid (own_bel HR.out.1 hb); clear hb)
          | (at_builtin; refine wp_lit (by rfl) (.tmp 22) (.tmp 24) (by rfl) w.heap.size u4 xs [c] (by rfl) (by rfl) (by rfl) HO1.out (by simp; omega) (Nat.le_trans hbw hs1) ?_; intro v' w3 hown hgr; have HO := Lib.hid (HR.out.more (HB.out.trans ((box_below _ _).mono hs1)) hown hgr); clear hown hgr))
        exact ⟨⟨t.extract 2 t.size, xs ++ [c], rfl, by omega, HO.out, by simp; omega, HF⟩, by show (t.extract 2 t.size).size < t.size; omega⟩

end Go.Proofs.Ythofhljbipkiaaa.Co
