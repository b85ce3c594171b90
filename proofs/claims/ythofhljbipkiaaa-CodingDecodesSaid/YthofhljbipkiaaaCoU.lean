import Derived.Test.YthofhljbipkiaaaCoT
import Derived.Test.YthofhljbipkiaaaCoE
namespace Go.Proofs.Ythofhljbipkiaaa.Co
open Go.RowKit
open Go.Proofs.Ythofhljbipkiaaa.Tp
set_option linter.unusedVariables false

/-- How many signs of a group stand in front of its '='. -/
def gN (c d : Nat) : Nat := if d = 61 then (if c = 61 then 2 else 3) else 4

def b64D : List Nat → Option (List Nat)
  | [] => some []
  | a :: b :: c :: d :: r => if gN c d < 4 ∧ 0 < r.length then none else match grpB ([a, b, c, d].take (gN c d)) with
      | none => none
      | some g => (b64D r).map (g ++ ·)
  | _ => none

theorem b64D_len : ∀ {l : List Nat}, l.length % 4 ≠ 0 → b64D l = none
  | [], h => by simp at h
  | [_], _ => rfl
  | [_, _], _ => rfl
  | [_, _, _], _ => rfl
  | a :: b :: c :: d :: r, h => by
    have ih := b64D_len (l := r) (by simp at h; omega)
    rw [b64D, ih]
    split
    · rfl
    · split <;> rfl

theorem grpB_len {l g : List Nat} (h : grpB l = some g) (h2 : 2 ≤ l.length) (h4 : l.length ≤ 4) : 0 < g.length ∧ g.length ≤ 3 := by
  unfold grpB at h
  split at h
  · split at h
    · cases h
      simp
      omega
    · cases h
  · cases h

theorem gN_or (c d : Nat) : (d ≠ 61 ∧ gN c d = 4) ∨ (d = 61 ∧ c ≠ 61 ∧ gN c d = 3) ∨ (d = 61 ∧ c = 61 ∧ gN c d = 2) := by
  unfold gN
  split
  · split
    · exact .inr (.inr ⟨by assumption, by assumption, rfl⟩)
    · exact .inr (.inl ⟨by assumption, by assumption, rfl⟩)
  · exact .inl ⟨by assumption, rfl⟩

set_option maxHeartbeats 1000000 in
theorem gsigns_any (s : ByteArray) (w : World) (hs : s.size = 4) : Calls Try.prog 56 #[.string s] w fun e w' => e = .returned (.int .i64 (gN (nb s 2) (nb s 3) : Nat)) ∧ w = w' := by
  have n2 := nb_at s 2 (by omega)
  have n3 := nb_at s 3 (by omega)
  have h2 : 2 < s.size := by omega
  have h3 : 3 < s.size := by omega
  generalize nb s 2 = c at *
  generalize nb s 3 = d at *
  rcases gN_or c d with ⟨hd, e⟩ | ⟨rfl, hc, e⟩ | ⟨rfl, rfl, e⟩
  · have q1 : ((d : Int) == 61) = false := beq_eq_false_iff_ne.2 (by omega)
    rw [e]
    go_enter Try.func56, Try.ntmps56
    go_wp2
    go_ret
    exact ⟨rfl, rfl⟩
  · have q1 : ((c : Int) == 61) = false := beq_eq_false_iff_ne.2 (by omega)
    rw [e]
    go_enter Try.func56, Try.ntmps56
    go_wp2
    go_ret
    exact ⟨rfl, rfl⟩
  · rw [e]
    go_enter Try.func56, Try.ntmps56
    go_wp2
    go_ret
    exact ⟨rfl, rfl⟩

theorem nums4 {t : ByteArray} (h : 4 ≤ t.size) : nums t = nb t 0 :: nb t 1 :: nb t 2 :: nb t 3 :: nums (t.extract 4 t.size) := by
  have hl := nums_length t
  rw [nums_drop]
  unfold nb
  generalize nums t = l at *
  match l, hl with
  | [], hl => simp at hl; omega
  | [_], hl => simp at hl; omega
  | [_, _], hl => simp at hl; omega
  | [_, _, _], hl => simp at hl; omega
  | a :: b :: c :: d :: r, _ => rfl

theorem nb_take (t : ByteArray) (n j : Nat) (hj : j < n) : nb (t.extract 0 n) j = nb t j := by
  unfold nb
  rw [nums_take, List.getD_eq_getElem?_getD, List.getD_eq_getElem?_getD, List.getElem?_take, if_pos hj]

set_option maxRecDepth 100000 in
set_option maxHeartbeats 4000000 in
theorem fromb64_any (s : ByteArray) (w : World) (hs : s.size ≤ 1000000) : Calls Try.prog 36 #[.string s] w (OptPost (b64D (nums s)) w) := by
  by_cases h4 : s.size % 4 = 0
  · have hm : (s.size : Int).tmod 4 = 0 := by rw [Int.tmod_eq_emod_of_nonneg (by omega)]; omega
    have hm2 : (s.size : Int) % 4 = 0 := by omega
    go_enter Try.func36, Try.ntmps36
    go_wp2_with fail
    go_loopw [0, 4] (fun u v wr => ∃ (t : ByteArray) (xs : List Nat), u = .string t ∧ t.size % 4 = 0 ∧ ERel w xs v wr ∧ xs.length + t.size ≤ s.size ∧ b64D (nums s) = (b64D (nums t)).map (xs ++ ·)) (fun u _ _ => strLen u)
    case atStart => exact ⟨s, [], rfl, h4, ERel.start w, by simp, by simp⟩
    case round =>
      obtain ⟨t, xs, rfl, ht4, hrel, hlen, hval⟩ := hrel
      have HR := Lib.hid hrel
      have hbw := hrel.2.size
      have HV := Lib.hid hval
      clear hrel hval
      by_cases h0 : t.size = 0
      · have HF : Hid (b64D (nums s) = some xs) := by
          show _ = _
          rw [HV.out, show nums t = [] from List.eq_nil_of_length_eq_zero (by rw [nums_length]; exact h0)]
          simp [b64D]
        obtain rfl := empty_eq h0
        go_wp2
        go_ret2
        exact ⟨by rw [HF]; exact ⟨_, rfl, HR.out⟩, HR.out.2⟩
      · have hne := ne_empty2 (s := t) (by omega)
        have hne2 := ne_empty3 (s := t) (by omega)
        have ht : 4 ≤ t.size := by omega
        have hti : (4 : Int) ≤ (t.size : Int) := by omega
        have hrs : (t.extract 4 t.size).size + 4 = t.size := by rw [ByteArray.size_extract]; omega
        have hcons := nums4 ht
        have HC := Lib.hid hcons
        have hq : (t.extract 0 4).size = 4 := by rw [ByteArray.size_extract]; omega
        have hgs := fun w => gsigns_any (t.extract 0 4) w hq
        rw [nb_take t 4 2 (by omega), nb_take t 4 3 (by omega)] at hgs
        have HGS := Lib.hid hgs
        have HRL := Lib.hid (nums_length (t.extract 4 t.size))
        clear hcons hgs hq
        rcases gN_or (nb t 2) (nb t 3) with ⟨hd, e⟩ | ⟨hd, hc, e⟩ | ⟨hd, hc, e⟩
        · have hqs : (t.extract 0 4).size = 4 := by rw [ByteArray.size_extract]; omega
          have hgb := fun w => grp4_any (t.extract 0 4) w hqs
          rw [nums_take, HC.out] at hgb
          have HGB := Lib.hid (show ∀ w, Calls Try.prog 57 #[.string (t.extract 0 4)] w (GrpPost (grpB [nb t 0, nb t 1, nb t 2, nb t 3]) w) from hgb)
          have HE := Lib.hid (show b64D (nums t) = match grpB [nb t 0, nb t 1, nb t 2, nb t 3] with | none => none | some g => (b64D (nums (t.extract 4 t.size))).map (g ++ ·) by
            rw [HC.out, b64D, if_neg (by rw [e]; omega), e]
            rfl)
          clear hgb hqs
          cases hg : grpB [nb t 0, nb t 1, nb t 2, nb t 3] with
          | none =>
            have HF : Hid (b64D (nums s) = none) := by
              show _ = _
              rw [HV.out, HE.out, hg]
              rfl
            have HG := Lib.hid hg
            clear hg
            go_wp2_with (first
              | (go_at_call 56; refine (HGS.out _).mono ?_; rintro e1 w1 ⟨rfl, rfl⟩; rw [e])
              | (go_at_call 57; refine (HGB.out _).mono ?_; rintro e1 w1 ⟨h1, hb⟩; rw [HG.out] at h1; obtain rfl := h1; have HB := Lib.hid (HR.out.2.trans (hb.mono hbw)); clear hb))
            go_ret2
            exact ⟨by rw [HF]; rfl, HB.out⟩
          | some g =>
            obtain ⟨g0, g3⟩ := grpB_len hg (by simp) (by simp)
            have HF : Hid (b64D (nums s) = (b64D (nums (t.extract 4 t.size))).map ((xs ++ g) ++ ·)) := by
              show _ = _
              rw [HV.out, HE.out, hg]
              show Option.map _ (Option.map _ _) = _
              rw [Option.map_map]
              congr 1
              funext z
              simp
            have HG := Lib.hid hg
            clear hg
            go_wp2_with (first
              | (go_at_call 56; refine (HGS.out _).mono ?_; rintro e1 w1 ⟨rfl, rfl⟩; rw [e])
              | (go_at_call 57; refine (HGB.out _).mono ?_; rintro e1 w1 ⟨h1, hb⟩; rw [HG.out] at h1; obtain ⟨v1, rfl, hby1⟩ := h1; have HB := Lib.hid hb; have hs1 := hb.size; have HO1 := Lib.hid (own_bel HR.out.1 hb); have HBY := Lib.hid hby1; clear hb hby1)
              | (at_builtin; refine wp_by (by rfl) (.tmp 35) (.tmp 36) (by rfl) w.heap.size u4 v1 xs g (by rfl) (by rfl) HO1.out HBY.out g0 (by omega) (Nat.le_trans hbw hs1) ?_; intro v' w3 hown hgr; have HO := Lib.hid (HR.out.more HB.out hown hgr); clear hown hgr))
            exact ⟨⟨t.extract 4 t.size, xs ++ g, rfl, by omega, HO.out, by rw [List.length_append]; omega, HF⟩, by show (t.extract 4 t.size).size < t.size; omega⟩
        · by_cases hbig : 4 < t.size
          · have hbi : (4 : Int) < (t.size : Int) := by omega
            have HF : Hid (b64D (nums s) = none) := by
              show _ = _
              rw [HV.out, HC.out, b64D, if_pos (by rw [e, HRL.out]; omega)]
              rfl
            go_wp2_with (go_at_call 56; refine (HGS.out _).mono ?_; rintro e1 w1 ⟨rfl, rfl⟩; rw [e])
            go_ret2
            exact ⟨by rw [HF]; rfl, HR.out.2⟩
          · have hbi : ¬ (4 : Int) < (t.size : Int) := by omega
            have hti2 : (3 : Int) ≤ (t.size : Int) := by omega
            have hqs : (t.extract 0 3).size = 3 := by rw [ByteArray.size_extract]; omega
            have hgb := fun w => grp3_any (t.extract 0 3) w hqs
            rw [nums_take, HC.out] at hgb
            have HGB := Lib.hid (show ∀ w, Calls Try.prog 57 #[.string (t.extract 0 3)] w (GrpPost (grpB [nb t 0, nb t 1, nb t 2]) w) from hgb)
            have HE := Lib.hid (show b64D (nums t) = match grpB [nb t 0, nb t 1, nb t 2] with | none => none | some g => (b64D (nums (t.extract 4 t.size))).map (g ++ ·) by
              rw [HC.out, b64D, if_neg (by rw [e]; rw [HRL.out]; omega), e]
              rfl)
            clear hgb hqs
            cases hg : grpB [nb t 0, nb t 1, nb t 2] with
            | none =>
              have HF : Hid (b64D (nums s) = none) := by
                show _ = _
                rw [HV.out, HE.out, hg]
                rfl
              have HG := Lib.hid hg
              clear hg
              go_wp2_with (first
                | (go_at_call 56; refine (HGS.out _).mono ?_; rintro e1 w1 ⟨rfl, rfl⟩; rw [e])
                | (go_at_call 57; refine (HGB.out _).mono ?_; rintro e1 w1 ⟨h1, hb⟩; rw [HG.out] at h1; obtain rfl := h1; have HB := Lib.hid (HR.out.2.trans (hb.mono hbw)); clear hb))
              go_ret2
              exact ⟨by rw [HF]; rfl, HB.out⟩
            | some g =>
              obtain ⟨g0, g3⟩ := grpB_len hg (by simp) (by simp)
              have HF : Hid (b64D (nums s) = (b64D (nums (t.extract 4 t.size))).map ((xs ++ g) ++ ·)) := by
                show _ = _
                rw [HV.out, HE.out, hg]
                show Option.map _ (Option.map _ _) = _
                rw [Option.map_map]
                congr 1
                funext z
                simp
              have HG := Lib.hid hg
              clear hg
              go_wp2_with (first
                | (go_at_call 56; refine (HGS.out _).mono ?_; rintro e1 w1 ⟨rfl, rfl⟩; rw [e])
                | (go_at_call 57; refine (HGB.out _).mono ?_; rintro e1 w1 ⟨h1, hb⟩; rw [HG.out] at h1; obtain ⟨v1, rfl, hby1⟩ := h1; have HB := Lib.hid hb; have hs1 := hb.size; have HO1 := Lib.hid (own_bel HR.out.1 hb); have HBY := Lib.hid hby1; clear hb hby1)
                | (at_builtin; refine wp_by (by rfl) (.tmp 35) (.tmp 36) (by rfl) w.heap.size u4 v1 xs g (by rfl) (by rfl) HO1.out HBY.out g0 (by omega) (Nat.le_trans hbw hs1) ?_; intro v' w3 hown hgr; have HO := Lib.hid (HR.out.more HB.out hown hgr); clear hown hgr))
              exact ⟨⟨t.extract 4 t.size, xs ++ g, rfl, by omega, HO.out, by rw [List.length_append]; omega, HF⟩, by show (t.extract 4 t.size).size < t.size; omega⟩
        · by_cases hbig : 4 < t.size
          · have hbi : (4 : Int) < (t.size : Int) := by omega
            have HF : Hid (b64D (nums s) = none) := by
              show _ = _
              rw [HV.out, HC.out, b64D, if_pos (by rw [e, HRL.out]; omega)]
              rfl
            go_wp2_with (go_at_call 56; refine (HGS.out _).mono ?_; rintro e1 w1 ⟨rfl, rfl⟩; rw [e])
            go_ret2
            exact ⟨by rw [HF]; rfl, HR.out.2⟩
          · have hbi : ¬ (4 : Int) < (t.size : Int) := by omega
            have hti2 : (2 : Int) ≤ (t.size : Int) := by omega
            have hqs : (t.extract 0 2).size = 2 := by rw [ByteArray.size_extract]; omega
            have hgb := fun w => grp2_any (t.extract 0 2) w hqs
            rw [nums_take, HC.out] at hgb
            have HGB := Lib.hid (show ∀ w, Calls Try.prog 57 #[.string (t.extract 0 2)] w (GrpPost (grpB [nb t 0, nb t 1]) w) from hgb)
            have HE := Lib.hid (show b64D (nums t) = match grpB [nb t 0, nb t 1] with | none => none | some g => (b64D (nums (t.extract 4 t.size))).map (g ++ ·) by
              rw [HC.out, b64D, if_neg (by rw [e]; rw [HRL.out]; omega), e]
              rfl)
            clear hgb hqs
            cases hg : grpB [nb t 0, nb t 1] with
            | none =>
              have HF : Hid (b64D (nums s) = none) := by
                show _ = _
                rw [HV.out, HE.out, hg]
                rfl
              have HG := Lib.hid hg
              clear hg
              go_wp2_with (first
                | (go_at_call 56; refine (HGS.out _).mono ?_; rintro e1 w1 ⟨rfl, rfl⟩; rw [e])
                | (go_at_call 57; refine (HGB.out _).mono ?_; rintro e1 w1 ⟨h1, hb⟩; rw [HG.out] at h1; obtain rfl := h1; have HB := Lib.hid (HR.out.2.trans (hb.mono hbw)); clear hb))
              go_ret2
              exact ⟨by rw [HF]; rfl, HB.out⟩
            | some g =>
              obtain ⟨g0, g3⟩ := grpB_len hg (by simp) (by simp)
              have HF : Hid (b64D (nums s) = (b64D (nums (t.extract 4 t.size))).map ((xs ++ g) ++ ·)) := by
                show _ = _
                rw [HV.out, HE.out, hg]
                show Option.map _ (Option.map _ _) = _
                rw [Option.map_map]
                congr 1
                funext z
                simp
              have HG := Lib.hid hg
              clear hg
              go_wp2_with (first
                | (go_at_call 56; refine (HGS.out _).mono ?_; rintro e1 w1 ⟨rfl, rfl⟩; rw [e])
                | (go_at_call 57; refine (HGB.out _).mono ?_; rintro e1 w1 ⟨h1, hb⟩; rw [HG.out] at h1; obtain ⟨v1, rfl, hby1⟩ := h1; have HB := Lib.hid hb; have hs1 := hb.size; have HO1 := Lib.hid (own_bel HR.out.1 hb); have HBY := Lib.hid hby1; clear hb hby1)
                | (at_builtin; refine wp_by (by rfl) (.tmp 35) (.tmp 36) (by rfl) w.heap.size u4 v1 xs g (by rfl) (by rfl) HO1.out HBY.out g0 (by omega) (Nat.le_trans hbw hs1) ?_; intro v' w3 hown hgr; have HO := Lib.hid (HR.out.more HB.out hown hgr); clear hown hgr))
              exact ⟨⟨t.extract 4 t.size, xs ++ g, rfl, by omega, HO.out, by rw [List.length_append]; omega, HF⟩, by show (t.extract 4 t.size).size < t.size; omega⟩
  · have hm : (s.size : Int).tmod 4 ≠ 0 := by rw [Int.tmod_eq_emod_of_nonneg (by omega)]; omega
    obtain ⟨m, hmm⟩ : ∃ m, s.size % 4 = m := ⟨_, rfl⟩
    have hm1 : (s.size : Int).tmod 4 = (m : Int) := by rw [Int.tmod_eq_emod_of_nonneg (by omega)]; omega
    have hm2 : (s.size : Int) % 4 = (m : Int) := by omega
    have hmb : ((m : Int) == 0) = false := beq_eq_false_iff_ne.2 (by omega)
    have hmn : ¬ m = 0 := by omega
    have hmw : IntKind.i64.wrap (m : Int) = (m : Int) := IntWalk.i64_in _ (by omega)
    rw [b64D_len (by rw [nums_length]; exact h4)]
    clear hm
    go_enter Try.func36, Try.ntmps36
    go_wp2
    go_ret2
    exact ⟨rfl, Below.refl _ _⟩

end Go.Proofs.Ythofhljbipkiaaa.Co
