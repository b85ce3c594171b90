import Derived.Test.YthofhljbipkiaaaCoT
import Derived.Test.YthofhljbipkiaaaCoU
import Derived.Test.YthofhljbipkiaaaCoN
namespace Go.Proofs.Ythofhljbipkiaaa.Co
open Go.RowKit
open Go.Proofs.Ythofhljbipkiaaa.Tp
set_option linter.unusedVariables false

/-- The bytes of a text. -/
def decL (c : Int) (l : List Nat) : Option (List Nat) := if c = 1 then hexD l else if c = 2 then b64D l else if c = 3 then um 37 pR l else um 92 eR l

theorem lo_back : ∀ d, d < 16 → hexB (loC d) = true ∧ hv (loC d) = d := by decide
theorem hi_back : ∀ d, d < 16 → hexB (hiC d) = true ∧ hv (hiC d) = d := by decide
theorem sg_not : ∀ d, d < 64 → sgC d ≠ 61 := by decide

theorem hex_back {bs : List Nat} (h : ∀ b ∈ bs, b ≤ 255) : hexD (hexE bs) = some bs := by
  induction bs with
  | nil => rfl
  | cons b bs ih =>
    have hb := h b (by simp)
    obtain ⟨p1, p2⟩ := lo_back (b / 16) (by omega)
    obtain ⟨q1, q2⟩ := lo_back (b % 16) (by omega)
    show hexD (loC (b / 16) :: loC (b % 16) :: hexE bs) = _
    rw [hexD, p1, q1, Bool.and_self, if_pos rfl, ih (fun x hx => h x (by simp [hx])), p2, q2]
    show some (_ :: bs) = _
    congr 2
    omega

theorem pct_back {bs : List Nat} (h : ∀ b ∈ bs, b ≤ 255) : um 37 pR (pctE bs) = some bs := by
  induction bs with
  | nil => exact um_nil _ _
  | cons b bs ih =>
    have hb := h b (by simp)
    have ih := ih (fun x hx => h x (by simp [hx]))
    show um 37 pR (pctC b ++ pctE bs) = _
    unfold pctC
    split
    · rename_i hp
      have hne : b ≠ 37 := by
        rintro rfl
        exact absurd hp (by decide)
      show um 37 pR (b :: pctE bs) = _
      rw [um_off hne, ih]
      rfl
    · obtain ⟨p1, p2⟩ := hi_back (b / 16) (by omega)
      obtain ⟨q1, q2⟩ := hi_back (b % 16) (by omega)
      show um 37 pR (37 :: hiC (b / 16) :: hiC (b % 16) :: pctE bs) = _
      have hR : pR (hiC (b / 16) :: hiC (b % 16) :: pctE bs) = some (b, 2) := by
        unfold pR
        rw [hxP, p1, q1, Bool.and_self, if_pos rfl, p2, q2]
        show some (_, 2) = _
        congr 2
        omega
      rw [um_some hR]
      show Option.map _ (um 37 pR (pctE bs)) = _
      rw [ih]
      rfl

theorem esc_back {bs : List Nat} (h : ∀ b ∈ bs, b ≤ 255) : um 92 eR (escE bs) = some bs := by
  induction bs with
  | nil => exact um_nil _ _
  | cons b bs ih =>
    have hb := h b (by simp)
    have ih := ih (fun x hx => h x (by simp [hx]))
    show um 92 eR (escC b ++ escE bs) = _
    unfold escC
    split
    · subst b
      show um 92 eR (92 :: 110 :: escE bs) = _
      rw [um_some (c := 10) (n := 1) rfl]
      show Option.map _ (um 92 eR (escE bs)) = _
      rw [ih]
      rfl
    split
    · subst b
      show um 92 eR (92 :: 114 :: escE bs) = _
      rw [um_some (c := 13) (n := 1) rfl]
      show Option.map _ (um 92 eR (escE bs)) = _
      rw [ih]
      rfl
    split
    · subst b
      show um 92 eR (92 :: 116 :: escE bs) = _
      rw [um_some (c := 9) (n := 1) rfl]
      show Option.map _ (um 92 eR (escE bs)) = _
      rw [ih]
      rfl
    split
    · subst b
      show um 92 eR (92 :: 92 :: escE bs) = _
      rw [um_some (c := 92) (n := 1) rfl]
      show Option.map _ (um 92 eR (escE bs)) = _
      rw [ih]
      rfl
    split
    · obtain ⟨p1, p2⟩ := lo_back (b / 16) (by omega)
      obtain ⟨q1, q2⟩ := lo_back (b % 16) (by omega)
      show um 92 eR (92 :: 120 :: loC (b / 16) :: loC (b % 16) :: escE bs) = _
      have hR : eR (120 :: loC (b / 16) :: loC (b % 16) :: escE bs) = some (b, 3) := by
        show (hxP (loC (b / 16) :: loC (b % 16) :: escE bs)).map (fun c => (c, 3)) = _
        rw [hxP, p1, q1, Bool.and_self, if_pos rfl, p2, q2]
        show some (_, 3) = _
        congr 2
        omega
      rw [um_some hR]
      show Option.map _ (um 92 eR (escE bs)) = _
      rw [ih]
      rfl
    · show um 92 eR (b :: escE bs) = _
      rw [um_off (by assumption), ih]
      rfl

theorem vTo4 (a b c d : Nat) : vTo [a, b, c, d] 4 = ((sv a * 64 + sv b) * 64 + sv c) * 64 + sv d := by simp [vTo]
theorem vTo3 (a b c : Nat) : vTo [a, b, c] 4 = ((sv a * 64 + sv b) * 64 + sv c) * 64 := by simp [vTo]
theorem vTo2 (a b : Nat) : vTo [a, b] 4 = (sv a * 64 + sv b) * 4096 := by simp [vTo]; omega

theorem grp_full {a b c : Nat} (ha : a ≤ 255) (hb : b ≤ 255) (hc : c ≤ 255) : grpB [sgC (a / 4), sgC (a % 4 * 16 + b / 16), sgC (b % 16 * 4 + c / 64), sgC (c % 64)] = some [a, b, c] := by
  obtain ⟨p1, p2⟩ := sv_sgC (a / 4) (by omega)
  obtain ⟨q1, q2⟩ := sv_sgC (a % 4 * 16 + b / 16) (by omega)
  obtain ⟨r1, r2⟩ := sv_sgC (b % 16 * 4 + c / 64) (by omega)
  obtain ⟨s1, s2⟩ := sv_sgC (c % 64) (by omega)
  unfold grpB
  rw [vTo4, p2, q2, r2, s2, show [sgC (a / 4), sgC (a % 4 * 16 + b / 16), sgC (b % 16 * 4 + c / 64), sgC (c % 64)].all sgB = true by simp [p1, q1, r1, s1], if_pos rfl, if_pos (by rfl)]
  have e : ((a / 4 * 64 + (a % 4 * 16 + b / 16)) * 64 + (b % 16 * 4 + c / 64)) * 64 + c % 64 = a * 65536 + b * 256 + c := by omega
  rw [e]
  have e1 : (a * 65536 + b * 256 + c) / 65536 = a := by omega
  have e2 : (a * 65536 + b * 256 + c) / 256 % 256 = b := by omega
  have e3 : (a * 65536 + b * 256 + c) % 256 = c := by omega
  rw [e1, e2, e3]
  rfl

theorem grp_two {a b : Nat} (ha : a ≤ 255) (hb : b ≤ 255) : grpB [sgC (a / 4), sgC (a % 4 * 16 + b / 16), sgC (b % 16 * 4)] = some [a, b] := by
  obtain ⟨p1, p2⟩ := sv_sgC (a / 4) (by omega)
  obtain ⟨q1, q2⟩ := sv_sgC (a % 4 * 16 + b / 16) (by omega)
  obtain ⟨r1, r2⟩ := sv_sgC (b % 16 * 4) (by omega)
  unfold grpB
  rw [vTo3, p2, q2, r2, show [sgC (a / 4), sgC (a % 4 * 16 + b / 16), sgC (b % 16 * 4)].all sgB = true by simp [p1, q1, r1], if_pos rfl]
  have e : ((a / 4 * 64 + (a % 4 * 16 + b / 16)) * 64 + b % 16 * 4) * 64 = a * 65536 + b * 256 := by omega
  rw [e]
  have e1 : (a * 65536 + b * 256) / 65536 = a := by omega
  have e2 : (a * 65536 + b * 256) / 256 % 256 = b := by omega
  have e3 : (a * 65536 + b * 256) % 256 = 0 := by omega
  rw [e1, e2, e3]
  rfl

theorem grp_one {a : Nat} (ha : a ≤ 255) : grpB [sgC (a / 4), sgC (a % 4 * 16)] = some [a] := by
  obtain ⟨p1, p2⟩ := sv_sgC (a / 4) (by omega)
  obtain ⟨q1, q2⟩ := sv_sgC (a % 4 * 16) (by omega)
  unfold grpB
  rw [vTo2, p2, q2, show [sgC (a / 4), sgC (a % 4 * 16)].all sgB = true by simp [p1, q1], if_pos rfl]
  have e : (a / 4 * 64 + a % 4 * 16) * 4096 = a * 65536 := by omega
  rw [e]
  have e1 : a * 65536 / 65536 = a := by omega
  have e2 : a * 65536 / 256 % 256 = 0 := by omega
  have e3 : a * 65536 % 256 = 0 := by omega
  rw [e1, e2, e3]
  rfl

theorem b64_back : ∀ {bs : List Nat}, (∀ b ∈ bs, b ≤ 255) → b64D (b64E bs) = some bs
  | [], _ => rfl
  | [a], h => by
    have ha := h a (by simp)
    show b64D [sgC (a / 4), sgC (a % 4 * 16), 61, 61] = _
    rw [b64D, if_neg (by simp), show gN 61 61 = 2 from rfl, show List.take 2 [sgC (a / 4), sgC (a % 4 * 16), 61, 61] = [sgC (a / 4), sgC (a % 4 * 16)] from rfl, grp_one ha]
    rfl
  | [a, b], h => by
    have ha := h a (by simp)
    have hb := h b (by simp)
    have hn := sg_not (b % 16 * 4) (by omega)
    show b64D [sgC (a / 4), sgC (a % 4 * 16 + b / 16), sgC (b % 16 * 4), 61] = _
    rw [b64D, if_neg (by simp), show gN (sgC (b % 16 * 4)) 61 = 3 by unfold gN; rw [if_pos rfl, if_neg hn], show List.take 3 [sgC (a / 4), sgC (a % 4 * 16 + b / 16), sgC (b % 16 * 4), 61] = [sgC (a / 4), sgC (a % 4 * 16 + b / 16), sgC (b % 16 * 4)] from rfl, grp_two ha hb]
    rfl
  | a :: b :: c :: r, h => by
    have ha := h a (by simp)
    have hb := h b (by simp)
    have hc := h c (by simp)
    have hn := sg_not (c % 64) (by omega)
    have ih := b64_back (bs := r) (fun x hx => h x (by simp [hx]))
    show b64D (sgC (a / 4) :: sgC (a % 4 * 16 + b / 16) :: sgC (b % 16 * 4 + c / 64) :: sgC (c % 64) :: b64E r) = _
    have e4 : gN (sgC (b % 16 * 4 + c / 64)) (sgC (c % 64)) = 4 := by unfold gN; rw [if_neg hn]
    rw [b64D, if_neg (by rw [e4]; omega), e4, show List.take 4 [sgC (a / 4), sgC (a % 4 * 16 + b / 16), sgC (b % 16 * 4 + c / 64), sgC (c % 64)] = [sgC (a / 4), sgC (a % 4 * 16 + b / 16), sgC (b % 16 * 4 + c / 64), sgC (c % 64)] from rfl, grp_full ha hb hc, ih]
    rfl

/-- Decoding an encoding gives the bytes. -/
theorem dec_enc {c : Int} (h1 : 1 ≤ c) (h4 : c ≤ 4) {bs : List Nat} (h : ∀ b ∈ bs, b ≤ 255) : decL c (encL c bs) = some bs := by
  rcases (by omega : c = 1 ∨ c = 2 ∨ c = 3 ∨ c = 4) with rfl | rfl | rfl | rfl
  · exact hex_back h
  · exact b64_back h
  · exact pct_back h
  · exact esc_back h

theorem b64E_few : ∀ (bs : List Nat), (b64E bs).length ≤ 4 * bs.length
  | [] => by simp [b64E]
  | [a] => by simp [b64E]
  | [a, b] => by simp [b64E]
  | a :: b :: c :: r => by
    have := b64E_few r
    simp [b64E]
    omega

theorem encL_few (c : Int) (bs : List Nat) : (encL c bs).length ≤ 4 * bs.length := by
  unfold encL
  split
  · exact b64E_few bs
  split
  · rw [hexE_few]; omega
  split
  · have := flat_few pctC_few bs
    unfold pctE
    omega
  · exact flat_few escC_few bs

set_option maxHeartbeats 2000000 in
theorem decoded_any (c : Int) (s : ByteArray) (w : World) (hs : s.size ≤ 1000000) : Calls Try.prog 29 #[.int .i64 c, .string s] w (OptPost (decL c (nums s)) w) := by
  by_cases h1 : c = 1
  · subst h1
    have HM := Lib.hid (fun w => fromhex_any s w hs)
    rw [show decL 1 (nums s) = hexD (nums s) from rfl]
    cases hu : hexD (nums s) with
    | none =>
      go_enter Try.func29, Try.ntmps29
      go_wp2_with (go_at_call 47; refine (HM.out _).mono ?_; rintro e w1 ⟨h1, hb⟩; rw [hu] at h1; obtain rfl := h1; have HB := Lib.hid hb; clear hb)
      go_ret2
      exact ⟨rfl, HB.out⟩
    | some xs =>
      go_enter Try.func29, Try.ntmps29
      go_wp2_with (go_at_call 47; refine (HM.out _).mono ?_; rintro e w1 ⟨h1, hb⟩; rw [hu] at h1; obtain ⟨v1, rfl, hr⟩ := h1; have HB := Lib.hid hb; have HR := Lib.hid hr; clear hb hr)
      go_ret2
      exact ⟨⟨_, rfl, HR.out⟩, HB.out⟩
  by_cases h2 : c = 2
  · subst h2
    have HM := Lib.hid (fun w => fromb64_any s w hs)
    rw [show decL 2 (nums s) = b64D (nums s) from rfl]
    cases hu : b64D (nums s) with
    | none =>
      go_enter Try.func29, Try.ntmps29
      go_wp2_with (go_at_call 36; refine (HM.out _).mono ?_; rintro e w1 ⟨h1, hb⟩; rw [hu] at h1; obtain rfl := h1; have HB := Lib.hid hb; clear hb)
      go_ret2
      exact ⟨rfl, HB.out⟩
    | some xs =>
      go_enter Try.func29, Try.ntmps29
      go_wp2_with (go_at_call 36; refine (HM.out _).mono ?_; rintro e w1 ⟨h1, hb⟩; rw [hu] at h1; obtain ⟨v1, rfl, hr⟩ := h1; have HB := Lib.hid hb; have HR := Lib.hid hr; clear hb hr)
      go_ret2
      exact ⟨⟨_, rfl, HR.out⟩, HB.out⟩
  by_cases h3 : c = 3
  · subst h3
    exact decoded3_any s w hs
  · have HM := Lib.hid (fun w => escmark_any s w hs)
    have f1 : (c == 1) = false := beq_eq_false_iff_ne.2 h1
    have f2 : (c == 2) = false := beq_eq_false_iff_ne.2 h2
    have f3 : (c == 3) = false := beq_eq_false_iff_ne.2 h3
    rw [show decL c (nums s) = um 92 eR (nums s) by unfold decL; rw [if_neg h1, if_neg h2, if_neg h3]]
    cases hu : um 92 eR (nums s) with
    | none =>
      go_enter Try.func29, Try.ntmps29
      go_wp2_with (go_at_call 48; refine (HM.out _).mono ?_; rintro e w1 ⟨h1, hb⟩; rw [hu] at h1; obtain rfl := h1; have HB := Lib.hid hb; clear hb)
      go_ret2
      exact ⟨rfl, HB.out⟩
    | some xs =>
      go_enter Try.func29, Try.ntmps29
      go_wp2_with (go_at_call 48; refine (HM.out _).mono ?_; rintro e w1 ⟨h1, hb⟩; rw [hu] at h1; obtain ⟨v1, rfl, hr⟩ := h1; have HB := Lib.hid hb; have HR := Lib.hid hr; clear hb hr)
      go_ret2
      exact ⟨⟨_, rfl, HR.out⟩, HB.out⟩

/-- What Decode hands back, of any coding. -/
def DecAll (c : Int) (s : ByteArray) : Value ⊕ Option (List Nat) :=
  if ¬ (1 ≤ c ∧ c ≤ 4) then .inl (.tuple #[.slice none 0 0, .int .i64 1]) else if 262144 < s.size then .inl (.tuple #[.slice none 0 0, .int .i64 3]) else .inr (decL c (nums s))

def AllPost (D : Value ⊕ Option (List Nat)) (w : World) (e : Ending) (w' : World) : Prop :=
  match D with
  | .inl v => e = .returned v ∧ Below w.heap.size w w'
  | .inr D => DecPost D w e w'

set_option maxHeartbeats 1000000 in
theorem decode_any (c : Int) (s : ByteArray) (w : World) (hs : s.size ≤ 1000000) : Calls Try.prog 16 #[.int .i64 c, .string s] w (AllPost (DecAll c s) w) := by
  by_cases hc : 1 ≤ c ∧ c ≤ 4
  · have hd : decide (1 ≤ c ∧ c ≤ 4) = true := decide_eq_true hc
    by_cases hb : 262144 < s.size
    · have hbi : (262144 : Int) < (s.size : Int) := by omega
      rw [show DecAll c s = .inl (.tuple #[.slice none 0 0, .int .i64 3]) by unfold DecAll; rw [if_neg (by omega), if_pos hb]]
      go_enter Try.func16, Try.ntmps16
      go_wp2_with (go_at_call 12; refine (valid_any _ _).mono ?_; rintro e w1 ⟨rfl, rfl⟩; rw [hd])
      go_ret2
      exact ⟨rfl, Below.refl _ _⟩
    · have hbi : ¬ (262144 : Int) < (s.size : Int) := by omega
      rw [show DecAll c s = .inr (decL c (nums s)) by unfold DecAll; rw [if_neg (by omega), if_neg hb]]
      have HM := Lib.hid (fun w => decoded_any c s w hs)
      cases hu : decL c (nums s) with
      | none =>
        go_enter Try.func16, Try.ntmps16
        go_wp2_with (first
          | (go_at_call 12; refine (valid_any _ _).mono ?_; rintro e w1 ⟨rfl, rfl⟩; rw [hd])
          | (go_at_call 29; refine (HM.out _).mono ?_; rintro e w1 ⟨h1, hb⟩; rw [hu] at h1; obtain rfl := h1; have HB := Lib.hid hb; clear hb))
        go_ret2
        exact ⟨rfl, HB.out⟩
      | some xs =>
        go_enter Try.func16, Try.ntmps16
        go_wp2_with (first
          | (go_at_call 12; refine (valid_any _ _).mono ?_; rintro e w1 ⟨rfl, rfl⟩; rw [hd])
          | (go_at_call 29; refine (HM.out _).mono ?_; rintro e w1 ⟨h1, hb⟩; rw [hu] at h1; obtain ⟨v1, rfl, hr⟩ := h1; have HB := Lib.hid hb; have HR := Lib.hid hr; clear hb hr))
        go_ret2
        exact ⟨⟨_, rfl, HR.out⟩, HB.out⟩
  · have hd : decide (1 ≤ c ∧ c ≤ 4) = false := decide_eq_false hc
    rw [show DecAll c s = .inl (.tuple #[.slice none 0 0, .int .i64 1]) by unfold DecAll; rw [if_pos hc]]
    go_enter Try.func16, Try.ntmps16
    go_wp2_with (go_at_call 12; refine (valid_any _ _).mono ?_; rintro e w1 ⟨rfl, rfl⟩; rw [hd])
    go_ret2
    exact ⟨rfl, Below.refl _ _⟩

end Go.Proofs.Ythofhljbipkiaaa.Co
