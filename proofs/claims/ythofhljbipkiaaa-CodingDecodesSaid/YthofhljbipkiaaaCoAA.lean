import Derived.Test.YthofhljbipkiaaaCoY2
import Derived.Test.YthofhljbipkiaaaCoY3
import Derived.Test.YthofhljbipkiaaaCoZ
import Derived.Lib.ConvBytes
namespace Go.Proofs.Ythofhljbipkiaaa.Co
open Go.RowKit
open Go.Proofs.Ythofhljbipkiaaa.Tp
set_option linter.unusedVariables false

set_option maxHeartbeats 4000000 in
theorem refdecoded_any (c : Int) (v : Value) (bs : List Nat) (w : World) (h : By w v bs) (hn : bs.length ≤ 1000000) : Calls Try.prog 30 #[.int .i64 c, v] w (OptPost (decL c bs) w) := by
  by_cases h1 : c = 1
  · subst h1
    have HM := Lib.hid (refhex_any v bs w h hn)
    rw [show decL 1 bs = hexD bs from rfl]
    clear h
    cases hu : hexD bs with
    | none =>
      go_enter Try.func30, Try.ntmps30
      go_wp2_with (go_at_call 51; refine (HM.out).mono ?_; rintro e w1 ⟨h1, hb⟩; rw [hu] at h1; obtain rfl := h1; have HB := Lib.hid hb; clear hb)
      go_ret2
      exact ⟨rfl, HB.out⟩
    | some xs =>
      go_enter Try.func30, Try.ntmps30
      go_wp2_with (go_at_call 51; refine (HM.out).mono ?_; rintro e w1 ⟨h1, hb⟩; rw [hu] at h1; obtain ⟨v1, rfl, hr⟩ := h1; have HB := Lib.hid hb; have HR := Lib.hid hr; clear hb hr)
      go_ret2
      exact ⟨⟨_, rfl, HR.out⟩, HB.out⟩
  by_cases h2 : c = 2
  · subst h2
    have HM := Lib.hid (refb64_dec v bs w h hn)
    rw [show decL 2 bs = b64D bs from rfl]
    clear h
    cases hu : b64D bs with
    | none =>
      go_enter Try.func30, Try.ntmps30
      go_wp2_with (go_at_call 52; refine (HM.out).mono ?_; rintro e w1 ⟨h1, hb⟩; rw [hu] at h1; obtain rfl := h1; have HB := Lib.hid hb; clear hb)
      go_ret2
      exact ⟨rfl, HB.out⟩
    | some xs =>
      go_enter Try.func30, Try.ntmps30
      go_wp2_with (go_at_call 52; refine (HM.out).mono ?_; rintro e w1 ⟨h1, hb⟩; rw [hu] at h1; obtain ⟨v1, rfl, hr⟩ := h1; have HB := Lib.hid hb; have HR := Lib.hid hr; clear hb hr)
      go_ret2
      exact ⟨⟨_, rfl, HR.out⟩, HB.out⟩
  by_cases h3 : c = 3
  · subst h3
    have HM := Lib.hid (refpct_any v bs w h hn)
    rw [show decL 3 bs = um 37 pR bs from rfl]
    clear h
    cases hu : um 37 pR bs with
    | none =>
      go_enter Try.func30, Try.ntmps30
      go_wp2_with (go_at_call 53; refine (HM.out).mono ?_; rintro e w1 ⟨h1, hb⟩; rw [hu] at h1; obtain rfl := h1; have HB := Lib.hid hb; clear hb)
      go_ret2
      exact ⟨rfl, HB.out⟩
    | some xs =>
      go_enter Try.func30, Try.ntmps30
      go_wp2_with (go_at_call 53; refine (HM.out).mono ?_; rintro e w1 ⟨h1, hb⟩; rw [hu] at h1; obtain ⟨v1, rfl, hr⟩ := h1; have HB := Lib.hid hb; have HR := Lib.hid hr; clear hb hr)
      go_ret2
      exact ⟨⟨_, rfl, HR.out⟩, HB.out⟩
  · have HM := Lib.hid (refesc_dec v bs w h hn)
    have f1 : (c == 1) = false := beq_eq_false_iff_ne.2 h1
    have f2 : (c == 2) = false := beq_eq_false_iff_ne.2 h2
    have f3 : (c == 3) = false := beq_eq_false_iff_ne.2 h3
    rw [show decL c bs = um 92 eR bs by unfold decL; rw [if_neg h1, if_neg h2, if_neg h3]]
    clear h
    cases hu : um 92 eR bs with
    | none =>
      go_enter Try.func30, Try.ntmps30
      go_wp2_with (go_at_call 54; refine (HM.out).mono ?_; rintro e w1 ⟨h1, hb⟩; rw [hu] at h1; obtain rfl := h1; have HB := Lib.hid hb; clear hb)
      go_ret2
      exact ⟨rfl, HB.out⟩
    | some xs =>
      go_enter Try.func30, Try.ntmps30
      go_wp2_with (go_at_call 54; refine (HM.out).mono ?_; rintro e w1 ⟨h1, hb⟩; rw [hu] at h1; obtain ⟨v1, rfl, hr⟩ := h1; have HB := Lib.hid hb; have HR := Lib.hid hr; clear hb hr)
      go_ret2
      exact ⟨⟨_, rfl, HR.out⟩, HB.out⟩

theorem nums_le (s : ByteArray) : ∀ b ∈ nums s, b ≤ 255 := by
  intro b hb
  unfold nums at hb
  obtain ⟨x, _, rfl⟩ := List.mem_map.1 hb
  have := x.toNat_lt
  omega

/-- '[]byte(s)': a row of its own that holds the text's bytes. -/
theorem str_by (w : World) (s : ByteArray) (hs : s.size ≤ 1000000) : ∃ W c, (convert 9 23 (.string s)).run Try.prog w = .ok (.slice (some ⟨w.heap.size, 0, none⟩) s.size c) W ∧ By W (.slice (some ⟨w.heap.size, 0, none⟩) s.size c) (nums s) ∧ Below w.heap.size w W := by
  have hl := nums_length s
  refine ⟨Lib.bytesWorld w 5 s, grownCap w s.size 0 5, Lib.run_convert_string_bytes w 9 23 5 s Try.underlying9 Try.underlying23 Try.underlying5, ⟨nums_le s, .inr ⟨w.heap.size, 0, _, by rw [hl], by rw [hl]; exact grownCap_ge _ _ _ _, grownCap_le_maxLen _ _ _ _ (by unfold maxLen; omega), by rw [Lib.bytesWorld_size]; omega, fun j hj => ?_⟩⟩,
    ⟨rfl, rfl, rfl, by rw [Lib.bytesWorld_size]; omega, fun j hj => Lib.bytesWorld_at_old w 5 s j hj⟩⟩
  rw [hl] at hj
  rw [Nat.zero_add, Lib.bytesWorld_cell w 5 s j hj]
  have : (s.data.toList.getD j 0).toNat = (nums s).getD j 0 := by
    unfold nums
    rw [List.getD_eq_getElem?_getD, List.getD_eq_getElem?_getD, List.getElem?_map]
    cases s.data.toList[j]? <;> rfl
  rw [this]

theorem own_mono {w : World} {B B' e k n : Nat} {v : Value} {xs : List Value} (h : w.ownsRow B e k v n xs) (hb : B' ≤ B) : w.ownsRow B' e k v n xs := by
  refine ⟨h.1, ?_⟩
  rcases h.2 with h2 | ⟨g, cap, cur, e1, hg, r⟩
  · exact .inl h2
  · exact .inr ⟨g, cap, cur, e1, Nat.le_trans hb hg, r⟩

set_option maxRecDepth 100000 in
set_option maxHeartbeats 2000000 in
theorem refdecode_any (c : Int) (s : ByteArray) (w : World) (hs : s.size ≤ 1000000) : Calls Try.prog 17 #[.int .i64 c, .string s] w (AllPost (DecAll c s) w) := by
  by_cases hc : 1 ≤ c ∧ c ≤ 4
  · have hd : decide (1 ≤ c ∧ c ≤ 4) = true := decide_eq_true hc
    by_cases hb : 262144 < s.size
    · have hbi : (262144 : Int) < (s.size : Int) := by omega
      rw [show DecAll c s = .inl (.tuple #[.slice none 0 0, .int .i64 3]) by unfold DecAll; rw [if_neg (by omega), if_pos hb]]
      go_enter Try.func17, Try.ntmps17
      go_wp2_with (go_at_call 13; refine (refvalid_any _ _).mono ?_; rintro e w1 ⟨rfl, rfl⟩; rw [hd])
      go_ret2
      exact ⟨rfl, Below.refl _ _⟩
    · have hbi : ¬ (262144 : Int) < (s.size : Int) := by omega
      rw [show DecAll c s = .inr (decL c (nums s)) by unfold DecAll; rw [if_neg (by omega), if_neg hb]]
      obtain ⟨W, cap, hcv, hby, hbw⟩ := str_by w s hs
      have HBW := Lib.hid hbw
      have HM := Lib.hid (refdecoded_any c _ (nums s) W hby (by rw [nums_length]; exact hs))
      clear hby hbw
      cases hu : decL c (nums s) with
      | none =>
        go_enter Try.func17, Try.ntmps17
        go_wp2_with (first
          | (go_at_call 13; refine (refvalid_any _ _).mono ?_; rintro e w1 ⟨rfl, rfl⟩; rw [hd])
          | (go_at_call 30; refine (HM.out).mono ?_; rintro e w1 ⟨h1, hb⟩; rw [hu] at h1; obtain rfl := h1; have HB := Lib.hid (HBW.out.trans (hb.mono HBW.out.size)); clear hb))
        go_ret2
        exact ⟨rfl, HB.out⟩
      | some xs =>
        go_enter Try.func17, Try.ntmps17
        go_wp2_with (first
          | (go_at_call 13; refine (refvalid_any _ _).mono ?_; rintro e w1 ⟨rfl, rfl⟩; rw [hd])
          | (go_at_call 30; refine (HM.out).mono ?_; rintro e w1 ⟨h1, hb⟩; rw [hu] at h1; obtain ⟨v1, rfl, hr⟩ := h1; have HB := Lib.hid (HBW.out.trans (hb.mono HBW.out.size)); have HR := Lib.hid hr; clear hb hr))
        go_ret2
        exact ⟨⟨_, rfl, own_mono HR.out.1 HBW.out.size, HB.out⟩, HB.out⟩
  · have hd : decide (1 ≤ c ∧ c ≤ 4) = false := decide_eq_false hc
    rw [show DecAll c s = .inl (.tuple #[.slice none 0 0, .int .i64 1]) by unfold DecAll; rw [if_pos hc]]
    go_enter Try.func17, Try.ntmps17
    go_wp2_with (go_at_call 13; refine (refvalid_any _ _).mono ?_; rintro e w1 ⟨rfl, rfl⟩; rw [hd])
    go_ret2
    exact ⟨rfl, Below.refl _ _⟩

end Go.Proofs.Ythofhljbipkiaaa.Co
