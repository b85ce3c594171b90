import Derived.Test.YthofhljbipkiaaaCoM
import Derived.Test.YthofhljbipkiaaaCoI
import Derived.Test.YthofhljbipkiaaaCoG
import Derived.Lib.SlBytesConst
namespace Go.Proofs.Ythofhljbipkiaaa.Co
open Go.RowKit
open Go.Proofs.Ythofhljbipkiaaa.Tp
set_option linter.unusedVariables false

theorem encoded_any (c : Int) (v : Value) (bs : List Nat) (w : World) (h : By w v bs) (hn : bs.length ≤ 1000000) :
    Calls Try.prog 15 #[.int .i64 c, v] w fun e w' => ∃ v', e = .returned v' ∧ ERel w (encL c bs) v' w' := by
  unfold encL
  by_cases h2 : c = 2
  · subst h2
    rw [if_pos rfl]
    have HBY := Lib.hid h
    clear h
    go_enter Try.func15, Try.ntmps15
    go_wp2_with (go_at_call 26; refine (refb64_any _ bs _ HBY.out hn).mono ?_; rintro e w1 ⟨v1, rfl, hr⟩; have HR := Lib.hid hr; clear hr)
    go_ret
    exact ⟨_, rfl, HR.out⟩
  · rw [if_neg h2]
    by_cases h1 : c = 1
    · subst h1
      rw [if_pos rfl]
      exact enc1_any v bs w h hn
    · rw [if_neg h1]
      by_cases h3 : c = 3
      · subst h3
        rw [if_pos rfl]
        exact enc3_any v bs w h hn
      · rw [if_neg h3]
        exact enc0_any c h1 h2 h3 v bs w h hn

set_option maxRecDepth 100000 in
set_option maxHeartbeats 2000000 in
theorem refencode_any (c : Int) (v : Value) (bs : List Nat) (w : World) (h : By w v bs) (hn : bs.length ≤ 1000000) :
    Calls Try.prog 11 #[.int .i64 c, v] w fun e w' => e = .returned (encV c bs) ∧ Below w.heap.size w w' := by
  have HBY := Lib.hid h
  have HLE := Lib.hid h.1
  obtain ⟨D, cp, rfl⟩ := h.form
  clear h
  by_cases hc : 1 ≤ c ∧ c ≤ 4
  · have hd : decide (1 ≤ c ∧ c ≤ 4) = true := decide_eq_true hc
    by_cases hb : 65536 < bs.length
    · have hbi : (65536 : Int) < (bs.length : Int) := by omega
      rw [show encV c bs = .tuple #[.string { data := #[] }, .int .i64 3] by unfold encV; rw [if_neg (by omega), if_pos hb]]
      go_enter Try.func11, Try.ntmps11
      go_wp2_with (go_at_call 13; refine (refvalid_any _ _).mono ?_; rintro e w1 ⟨rfl, rfl⟩; rw [hd])
      go_ret2
      exact ⟨rfl, Below.refl _ _⟩
    · have hbi : ¬ (65536 : Int) < (bs.length : Int) := by omega
      rw [show encV c bs = .tuple #[.string (strB (encL c bs)), .int .i64 0] by unfold encV; rw [if_neg (by omega), if_neg hb]]
      go_enter Try.func11, Try.ntmps11
      go_wp2_with (first
        | (go_at_call 13; refine (refvalid_any _ _).mono ?_; rintro e w1 ⟨rfl, rfl⟩; rw [hd])
        | (go_at_call 15; refine (encoded_any c _ bs _ HBY.out hn).mono ?_; rintro e w1 ⟨v1, rfl, hr⟩; have hcv := hr.conv (encL_le HLE.out); have HR := Lib.hid hr; clear hr))
      go_ret2
      exact ⟨rfl, HR.out.2⟩
  · have hd : decide (1 ≤ c ∧ c ≤ 4) = false := decide_eq_false hc
    rw [show encV c bs = .tuple #[.string { data := #[] }, .int .i64 1] by unfold encV; rw [if_pos hc]]
    go_enter Try.func11, Try.ntmps11
    go_wp2_with (go_at_call 13; refine (refvalid_any _ _).mono ?_; rintro e w1 ⟨rfl, rfl⟩; rw [hd])
    go_ret2
    exact ⟨rfl, Below.refl _ _⟩

/-! ### Decoding percent texts -/

/-- What Decode hands back. -/
def DecPost (D : Option (List Nat)) (w : World) (e : Ending) (w' : World) : Prop :=
  (match D with
    | none => e = .returned (.tuple #[.slice none 0 0, .int .i64 5])
    | some xs => ∃ v, e = .returned (.tuple #[v, .int .i64 0]) ∧ ERel w xs v w') ∧ Below w.heap.size w w'

set_option maxHeartbeats 1000000 in
theorem decoded3_any (s : ByteArray) (w : World) (hs : s.size ≤ 1000000) : Calls Try.prog 29 #[.int .i64 3, .string s] w (UmPost 37 pR s w) := by
  have hm := fun w => pctmark_any s w hs
  have HM := Lib.hid hm
  clear hm
  cases hu : um 37 pR (nums s) with
  | none =>
    go_enter Try.func29, Try.ntmps29
    go_wp2_with (go_at_call 48; refine (HM.out _).mono ?_; rintro e w1 ⟨h1, hb⟩; rw [hu] at h1; obtain rfl := h1; have HB := Lib.hid hb; clear hb)
    go_ret2
    exact ⟨by rw [hu]; rfl, HB.out⟩
  | some xs =>
    go_enter Try.func29, Try.ntmps29
    go_wp2_with (go_at_call 48; refine (HM.out _).mono ?_; rintro e w1 ⟨h1, hb⟩; rw [hu] at h1; obtain ⟨v1, rfl, hr⟩ := h1; have HB := Lib.hid hb; have HR := Lib.hid hr; clear hb hr)
    go_ret2
    exact ⟨by rw [hu]; exact ⟨_, rfl, HR.out⟩, HB.out⟩

set_option maxHeartbeats 1000000 in
theorem decode3_any (s : ByteArray) (w : World) (hs : s.size ≤ 262144) : Calls Try.prog 16 #[.int .i64 3, .string s] w (DecPost (um 37 pR (nums s)) w) := by
  have hlim : ¬ (262144 : Int) < (s.size : Int) := by omega
  have hd : decide ((1 : Int) ≤ 3 ∧ (3 : Int) ≤ 4) = true := by decide
  have hm := fun w => decoded3_any s w (by omega)
  have HM := Lib.hid hm
  clear hm
  cases hu : um 37 pR (nums s) with
  | none =>
    go_enter Try.func16, Try.ntmps16
    go_wp2_with (first
      | (go_at_call 12; refine (valid_any _ _).mono ?_; rintro e w1 ⟨rfl, rfl⟩; rw [hd])
      | (go_at_call 29; refine (HM.out _).mono ?_; rintro e w1 ⟨h1, hb⟩; rw [hu] at h1; obtain rfl := h1; have HB := Lib.hid hb; clear hb))
    go_ret2
    exact ⟨rfl, HB.out⟩
  | some xs =>
    go_enter Try.func16, Try.ntmps16
    go_wp2_with (first
      | (go_at_call 12; refine (valid_any _ _).mono ?_; rintro e w1 ⟨rfl, rfl⟩; rw [hd])
      | (go_at_call 29; refine (HM.out _).mono ?_; rintro e w1 ⟨h1, hb⟩; rw [hu] at h1; obtain ⟨v1, rfl, hr⟩ := h1; have HB := Lib.hid hb; have HR := Lib.hid hr; clear hb hr))
    go_ret2
    exact ⟨⟨_, rfl, HR.out⟩, HB.out⟩

theorem awake_um : um 37 pR [107, 101, 121, 61, 37, 52, 49, 37, 52, 50, 37, 52, 51] = some [107, 101, 121, 61, 65, 66, 67] := by
  rw [um_off (by decide), um_off (by decide), um_off (by decide), um_off (by decide), um_some (c := 65) (n := 2) (by decide)]
  rw [show List.drop 2 [52, 49, 37, 52, 50, 37, 52, 51] = [37, 52, 50, 37, 52, 51] from rfl, um_some (c := 66) (n := 2) (by decide)]
  rw [show List.drop 2 [52, 50, 37, 52, 51] = [37, 52, 51] from rfl, um_some (c := 67) (n := 2) (by decide)]
  rw [show List.drop 2 [52, 51] = [] from rfl, um_nil]
  rfl

theorem awake_enc : encV 2 [65, 122] = .tuple #[.string { data := #[81, 88, 111, 61] }, .int .i64 0] := by kernel_rfl
theorem awake_str : strB [107, 101, 121, 61, 65, 66, 67] = { data := #[107, 101, 121, 61, 65, 66, 67] } := by kernel_rfl
theorem awake_nums : nums { data := #[107, 101, 121, 61, 37, 52, 49, 37, 52, 50, 37, 52, 51] } = [107, 101, 121, 61, 37, 52, 49, 37, 52, 50, 37, 52, 51] := by kernel_rfl

theorem by_lit2 {w : World} {bs : List Nat} {cs : Array Value} {fr : Nat × Nat} (hb : ∀ b ∈ bs, b ≤ 255) (hcs : cs = (u8s bs).toArray) (hl : bs.length ≤ 1000) : By (w.alloc (.cells cs 5 fr)) (.slice (some ⟨w.heap.size, 0, none⟩) bs.length bs.length) bs := by
  subst hcs
  refine ⟨hb, .inr ⟨w.heap.size, 0, bs.length, rfl, Nat.le_refl _, by unfold maxLen; omega, by simp, fun j hj => ?_⟩⟩
  rw [Nat.zero_add, cell_of_row _ _ _ _ _ _ (heap_alloc_new w _)]
  simp [u8s, hj]

set_option maxRecDepth 100000 in
set_option maxHeartbeats 1000000 in
theorem awake_any (w : World) : Calls Try.prog 14 #[] w fun e w' => e = .returned (.bool true) ∧ Below w.heap.size w w' := by
  have HEN := Lib.hid awake_enc
  have HST := Lib.hid awake_str
  have hdec := fun w => decode3_any { data := #[107, 101, 121, 61, 37, 52, 49, 37, 52, 50, 37, 52, 51] } w (by decide)
  rw [awake_nums, awake_um] at hdec
  have HDE := Lib.hid hdec
  clear hdec
  have HBY := Lib.hid (by_lit2 (w := w) (bs := [65, 122]) (cs := #[.int .u8 65, .int .u8 122]) (fr := (2, 3)) (by simp) (by rfl) (by simp))
  have HBX := Lib.hid (box_below w (.cells #[.int .u8 65, .int .u8 122] 5 (2, 3)))
  have kc := fun (w : World) (C : Array Value) (n c : Nat) => Lib.run_convert_bytes_const (P := Try.prog) w 23 5 C n c Try.underlying23 Try.underlying5
  go_enter Try.func14, Try.ntmps14
  go_wp2_with (first
    | (go_at_call 10; refine (encode_any 2 _ [65, 122] _ HBY.out (by simp)).mono ?_; rintro e w1 ⟨rfl, hb⟩; rw [HEN.out]; have HB1 := Lib.hid (HBX.out.trans (hb.mono HBX.out.size)); clear hb)
    | (go_at_call 16; refine (HDE.out _).mono ?_; rintro e w2 ⟨⟨v2, rfl, hr⟩, hb⟩; have hcv := hr.conv (by simp); rw [HST.out] at hcv; have HB2 := Lib.hid (HB1.out.trans (hb.mono HB1.out.size)); clear hb hr))
  go_ret
  exact ⟨rfl, HB2.out⟩

end Go.Proofs.Ythofhljbipkiaaa.Co
