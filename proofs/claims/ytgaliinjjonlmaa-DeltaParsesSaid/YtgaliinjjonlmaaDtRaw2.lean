import Derived.Test.YtgaliinjjonlmaaDtRaw
namespace Go.Proofs.Ytgaliinjjonlmaa.Dt
open Go.RowKit
open Go.Proofs.Ytgaliinjjonlmaa.Tp
set_option linter.unusedVariables false

set_option maxRecDepth 100000 in
set_option maxHeartbeats 1000000 in
theorem index_bad2 (A : Option Addr) (n c : Nat) (rs : List R) (vs : List Value) (w : World) (h : RLies w A n rs vs) (hn : n ≤ 1000) :
    Calls Try.prog 77 #[.slice A n c, .func (.func 59) #[] #[]] w fun e w' => ∃ r : Int, e = .returned (.int .i64 r) ∧ decide (0 ≤ r) = anyR bad rs n ∧ Below w.heap.size w w' := by
  have H := Lib.hid h
  clear h
  go_enter Try.func77, Try.ntmps77
  go_wp2
  go_loopw [8] (fun ii wr => ∃ i : Nat, i ≤ n ∧ ii = .int .i64 i ∧ (∀ j, j < i → bad (rs.getD j r0) = false) ∧ Below w.heap.size w wr) (fun ii _ => n - (intOf ii).toNat)
  case atStart => exact ⟨0, by omega, rfl, fun j hj => absurd hj (by omega), Below.refl _ _⟩
  case round =>
    obtain ⟨i, hi, rfl, hno, hbl⟩ := hrel
    have HBL := Lib.hid hbl
    have HNO := Lib.hid hno
    by_cases hlt2 : i < n
    · obtain ⟨b, off, rfl, hbk, hc⟩ := (H.out.below hbl).mem (by omega)
      obtain ⟨c0, c1, c2⟩ := hc i hlt2
      obtain ⟨B, cc, hv⟩ := (H.out.by_ i hlt2).form
      rw [hv] at c2
      have HE := bad_raw (rs.getD i r0).f (rs.getD i r0).s B (rs.getD i r0).d.length cc wr
      obtain ⟨q, hq⟩ : ∃ q, bad (rs.getD i r0) = q := ⟨_, rfl⟩
      have hq2 := hq
      unfold bad at hq2
      rw [hq2] at HE
      have HE2 := Lib.hid HE
      have HQ := Lib.hid hq
      have HQ1 : Hid (q = false → ∀ j, j < i + 1 → bad (rs.getD j r0) = false) := Lib.hid (fun e => no_more hno (by rw [hq, e]))
      have HQ2 : Hid (q = true → anyR bad rs n = true) := Lib.hid (fun e => anyR_yes hlt2 (by rw [hq, e]))
      clear hc hbl hv hno hq hq2 HE HQ
      generalize (rs.getD i r0) = o at *
      cases q
      · go_wp2_with (go_at_call 59; refine HE2.out.mono ?_; rintro e w2 ⟨rfl, hb2⟩; have HB2 := Lib.hid (HBL.out.trans (hb2.mono HBL.out.size)); clear hb2)
        exact ⟨⟨i + 1, by omega, by go_num, HQ1.out (by simp), HB2.out⟩, by simp [intOf]; omega⟩
      · go_wp2_with (go_at_call 59; refine HE2.out.mono ?_; rintro e w2 ⟨rfl, hb2⟩; have HB2 := Lib.hid (HBL.out.trans (hb2.mono HBL.out.size)); clear hb2)
        go_ret
        exact ⟨i, rfl, by rw [HQ2.out (by simp)]; simp, HB2.out⟩
    · obtain rfl : n = i := by omega
      go_wp2
      go_ret
      exact ⟨-1, rfl, by rw [anyR_none HNO.out]; simp, HBL.out⟩

set_option maxRecDepth 100000 in
set_option maxHeartbeats 400000 in
theorem contains_lar (A : Option Addr) (n c : Nat) (rs : List R) (vs : List Value) (w : World) (h : RLies w A n rs vs) (hn : n ≤ 1000) :
    Calls Try.prog 54 #[.slice A n c, .func (.func 58) #[] #[]] w fun e w' => e = .returned (.bool (anyR lar rs n)) ∧ Below w.heap.size w w' := by
  have HC := Lib.hid (index_lar A n c rs vs w h hn)
  clear h
  go_enter Try.func54, Try.ntmps54
  go_wp2_with (go_at_call 77; refine HC.out.mono ?_; rintro e w' ⟨r, rfl, hr, hb⟩; have HR := Lib.hid hr; have HB := Lib.hid hb; clear hb hr)
  go_ret
  exact ⟨by rw [← HR.out]; rfl, HB.out⟩

set_option maxRecDepth 100000 in
set_option maxHeartbeats 400000 in
theorem contains_bad2 (A : Option Addr) (n c : Nat) (rs : List R) (vs : List Value) (w : World) (h : RLies w A n rs vs) (hn : n ≤ 1000) :
    Calls Try.prog 54 #[.slice A n c, .func (.func 59) #[] #[]] w fun e w' => e = .returned (.bool (anyR bad rs n)) ∧ Below w.heap.size w w' := by
  have HC := Lib.hid (index_bad2 A n c rs vs w h hn)
  clear h
  go_enter Try.func54, Try.ntmps54
  go_wp2_with (go_at_call 77; refine HC.out.mono ?_; rintro e w' ⟨r, rfl, hr, hb⟩; have HR := Lib.hid hr; have HB := Lib.hid hb; clear hb hr)
  go_ret
  exact ⟨by rw [← HR.out]; rfl, HB.out⟩


def rightB (N F S : Int) (k : Nat) : Bool := if 1 ≤ S then decide (0 ≤ F) && decide (F ≤ N) && decide (S ≤ N - F) && decide (k = 0) else decide (S = 0) && decide (F = 0) && decide (0 < k)

set_option maxRecDepth 100000 in
set_option maxHeartbeats 1000000 in
theorem right_raw (N F S : Int) (A : Option Addr) (k c : Nat) (w : World) (hN : 0 ≤ N) (hN2 : N ≤ 2000000000) : Calls Try.prog 57 #[.agg #[.int .i64 F, .int .i64 S, .slice A k c], .int .i64 N] w fun e w' => e = .returned (.bool (rightB N F S k)) ∧ Below w.heap.size w w' := by
  have HB := Lib.hid (fun o => box_below w o)
  by_cases h1 : 1 ≤ S
  · by_cases h2 : 0 ≤ F
    · by_cases h3 : F ≤ N
      · by_cases h4 : S ≤ N - F
        · by_cases h5 : k = 0
          · subst h5
            go_enter Try.func57, Try.ntmps57
            go_wp2
            go_ret
            exact ⟨by simp [rightB, h1, h2, h3, h4], HB.out _⟩
          · have h5i : ¬ (k : Int) = 0 := by omega
            go_enter Try.func57, Try.ntmps57
            go_wp2
            go_ret
            exact ⟨by simp [rightB, h1, h2, h3, h4, h5], HB.out _⟩
        · go_enter Try.func57, Try.ntmps57
          go_wp2
          go_ret
          exact ⟨congrArg Ending.returned (congrArg Value.bool (by rw [Bool.eq_iff_iff]; simp [rightB, h1]; omega)), HB.out _⟩
      · go_enter Try.func57, Try.ntmps57
        go_wp2
        go_ret
        exact ⟨congrArg Ending.returned (congrArg Value.bool (by rw [Bool.eq_iff_iff]; simp [rightB, h1]; omega)), HB.out _⟩
    · go_enter Try.func57, Try.ntmps57
      go_wp2
      go_ret
      exact ⟨congrArg Ending.returned (congrArg Value.bool (by rw [Bool.eq_iff_iff]; simp [rightB, h1]; omega)), HB.out _⟩
  · by_cases h2 : S = 0
    · subst h2
      by_cases h3 : F = 0
      · subst h3
        by_cases h4 : 0 < k
        · have h4i : (0 : Int) < (k : Int) := by omega
          go_enter Try.func57, Try.ntmps57
          go_wp2
          go_ret
          exact ⟨by simp [rightB]; omega, HB.out _⟩
        · obtain rfl : k = 0 := by omega
          go_enter Try.func57, Try.ntmps57
          go_wp2
          go_ret
          exact ⟨by simp [rightB], HB.out _⟩
      · go_enter Try.func57, Try.ntmps57
        go_wp2
        go_ret
        exact ⟨by simp [rightB, h3], HB.out _⟩
    · go_enter Try.func57, Try.ntmps57
      go_wp2
      go_ret
      exact ⟨congrArg Ending.returned (congrArg Value.bool (by rw [Bool.eq_iff_iff]; simp [rightB, h2]; omega)), HB.out _⟩

/-- The bytes of the operations' data, together. -/
def dat (rs : List R) : Nat → Nat
  | 0 => 0
  | n + 1 => dat rs n + (rs.getD n r0).d.length

theorem dat_mono (rs : List R) : ∀ n m, n ≤ m → dat rs n ≤ dat rs m
  | n, 0, h => by
    obtain rfl : n = 0 := by omega
    exact Nat.le_refl _
  | n, m + 1, h => by
    by_cases e : n = m + 1
    · rw [e]
      exact Nat.le_refl _
    · have := dat_mono rs n m (by omega)
      simp only [dat]
      omega

theorem rb_len {w : World} {v : Value} {bs : List Nat} (h : Rb w v bs) : bs.length ≤ maxLen := by
  rcases h.2 with ⟨_, rfl⟩ | ⟨x, c, _, h1, h2, _⟩
  · simp
  · omega

theorem dat_small {rs : List R} : ∀ i, (∀ j, j < i → (rs.getD j r0).d.length ≤ 65536) → dat rs i ≤ 65536 * i
  | 0, _ => by simp [dat]
  | i + 1, h => by
    have h1 := dat_small i (fun j hj => h j (by omega))
    have h2 := h i (by omega)
    simp only [dat]
    omega

def few (rs : List R) (n : Nat) (q : Bool) : Prop := q = true → n ≤ 220 ∧ ((∀ j, j < n → (rs.getD j r0).d.length ≤ 65536) → dat rs n ≤ 4000)

def FewPost (rs : List R) (n : Nat) (w : World) (e : Ending) (w' : World) : Prop := ∃ q, e = .returned (.bool q) ∧ few rs n q ∧ Below w.heap.size w w'

set_option maxRecDepth 100000 in
set_option maxHeartbeats 1000000 in
theorem few_any (A : Option Addr) (n c : Nat) (rs : List R) (vs : List Value) (w : World) (h : RLies w A n rs vs) (hn : n ≤ maxLen) :
    Calls Try.prog 19 #[.slice A n c] w (FewPost rs n w) := by
  have H := Lib.hid h
  clear h
  unfold maxLen at hn
  go_enter Try.func19, Try.ntmps19
  go_wp2
  go_loopw [3, 4] (fun nn ii wr => ∃ (i : Nat) (z : Int), i ≤ n ∧ ii = .int .i64 i ∧ nn = .int .i64 z ∧ (i ≤ 220 → (∀ j, j < i → (rs.getD j r0).d.length ≤ 65536) → z = dat rs i) ∧ Below w.heap.size w wr) (fun _ ii _ => n - (intOf ii).toNat)
  case atStart => exact ⟨0, 0, by omega, rfl, rfl, fun _ _ => rfl, Below.refl _ _⟩
  case round =>
    obtain ⟨i, z, hi, rfl, rfl, hz, hbl⟩ := hrel
    have HBL := Lib.hid hbl
    have HZ := Lib.hid hz
    by_cases hlt : i < n
    · obtain ⟨b, off, rfl, hbk, hc⟩ := (H.out.below hbl).mem (by omega)
      obtain ⟨c0, c1, c2⟩ := hc i hlt
      obtain ⟨B, cc, hv⟩ := (H.out.by_ i hlt).form
      rw [hv] at c2
      have e1 : dat rs (i + 1) = dat rs i + (rs.getD i r0).d.length := rfl
      by_cases hs : i < 220 ∧ ∀ j, j < i + 1 → (rs.getD j r0).d.length ≤ 65536
      · obtain ⟨h220, hs⟩ := hs
        have h1 := dat_small i (fun j hj => hs j (by omega))
        have h2 := hs i (by omega)
        obtain rfl := HZ.out (by omega) (fun j hj => hs j (by omega))
        have HE := Lib.hid e1
        clear hc hbl hv hz e1 hs
        generalize (rs.getD i r0).d.length = k at *
        have h3 : dat rs i ≤ 65536 * 220 := by omega
        go_wp2_with fail
        exact ⟨⟨i + 1, (dat rs i : Int) + k, by omega, by go_num, by go_num, fun _ _ => by rw [HE.out]; simp, HBL.out⟩, by simp [intOf]; omega⟩
      · have HS := Lib.hid hs
        clear hc hbl hv hz e1 hs
        generalize hk : (rs.getD i r0).d.length = k at *
        have HK := Lib.hid hk
        clear hk
        go_wp2_with fail
        exact ⟨⟨i + 1, _, by omega, by go_num, rfl, fun h1 h2 => absurd ⟨by omega, h2⟩ HS.out, HBL.out⟩, by simp [intOf]; omega⟩
    · obtain rfl : i = n := by omega
      clear hz hbl
      by_cases h220 : i ≤ 220
      · have h220i : (i : Int) ≤ 220 := by omega
        by_cases h4 : z ≤ 4000
        · go_wp2_with fail
          go_ret
          exact ⟨true, rfl, fun _ => ⟨h220, fun h => by have := HZ.out h220 h; omega⟩, HBL.out⟩
        · go_wp2_with fail
          go_ret
          exact ⟨false, rfl, fun h => (by simp at h), HBL.out⟩
      · have h220i : ¬ (i : Int) ≤ 220 := by omega
        go_wp2_with fail
        go_ret
        exact ⟨false, rfl, fun h => (by simp at h), HBL.out⟩

end Go.Proofs.Ytgaliinjjonlmaa.Dt
