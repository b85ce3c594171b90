import Derived.Test.YthofhljbipkiaaaCoS
import Derived.Test.YthofhljbipkiaaaCoF
namespace Go.Proofs.Ythofhljbipkiaaa.Co
open Go.RowKit
open Go.Proofs.Ythofhljbipkiaaa.Tp
set_option linter.unusedVariables false

/-- The number that the first k of four signs make; what is missing counts as 0. -/
def vTo (l : List Nat) : Nat → Nat
  | 0 => 0
  | k + 1 => vTo l k * 64 + (if k < l.length then sv (l.getD k 0) else 0)

theorem vTo_lt {l : List Nat} : ∀ k, (∀ j, j < k → j < l.length → sgB (l.getD j 0) = true) → vTo l k < 64 ^ k
  | 0, _ => by simp [vTo]
  | k + 1, h => by
    have ih := vTo_lt k (fun j hj => h j (by omega))
    have e : 64 ^ (k + 1) = 64 ^ k * 64 := Nat.pow_succ 64 k
    simp only [vTo]
    split
    · rename_i hk
      have := sv_lt (h k (by omega) hk)
      omega
    · omega

/-- The bytes of the two, three or four signs of a group. -/
def grpB (l : List Nat) : Option (List Nat) :=
  if l.all sgB then
    if ([vTo l 4 / 65536, vTo l 4 / 256 % 256, vTo l 4 % 256].drop (l.length - 1)).all (· == 0) then some ([vTo l 4 / 65536, vTo l 4 / 256 % 256, vTo l 4 % 256].take (l.length - 1)) else none
  else none

theorem not_all {bs : List Nat} {P : Nat → Bool} {k : Nat} (hk : k < bs.length) (h : P (bs.getD k 0) = false) : bs.all P = false := by
  rw [List.all_eq_false]
  refine ⟨bs.getD k 0, ?_, by rw [h]; decide⟩
  rw [List.getD_eq_getElem?_getD, List.getElem?_eq_getElem hk]
  exact List.getElem_mem hk

/-- What groupBytes hands back. -/
def GrpPost (D : Option (List Nat)) (w : World) (e : Ending) (w' : World) : Prop :=
  (match D with
    | none => e = .returned (.tuple #[.slice none 0 0, .bool false])
    | some xs => ∃ v, e = .returned (.tuple #[v, .bool true]) ∧ By w' v xs) ∧ Below w.heap.size w w'

theorem row3 (W : World) (A B C : Value) : (W.alloc (.cells #[A, B, C] 5)).cell? ⟨W.heap.size, 0, none⟩ = some A ∧ (W.alloc (.cells #[A, B, C] 5)).cell? ⟨W.heap.size, 1, none⟩ = some B ∧ (W.alloc (.cells #[A, B, C] 5)).cell? ⟨W.heap.size, 2, none⟩ = some C := by
  have h := heap_alloc_new W (.cells #[A, B, C] 5)
  refine ⟨?_, ?_, ?_⟩ <;> (rw [cell_of_row _ _ _ _ _ _ h]; rfl)

theorem by_take {W : World} {a b c : Nat} (ha : a ≤ 255) (hb : b ≤ 255) (hc : c ≤ 255) (m : Nat) (hm : m ≤ 3) : By (W.alloc (.cells #[.int .u8 (a : Int), .int .u8 (b : Int), .int .u8 (c : Int)] 5)) (.slice (some ⟨W.heap.size, 0, none⟩) m 3) ([a, b, c].take m) := by
  obtain ⟨h0, h1, h2⟩ := row3 W (.int .u8 (a : Int)) (.int .u8 (b : Int)) (.int .u8 (c : Int))
  refine ⟨fun x hx => ?_, .inr ⟨W.heap.size, 0, 3, by simp [hm], by simp [hm], by unfold maxLen; omega, by simp, fun j hj => ?_⟩⟩
  · have := List.mem_of_mem_take hx
    simp at this
    omega
  · simp [hm] at hj
    rw [Nat.zero_add]
    rcases (by omega : j = 0 ∨ j = 1 ∨ j = 2) with rfl | rfl | rfl
    · rw [h0]; simp [List.getD_eq_getElem?_getD, hj]
    · rw [h1]; simp [List.getD_eq_getElem?_getD, hj]
    · rw [h2]; simp [List.getD_eq_getElem?_getD, hj]

set_option maxRecDepth 100000 in
set_option maxHeartbeats 4000000 in
theorem grp2_any (s : ByteArray) (w : World) (hs : s.size = 2) : Calls Try.prog 57 #[.string s] w (GrpPost (grpB (nums s)) w) := by
  have hL : (nums s).length = 2 := (nums_length s).trans hs
  have HL := Lib.hid hL
  clear hL
  go_enter Try.func57, Try.ntmps57
  go_wp2_with fail
  go_loopw [4, 9] (fun b i wr => wr = w ∧ ∃ k : Nat, k ≤ 4 ∧ i = .int .i64 (k : Int) ∧ b = .int .i64 (vTo (nums s) k : Nat) ∧ ∀ j, j < k → j < (nums s).length → sgB ((nums s).getD j 0) = true) (fun _ i _ => 4 - (intOf i).toNat)
  case atStart => exact ⟨rfl, 0, by omega, rfl, rfl, fun j hj => by omega⟩
  case round =>
    obtain ⟨rfl, k, hk, rfl, rfl, hall⟩ := hrel
    have HALL := Lib.hid hall
    have hV := vTo_lt k hall
    clear hall
    by_cases hlt : k < 4
    · have hki : (k : Int) < 4 := by omega
      have hp : 64 ^ k ≤ 64 ^ 3 := Nat.pow_le_pow_right (by decide) (by omega)
      obtain ⟨V, hVV⟩ : ∃ V, vTo (nums s) k = V := ⟨_, rfl⟩
      rw [hVV] at hV ⊢
      have hV3 : V < 262144 := by omega
      clear hV hp
      obtain ⟨V6, hV6⟩ : ∃ V6, V * 64 = V6 := ⟨_, rfl⟩
      have e1 : (V : Int) * 64 = (V6 : Int) := by omega
      have e2 : IntKind.i64.wrap (V6 : Int) = (V6 : Int) := IntWalk.i64_in _ (by omega)
      have HS := Lib.hid (show vTo (nums s) (k + 1) = V6 + (if k < (nums s).length then sv ((nums s).getD k 0) else 0) by simp only [vTo]; rw [hVV, hV6])
      clear hVV
      by_cases hkn : k < 2
      · have hkni : ¬ (2 : Int) ≤ (k : Int) := by omega
        have hkni2 : (k : Int) < 2 := by omega
        have hks : (k : Int) < (s.size : Int) := by omega
        have hnb := nb_at s k (by omega)
        have HNB := Lib.hid (show nb s k = (nums s).getD k 0 from rfl)
        generalize nb s k = c at *
        cases hsg : sgB c
        · have HF : Hid (grpB (nums s) = none) := by
            show _ = _
            unfold grpB
            rw [not_all (P := sgB) (k := k) (by rw [HL.out]; omega) (by rw [← HNB.out]; exact hsg)]
            rfl
          go_wp2_with (go_at_call 34; refine (issign_any _ _).mono ?_; rintro e w1 ⟨rfl, rfl⟩; rw [hsg])
          go_ret2
          exact ⟨by rw [HF]; rfl, Below.refl _ _⟩
        · have hq := sv_lt hsg
          have hall2 : ∀ j, j < k + 1 → j < (nums s).length → sgB ((nums s).getD j 0) = true := fun j hj hjn => by
            by_cases hjk : j < k
            · exact HALL.out j hjk hjn
            · obtain rfl : j = k := by omega
              rw [← HNB.out]
              exact hsg
          have HA2 := Lib.hid hall2
          have hHS := HS.out
          rw [if_pos (by rw [HL.out]; exact hkn), ← HNB.out] at hHS
          have HS2 := Lib.hid hHS
          have cx := fun w => sgval_any c w hsg
          have CX := Lib.hid cx
          clear hall2 hHS cx
          generalize sv c = q at *
          have e3 : bits .or .i64 (V6 : Int) (q : Int) = ((V6 + q : Nat) : Int) := or_i64 _ _ 6 (by omega) ⟨V, by omega⟩ (by omega)
          have e4 : IntKind.i64.wrap (q : Int) = (q : Int) := IntWalk.i64_in _ (by omega)
          obtain ⟨V7, hV7⟩ : ∃ V7, V6 + q = V7 := ⟨_, rfl⟩
          rw [hV7] at e3 HS2
          go_wp2_with (first
            | (go_at_call 34; refine (issign_any _ _).mono ?_; rintro e w1 ⟨rfl, rfl⟩; rw [hsg])
            | (go_at_call 67; refine (CX.out _).mono ?_; rintro e w1 ⟨rfl, rfl⟩))
          exact ⟨⟨trivial, k + 1, by omega, by go_num, by rw [HS2.out], HA2.out⟩, by simp [intOf]; omega⟩
      · have hkni : (2 : Int) ≤ (k : Int) := by omega
        have hkni2 : ¬ (k : Int) < 2 := by omega
        have hHS := HS.out
        rw [if_neg (by rw [HL.out]; exact hkn), Nat.add_zero] at hHS
        have HS2 := Lib.hid hHS
        clear hHS
        go_wp2_with fail
        exact ⟨⟨trivial, k + 1, by omega, by go_num, by rw [HS2.out]; rfl, fun j hj hjn => HALL.out j (by rw [HL.out] at hjn; omega) hjn⟩, by simp [intOf]; omega⟩
    · obtain rfl : k = 4 := by omega
      have hV4 : vTo (nums s) 4 < 16777216 := hV
      have hsa : (nums s).all sgB = true := by
        rw [List.all_eq_true]
        intro x hx
        obtain ⟨j, hj, rfl⟩ := List.mem_iff_getElem.1 hx
        have := HALL.out j (by rw [HL.out] at hj; omega) hj
        rw [List.getD_eq_getElem?_getD, List.getElem?_eq_getElem hj] at this
        exact this
      have HG : Hid (grpB (nums s) = if ([vTo (nums s) 4 / 65536, vTo (nums s) 4 / 256 % 256, vTo (nums s) 4 % 256].drop 1).all (· == 0) then some ([vTo (nums s) 4 / 65536, vTo (nums s) 4 / 256 % 256, vTo (nums s) 4 % 256].take 1) else none) := by
        show _ = _
        unfold grpB
        rw [hsa, if_pos rfl, HL.out]
      clear hsa hV
      generalize vTo (nums s) 4 = V at *
      obtain ⟨y0, hy0⟩ : ∃ y0, V / 65536 = y0 := ⟨_, rfl⟩
      obtain ⟨y1, hy1⟩ : ∃ y1, V / 256 = y1 := ⟨_, rfl⟩
      obtain ⟨z1, hz1⟩ : ∃ z1, V / 256 % 256 = z1 := ⟨_, rfl⟩
      obtain ⟨z2, hz2⟩ : ∃ z2, V % 256 = z2 := ⟨_, rfl⟩
      have f0 : (V : Int) / 65536 = (y0 : Int) := by omega
      have f1 : (V : Int) / 256 = (y1 : Int) := by omega
      have f2 : IntKind.u8.wrap (y0 : Int) = (y0 : Int) := by rw [IntKind.wrap_u8]; omega
      have f3 : IntKind.u8.wrap (y1 : Int) = (z1 : Int) := by rw [IntKind.wrap_u8]; omega
      have f4 : IntKind.u8.wrap (V : Int) = (z2 : Int) := by rw [IntKind.wrap_u8]; omega
      rw [hy0, hz1, hz2] at HG
      have b0 : y0 ≤ 255 := by omega
      have b1 : z1 ≤ 255 := by omega
      have b2 : z2 ≤ 255 := by omega
      obtain ⟨c0, c1, c2⟩ := row3 wr (.int .u8 (y0 : Int)) (.int .u8 (z1 : Int)) (.int .u8 (z2 : Int))
      have HBX := Lib.hid (box_below wr (.cells #[.int .u8 (y0 : Int), .int .u8 (z1 : Int), .int .u8 (z2 : Int)] 5))
      have HBY := Lib.hid (by_take (W := wr) b0 b1 b2 1 (by omega))
      clear hy0 hy1 hz1 hz2
      go_wp2_with fail
      go_loopw [46] (fun i w3 => w3 = wr.alloc (.cells #[.int .u8 (y0 : Int), .int .u8 (z1 : Int), .int .u8 (z2 : Int)] 5) ∧ ∃ k : Nat, k ≤ 2 ∧ i = .int .i64 (k : Int) ∧ ∀ j, j < k → [z1, z2].getD j 0 = 0) (fun i _ => 2 - (intOf i).toNat)
      case atStart => exact ⟨rfl, 0, by omega, rfl, fun j hj => by omega⟩
      case round =>
        obtain ⟨rfl, k, hk, rfl, hz⟩ := hrel
        have HZ := Lib.hid hz
        clear hz
        rcases (by omega : k = 0 ∨ k = 1 ∨ k = 2) with rfl | rfl | rfl
        · by_cases h0 : z1 = 0
          · subst h0
            go_wp2_with fail
            exact ⟨⟨rfl, 0 + 1, by omega, by go_num, fun j hj => by
              rcases (by omega : j < 0 ∨ j = 0) with hj | rfl
              · exact HZ.out j hj
              · rfl⟩, by simp [intOf]⟩
          · have hzb : ((z1 : Int) == 0) = false := beq_eq_false_iff_ne.2 (by omega)
            have HF : Hid (grpB (nums s) = none) := by
              show _ = _
              rw [HG, if_neg (by simp; omega)]
            go_wp2_with fail
            go_ret2
            exact ⟨by rw [HF]; rfl, HBX.out⟩
        · by_cases h0 : z2 = 0
          · subst h0
            go_wp2_with fail
            exact ⟨⟨rfl, 1 + 1, by omega, by go_num, fun j hj => by
              rcases (by omega : j < 1 ∨ j = 1) with hj | rfl
              · exact HZ.out j hj
              · rfl⟩, by simp [intOf]⟩
          · have hzb : ((z2 : Int) == 0) = false := beq_eq_false_iff_ne.2 (by omega)
            have HF : Hid (grpB (nums s) = none) := by
              show _ = _
              rw [HG, if_neg (by simp; omega)]
            go_wp2_with fail
            go_ret2
            exact ⟨by rw [HF]; rfl, HBX.out⟩
        · have e1 : z1 = 0 := HZ.out 0 (by omega)
          have e2 : z2 = 0 := HZ.out 1 (by omega)
          subst e1 e2
          go_wp2_with fail
          go_ret2
          exact ⟨by rw [HG]; exact ⟨_, rfl, HBY.out⟩, HBX.out⟩

set_option maxRecDepth 100000 in
set_option maxHeartbeats 4000000 in
theorem grp3_any (s : ByteArray) (w : World) (hs : s.size = 3) : Calls Try.prog 57 #[.string s] w (GrpPost (grpB (nums s)) w) := by
  have hL : (nums s).length = 3 := (nums_length s).trans hs
  have HL := Lib.hid hL
  clear hL
  go_enter Try.func57, Try.ntmps57
  go_wp2_with fail
  go_loopw [4, 9] (fun b i wr => wr = w ∧ ∃ k : Nat, k ≤ 4 ∧ i = .int .i64 (k : Int) ∧ b = .int .i64 (vTo (nums s) k : Nat) ∧ ∀ j, j < k → j < (nums s).length → sgB ((nums s).getD j 0) = true) (fun _ i _ => 4 - (intOf i).toNat)
  case atStart => exact ⟨rfl, 0, by omega, rfl, rfl, fun j hj => by omega⟩
  case round =>
    obtain ⟨rfl, k, hk, rfl, rfl, hall⟩ := hrel
    have HALL := Lib.hid hall
    have hV := vTo_lt k hall
    clear hall
    by_cases hlt : k < 4
    · have hki : (k : Int) < 4 := by omega
      have hp : 64 ^ k ≤ 64 ^ 3 := Nat.pow_le_pow_right (by decide) (by omega)
      obtain ⟨V, hVV⟩ : ∃ V, vTo (nums s) k = V := ⟨_, rfl⟩
      rw [hVV] at hV ⊢
      have hV3 : V < 262144 := by omega
      clear hV hp
      obtain ⟨V6, hV6⟩ : ∃ V6, V * 64 = V6 := ⟨_, rfl⟩
      have e1 : (V : Int) * 64 = (V6 : Int) := by omega
      have e2 : IntKind.i64.wrap (V6 : Int) = (V6 : Int) := IntWalk.i64_in _ (by omega)
      have HS := Lib.hid (show vTo (nums s) (k + 1) = V6 + (if k < (nums s).length then sv ((nums s).getD k 0) else 0) by simp only [vTo]; rw [hVV, hV6])
      clear hVV
      by_cases hkn : k < 3
      · have hkni : ¬ (3 : Int) ≤ (k : Int) := by omega
        have hkni2 : (k : Int) < 3 := by omega
        have hks : (k : Int) < (s.size : Int) := by omega
        have hnb := nb_at s k (by omega)
        have HNB := Lib.hid (show nb s k = (nums s).getD k 0 from rfl)
        generalize nb s k = c at *
        cases hsg : sgB c
        · have HF : Hid (grpB (nums s) = none) := by
            show _ = _
            unfold grpB
            rw [not_all (P := sgB) (k := k) (by rw [HL.out]; omega) (by rw [← HNB.out]; exact hsg)]
            rfl
          go_wp2_with (go_at_call 34; refine (issign_any _ _).mono ?_; rintro e w1 ⟨rfl, rfl⟩; rw [hsg])
          go_ret2
          exact ⟨by rw [HF]; rfl, Below.refl _ _⟩
        · have hq := sv_lt hsg
          have hall2 : ∀ j, j < k + 1 → j < (nums s).length → sgB ((nums s).getD j 0) = true := fun j hj hjn => by
            by_cases hjk : j < k
            · exact HALL.out j hjk hjn
            · obtain rfl : j = k := by omega
              rw [← HNB.out]
              exact hsg
          have HA2 := Lib.hid hall2
          have hHS := HS.out
          rw [if_pos (by rw [HL.out]; exact hkn), ← HNB.out] at hHS
          have HS2 := Lib.hid hHS
          have cx := fun w => sgval_any c w hsg
          have CX := Lib.hid cx
          clear hall2 hHS cx
          generalize sv c = q at *
          have e3 : bits .or .i64 (V6 : Int) (q : Int) = ((V6 + q : Nat) : Int) := or_i64 _ _ 6 (by omega) ⟨V, by omega⟩ (by omega)
          have e4 : IntKind.i64.wrap (q : Int) = (q : Int) := IntWalk.i64_in _ (by omega)
          obtain ⟨V7, hV7⟩ : ∃ V7, V6 + q = V7 := ⟨_, rfl⟩
          rw [hV7] at e3 HS2
          go_wp2_with (first
            | (go_at_call 34; refine (issign_any _ _).mono ?_; rintro e w1 ⟨rfl, rfl⟩; rw [hsg])
            | (go_at_call 67; refine (CX.out _).mono ?_; rintro e w1 ⟨rfl, rfl⟩))
          exact ⟨⟨trivial, k + 1, by omega, by go_num, by rw [HS2.out], HA2.out⟩, by simp [intOf]; omega⟩
      · have hkni : (3 : Int) ≤ (k : Int) := by omega
        have hkni2 : ¬ (k : Int) < 3 := by omega
        have hHS := HS.out
        rw [if_neg (by rw [HL.out]; exact hkn), Nat.add_zero] at hHS
        have HS2 := Lib.hid hHS
        clear hHS
        go_wp2_with fail
        exact ⟨⟨trivial, k + 1, by omega, by go_num, by rw [HS2.out]; rfl, fun j hj hjn => HALL.out j (by rw [HL.out] at hjn; omega) hjn⟩, by simp [intOf]; omega⟩
    · obtain rfl : k = 4 := by omega
      have hV4 : vTo (nums s) 4 < 16777216 := hV
      have hsa : (nums s).all sgB = true := by
        rw [List.all_eq_true]
        intro x hx
        obtain ⟨j, hj, rfl⟩ := List.mem_iff_getElem.1 hx
        have := HALL.out j (by rw [HL.out] at hj; omega) hj
        rw [List.getD_eq_getElem?_getD, List.getElem?_eq_getElem hj] at this
        exact this
      have HG : Hid (grpB (nums s) = if ([vTo (nums s) 4 / 65536, vTo (nums s) 4 / 256 % 256, vTo (nums s) 4 % 256].drop 2).all (· == 0) then some ([vTo (nums s) 4 / 65536, vTo (nums s) 4 / 256 % 256, vTo (nums s) 4 % 256].take 2) else none) := by
        show _ = _
        unfold grpB
        rw [hsa, if_pos rfl, HL.out]
      clear hsa hV
      generalize vTo (nums s) 4 = V at *
      obtain ⟨y0, hy0⟩ : ∃ y0, V / 65536 = y0 := ⟨_, rfl⟩
      obtain ⟨y1, hy1⟩ : ∃ y1, V / 256 = y1 := ⟨_, rfl⟩
      obtain ⟨z1, hz1⟩ : ∃ z1, V / 256 % 256 = z1 := ⟨_, rfl⟩
      obtain ⟨z2, hz2⟩ : ∃ z2, V % 256 = z2 := ⟨_, rfl⟩
      have f0 : (V : Int) / 65536 = (y0 : Int) := by omega
      have f1 : (V : Int) / 256 = (y1 : Int) := by omega
      have f2 : IntKind.u8.wrap (y0 : Int) = (y0 : Int) := by rw [IntKind.wrap_u8]; omega
      have f3 : IntKind.u8.wrap (y1 : Int) = (z1 : Int) := by rw [IntKind.wrap_u8]; omega
      have f4 : IntKind.u8.wrap (V : Int) = (z2 : Int) := by rw [IntKind.wrap_u8]; omega
      rw [hy0, hz1, hz2] at HG
      have b0 : y0 ≤ 255 := by omega
      have b1 : z1 ≤ 255 := by omega
      have b2 : z2 ≤ 255 := by omega
      obtain ⟨c0, c1, c2⟩ := row3 wr (.int .u8 (y0 : Int)) (.int .u8 (z1 : Int)) (.int .u8 (z2 : Int))
      have HBX := Lib.hid (box_below wr (.cells #[.int .u8 (y0 : Int), .int .u8 (z1 : Int), .int .u8 (z2 : Int)] 5))
      have HBY := Lib.hid (by_take (W := wr) b0 b1 b2 2 (by omega))
      clear hy0 hy1 hz1 hz2
      go_wp2_with fail
      go_loopw [46] (fun i w3 => w3 = wr.alloc (.cells #[.int .u8 (y0 : Int), .int .u8 (z1 : Int), .int .u8 (z2 : Int)] 5) ∧ ∃ k : Nat, k ≤ 1 ∧ i = .int .i64 (k : Int) ∧ ∀ j, j < k → [z2].getD j 0 = 0) (fun i _ => 1 - (intOf i).toNat)
      case atStart => exact ⟨rfl, 0, by omega, rfl, fun j hj => by omega⟩
      case round =>
        obtain ⟨rfl, k, hk, rfl, hz⟩ := hrel
        have HZ := Lib.hid hz
        clear hz
        rcases (by omega : k = 0 ∨ k = 1) with rfl | rfl
        · by_cases h0 : z2 = 0
          · subst h0
            go_wp2_with fail
            exact ⟨⟨rfl, 0 + 1, by omega, by go_num, fun j hj => by
              rcases (by omega : j < 0 ∨ j = 0) with hj | rfl
              · exact HZ.out j hj
              · rfl⟩, by simp [intOf]⟩
          · have hzb : ((z2 : Int) == 0) = false := beq_eq_false_iff_ne.2 (by omega)
            have HF : Hid (grpB (nums s) = none) := by
              show _ = _
              rw [HG, if_neg (by simp; omega)]
            go_wp2_with fail
            go_ret2
            exact ⟨by rw [HF]; rfl, HBX.out⟩
        · have e2 : z2 = 0 := HZ.out 0 (by omega)
          subst e2
          go_wp2_with fail
          go_ret2
          exact ⟨by rw [HG]; exact ⟨_, rfl, HBY.out⟩, HBX.out⟩

set_option maxRecDepth 100000 in
set_option maxHeartbeats 4000000 in
theorem grp4_any (s : ByteArray) (w : World) (hs : s.size = 4) : Calls Try.prog 57 #[.string s] w (GrpPost (grpB (nums s)) w) := by
  have hL : (nums s).length = 4 := (nums_length s).trans hs
  have HL := Lib.hid hL
  clear hL
  go_enter Try.func57, Try.ntmps57
  go_wp2_with fail
  go_loopw [4, 9] (fun b i wr => wr = w ∧ ∃ k : Nat, k ≤ 4 ∧ i = .int .i64 (k : Int) ∧ b = .int .i64 (vTo (nums s) k : Nat) ∧ ∀ j, j < k → j < (nums s).length → sgB ((nums s).getD j 0) = true) (fun _ i _ => 4 - (intOf i).toNat)
  case atStart => exact ⟨rfl, 0, by omega, rfl, rfl, fun j hj => by omega⟩
  case round =>
    obtain ⟨rfl, k, hk, rfl, rfl, hall⟩ := hrel
    have HALL := Lib.hid hall
    have hV := vTo_lt k hall
    clear hall
    by_cases hlt : k < 4
    · have hki : (k : Int) < 4 := by omega
      have hp : 64 ^ k ≤ 64 ^ 3 := Nat.pow_le_pow_right (by decide) (by omega)
      obtain ⟨V, hVV⟩ : ∃ V, vTo (nums s) k = V := ⟨_, rfl⟩
      rw [hVV] at hV ⊢
      have hV3 : V < 262144 := by omega
      clear hV hp
      obtain ⟨V6, hV6⟩ : ∃ V6, V * 64 = V6 := ⟨_, rfl⟩
      have e1 : (V : Int) * 64 = (V6 : Int) := by omega
      have e2 : IntKind.i64.wrap (V6 : Int) = (V6 : Int) := IntWalk.i64_in _ (by omega)
      have HS := Lib.hid (show vTo (nums s) (k + 1) = V6 + (if k < (nums s).length then sv ((nums s).getD k 0) else 0) by simp only [vTo]; rw [hVV, hV6])
      clear hVV
      by_cases hkn : k < 4
      · have hkni : ¬ (4 : Int) ≤ (k : Int) := by omega
        have hkni2 : (k : Int) < 4 := by omega
        have hks : (k : Int) < (s.size : Int) := by omega
        have hnb := nb_at s k (by omega)
        have HNB := Lib.hid (show nb s k = (nums s).getD k 0 from rfl)
        generalize nb s k = c at *
        cases hsg : sgB c
        · have HF : Hid (grpB (nums s) = none) := by
            show _ = _
            unfold grpB
            rw [not_all (P := sgB) (k := k) (by rw [HL.out]; omega) (by rw [← HNB.out]; exact hsg)]
            rfl
          go_wp2_with (go_at_call 34; refine (issign_any _ _).mono ?_; rintro e w1 ⟨rfl, rfl⟩; rw [hsg])
          go_ret2
          exact ⟨by rw [HF]; rfl, Below.refl _ _⟩
        · have hq := sv_lt hsg
          have hall2 : ∀ j, j < k + 1 → j < (nums s).length → sgB ((nums s).getD j 0) = true := fun j hj hjn => by
            by_cases hjk : j < k
            · exact HALL.out j hjk hjn
            · obtain rfl : j = k := by omega
              rw [← HNB.out]
              exact hsg
          have HA2 := Lib.hid hall2
          have hHS := HS.out
          rw [if_pos (by rw [HL.out]; exact hkn), ← HNB.out] at hHS
          have HS2 := Lib.hid hHS
          have cx := fun w => sgval_any c w hsg
          have CX := Lib.hid cx
          clear hall2 hHS cx
          generalize sv c = q at *
          have e3 : bits .or .i64 (V6 : Int) (q : Int) = ((V6 + q : Nat) : Int) := or_i64 _ _ 6 (by omega) ⟨V, by omega⟩ (by omega)
          have e4 : IntKind.i64.wrap (q : Int) = (q : Int) := IntWalk.i64_in _ (by omega)
          obtain ⟨V7, hV7⟩ : ∃ V7, V6 + q = V7 := ⟨_, rfl⟩
          rw [hV7] at e3 HS2
          go_wp2_with (first
            | (go_at_call 34; refine (issign_any _ _).mono ?_; rintro e w1 ⟨rfl, rfl⟩; rw [hsg])
            | (go_at_call 67; refine (CX.out _).mono ?_; rintro e w1 ⟨rfl, rfl⟩))
          exact ⟨⟨trivial, k + 1, by omega, by go_num, by rw [HS2.out], HA2.out⟩, by simp [intOf]; omega⟩
      · have hkni : (4 : Int) ≤ (k : Int) := by omega
        have hkni2 : ¬ (k : Int) < 4 := by omega
        have hHS := HS.out
        rw [if_neg (by rw [HL.out]; exact hkn), Nat.add_zero] at hHS
        have HS2 := Lib.hid hHS
        clear hHS
        go_wp2_with fail
        exact ⟨⟨trivial, k + 1, by omega, by go_num, by rw [HS2.out]; rfl, fun j hj hjn => HALL.out j (by rw [HL.out] at hjn; omega) hjn⟩, by simp [intOf]; omega⟩
    · obtain rfl : k = 4 := by omega
      have hV4 : vTo (nums s) 4 < 16777216 := hV
      have hsa : (nums s).all sgB = true := by
        rw [List.all_eq_true]
        intro x hx
        obtain ⟨j, hj, rfl⟩ := List.mem_iff_getElem.1 hx
        have := HALL.out j (by rw [HL.out] at hj; omega) hj
        rw [List.getD_eq_getElem?_getD, List.getElem?_eq_getElem hj] at this
        exact this
      have HG : Hid (grpB (nums s) = if ([vTo (nums s) 4 / 65536, vTo (nums s) 4 / 256 % 256, vTo (nums s) 4 % 256].drop 3).all (· == 0) then some ([vTo (nums s) 4 / 65536, vTo (nums s) 4 / 256 % 256, vTo (nums s) 4 % 256].take 3) else none) := by
        show _ = _
        unfold grpB
        rw [hsa, if_pos rfl, HL.out]
      clear hsa hV
      generalize vTo (nums s) 4 = V at *
      obtain ⟨y0, hy0⟩ : ∃ y0, V / 65536 = y0 := ⟨_, rfl⟩
      obtain ⟨y1, hy1⟩ : ∃ y1, V / 256 = y1 := ⟨_, rfl⟩
      obtain ⟨z1, hz1⟩ : ∃ z1, V / 256 % 256 = z1 := ⟨_, rfl⟩
      obtain ⟨z2, hz2⟩ : ∃ z2, V % 256 = z2 := ⟨_, rfl⟩
      have f0 : (V : Int) / 65536 = (y0 : Int) := by omega
      have f1 : (V : Int) / 256 = (y1 : Int) := by omega
      have f2 : IntKind.u8.wrap (y0 : Int) = (y0 : Int) := by rw [IntKind.wrap_u8]; omega
      have f3 : IntKind.u8.wrap (y1 : Int) = (z1 : Int) := by rw [IntKind.wrap_u8]; omega
      have f4 : IntKind.u8.wrap (V : Int) = (z2 : Int) := by rw [IntKind.wrap_u8]; omega
      rw [hy0, hz1, hz2] at HG
      have b0 : y0 ≤ 255 := by omega
      have b1 : z1 ≤ 255 := by omega
      have b2 : z2 ≤ 255 := by omega
      obtain ⟨c0, c1, c2⟩ := row3 wr (.int .u8 (y0 : Int)) (.int .u8 (z1 : Int)) (.int .u8 (z2 : Int))
      have HBX := Lib.hid (box_below wr (.cells #[.int .u8 (y0 : Int), .int .u8 (z1 : Int), .int .u8 (z2 : Int)] 5))
      have HBY := Lib.hid (by_take (W := wr) b0 b1 b2 3 (by omega))
      clear hy0 hy1 hz1 hz2
      go_wp2_with fail
      go_loopw [46] (fun i w3 => w3 = wr.alloc (.cells #[.int .u8 (y0 : Int), .int .u8 (z1 : Int), .int .u8 (z2 : Int)] 5) ∧ i = .int .i64 0) (fun i _ => 0)
      case atStart => exact ⟨rfl, rfl⟩
      case round =>
        obtain ⟨rfl, rfl⟩ := hrel
        go_wp2_with fail
        go_ret2
        exact ⟨by rw [HG]; exact ⟨_, rfl, HBY.out⟩, HBX.out⟩


end Go.Proofs.Ythofhljbipkiaaa.Co
