import Derived.Test.YthofhljbipkiaaaDoorCkC
import Derived.Test.YthofhljbipkiaaaDoorBytesWalk
namespace Go.Proofs.YthofhljbipkiaaaDoor.Ck
open Go.RowKit
open Go.Proofs.YthofhljbipkiaaaDoor.Tp
set_option linter.unusedVariables false

def strB (bs : List Nat) : ByteArray := strOfNums (bs.map fun b : Nat => (b : Int))

theorem strOf_data (l : List Int) : (strOfNums l).data.toList = l.map (fun n => UInt8.ofNat n.toNat) := by
  simp [strOfNums]

theorem nums_strB {bs : List Nat} (h : ∀ b ∈ bs, b ≤ 255) : nums (strB bs) = bs := by
  unfold nums strB
  rw [strOf_data, List.map_map, List.map_map]
  conv => rhs; rw [← List.map_id bs]
  apply List.map_congr_left
  intro b hb
  have := h b hb
  show (UInt8.ofNat ((b : Int)).toNat).toNat = b
  rw [Int.toNat_natCast, UInt8.toNat_ofNat']
  omega

theorem nums_append (s t : ByteArray) : nums (s ++ t) = nums s ++ nums t := by
  unfold nums
  rw [ByteArray.data_append, Array.toList_append, List.map_append]

theorem nums_extract (s : ByteArray) (a b : Nat) : nums (s.extract a b) = ((nums s).take b).drop a := by
  unfold nums
  rw [ByteArray.data_extract, Array.toList_extract, List.extract_eq_take_drop, ← List.map_take, ← List.map_drop, List.drop_take]

theorem nums_drop (s : ByteArray) (a : Nat) : nums (s.extract a s.size) = (nums s).drop a := by
  rw [nums_extract, List.take_of_length_le (by rw [nums_length]; exact Nat.le_refl _)]

theorem nums_take (s : ByteArray) (b : Nat) : nums (s.extract 0 b) = (nums s).take b := by
  rw [nums_extract, List.drop_zero]

theorem size_extract_le (s : ByteArray) (a b : Nat) : (s.extract a b).size ≤ s.size := by
  rw [ByteArray.size_extract]
  omega

theorem size_strB {bs : List Nat} : (strB bs).size = bs.length := by
  show (strB bs).data.size = _
  rw [← Array.length_toList]
  unfold strB
  rw [strOf_data]
  simp

/-- Bytes as they lie in memory; nil has none. -/
def By (w : World) (v : Value) (bs : List Nat) : Prop :=
  (∀ b ∈ bs, b ≤ 255) ∧ ((v = .slice none 0 0 ∧ bs = []) ∨
    ∃ b off c, v = .slice (some ⟨b, off, none⟩) bs.length c ∧ bs.length ≤ c ∧ c ≤ maxLen ∧ b < w.heap.size ∧ ∀ j, j < bs.length → w.cell? ⟨b, off + j, none⟩ = some (.int .u8 ((bs.getD j 0 : Nat) : Int)))

theorem By.below {w w' : World} {v : Value} {bs : List Nat} (h : By w v bs) (hb : Below w.heap.size w w') : By w' v bs := by
  refine ⟨h.1, ?_⟩
  rcases h.2 with h2 | ⟨b, off, c, e, h1, h2, h3, h4⟩
  · exact .inl h2
  · exact .inr ⟨b, off, c, e, h1, h2, Nat.lt_of_lt_of_le h3 hb.size, fun j hj => (hb.cell (p := ⟨b, off + j, none⟩) h3).trans (h4 j hj)⟩

theorem box_below (w : World) (o : Obj) : Below w.heap.size w (w.alloc o) := (Below.refl _ _).alloc (Nat.le_refl _) _

theorem row_lt {w : World} {g : Nat} {o : Obj} (h : w.heap[g]? = some o) : g < w.heap.size := (Array.getElem?_eq_some_iff.1 h).1

theorem by_own {w : World} {base n : Nat} {v : Value} {bs : List Nat} (h : w.ownsRow base 5 1 v n (u8s bs)) (hl : bs.length = n) (hb : ∀ b ∈ bs, b ≤ 255) : By w v bs ∧ ∀ b off k c, v = .slice (some ⟨b, off, none⟩) k c → base ≤ b := by
  have h' := h
  subst hl
  rcases h.2 with ⟨rfl, e⟩ | ⟨g, cap, cur, rfl, hg, hh, hnc, hcm, _⟩
  · exact ⟨⟨hb, (.inl ⟨rfl, List.eq_nil_of_length_eq_zero e⟩)⟩, fun b off k c e => by cases e⟩
  · refine ⟨⟨hb, .inr ⟨g, 0, cap, rfl, hnc, hcm, row_lt hh, fun j hj => ?_⟩⟩, fun b off k c e => by cases e; exact hg⟩
    rw [Nat.zero_add, h'.cellAt j (by omega)]
    simp [u8s, hj]

theorem conv_by {w : World} {v : Value} {bs : List Nat} (h : By w v bs) : (convert 32 9 v).run Tryd.prog w = .ok (.string (strB bs)) w := by
  rcases h.2 with ⟨rfl, rfl⟩ | ⟨b, off, c, rfl, _, _, _, h4⟩
  · kernel_rfl
  · exact run_convert_bytes_arg w 32 5 Tryd.underlying32 Tryd.underlying5 b off bs.length c _ (by simp) (fun i hi => by rw [h4 i hi]; simp [hi]) 9 Tryd.underlying9

def mod97 (bs : List Nat) : Bool := decide (3 ≤ bs.length) && (bs.all isDC && ((bs.drop (bs.length - 2)).all isD && decide (remTo bs bs.length = 1)))

set_option maxRecDepth 100000 in
set_option maxHeartbeats 1000000 in
theorem mod97_any (s : ByteArray) (w : World) (hs : s.size ≤ 100000) : Calls Tryd.prog 13 #[.string s] w fun e w' => e = .returned (.bool (mod97 (nums s))) ∧ w = w' := by
  have hL := Lib.hid (nums_length s)
  by_cases h3 : 3 ≤ s.size
  · have hd : decide ((3 : Int) ≤ (s.size : Int)) = true := by simp; omega
    have hdd : decide (3 ≤ s.size) = true := by simp; omega
    by_cases ha : (nums s).all isDC = true
    · have HA := Lib.hid ha
      have hq := nums_drop s (s.size - 2)
      by_cases hb : (nums (s.extract (s.size - 2) s.size)).all isD = true
      · have hfin := Lib.hid (show mod97 (nums s) = decide (remTo (nums s) s.size = 1) by unfold mod97; rw [hL.out, hdd, HA.out, ← hq, hb]; rfl)
        have hv : (((remTo (nums s) s.size : Nat) : Int) == 1) = decide (remTo (nums s) s.size = 1) := by rw [Bool.eq_iff_iff]; simp; omega
        have HV := Lib.hid hv
        clear hq hv hdd
        go_enter Tryd.func13, Tryd.ntmps13
        go_wp2_with (go_at_call 32; refine (ismod_any _ _ hs).mono ?_; rintro e w1 ⟨rfl, rfl⟩)
        go_wp2_with (go_at_call 30; refine (every_d _ _ (Nat.le_trans (size_extract_le _ _ _) hs)).mono ?_; rintro e w1 ⟨rfl, rfl⟩)
        go_wp2_with (go_at_call 33; refine (rem_any _ _ hs HA.out).mono ?_; rintro e w1 ⟨rfl, rfl⟩)
        go_ret
        exact ⟨by rw [hfin.out, ← HV.out]; rfl, rfl⟩
      · rw [Bool.not_eq_true] at hb
        have hfin := Lib.hid (show mod97 (nums s) = false by unfold mod97; rw [hL.out, hdd, HA.out, ← hq, hb]; rfl)
        clear hq hdd
        go_enter Tryd.func13, Tryd.ntmps13
        go_wp2_with (go_at_call 32; refine (ismod_any _ _ hs).mono ?_; rintro e w1 ⟨rfl, rfl⟩)
        go_wp2_with (go_at_call 30; refine (every_d _ _ (Nat.le_trans (size_extract_le _ _ _) hs)).mono ?_; rintro e w1 ⟨rfl, rfl⟩)
        go_ret
        exact ⟨by rw [hfin.out]; rfl, rfl⟩
    · rw [Bool.not_eq_true] at ha
      have hfin := Lib.hid (show mod97 (nums s) = false by unfold mod97; rw [hL.out, hdd, ha]; rfl)
      clear hdd
      go_enter Tryd.func13, Tryd.ntmps13
      go_wp2_with (go_at_call 32; refine (ismod_any _ _ hs).mono ?_; rintro e w1 ⟨rfl, rfl⟩)
      go_ret
      exact ⟨by rw [hfin.out]; rfl, rfl⟩
  · have hd : decide ((3 : Int) ≤ (s.size : Int)) = false := by simp; omega
    have hfin := Lib.hid (show mod97 (nums s) = false by unfold mod97; rw [hL.out, show decide (3 ≤ s.size) = false by simp; omega]; rfl)
    go_enter Tryd.func13, Tryd.ntmps13
    go_wp2
    go_ret
    exact ⟨by rw [hfin.out]; rfl, rfl⟩

set_option maxRecDepth 100000 in
set_option maxHeartbeats 1000000 in
theorem refmod97_any (s : ByteArray) (w : World) (hs : s.size ≤ 100000) : Calls Tryd.prog 14 #[.string s] w fun e w' => e = .returned (.bool (mod97 (nums s))) ∧ w = w' := by
  have hL := Lib.hid (nums_length s)
  by_cases h3 : 3 ≤ s.size
  · have hd : decide ((3 : Int) ≤ (s.size : Int)) = true := by simp; omega
    have hdd : decide (3 ≤ s.size) = true := by simp; omega
    by_cases ha : (nums s).all isDC = true
    · have HA := Lib.hid ha
      have hq := nums_drop s (s.size - 2)
      by_cases hb : (nums (s.extract (s.size - 2) s.size)).all isD = true
      · have hfin := Lib.hid (show mod97 (nums s) = decide (remTo (nums s) s.size = 1) by unfold mod97; rw [hL.out, hdd, HA.out, ← hq, hb]; rfl)
        have hv : (((remTo (nums s) s.size : Nat) : Int) == 1) = decide (remTo (nums s) s.size = 1) := by rw [Bool.eq_iff_iff]; simp; omega
        have HV := Lib.hid hv
        clear hq hv hdd
        go_enter Tryd.func14, Tryd.ntmps14
        go_wp2_with (go_at_call 27; refine (caps_any _ _ hs).mono ?_; rintro e w1 ⟨rfl, rfl⟩)
        go_wp2_with (go_at_call 26; refine (digits_any _ _ (Nat.le_trans (size_extract_le _ _ _) hs)).mono ?_; rintro e w1 ⟨rfl, rfl⟩)
        go_wp2_with (go_at_call 28; refine (rest_any _ _ hs HA.out).mono ?_; rintro e w1 ⟨rfl, rfl⟩)
        go_ret
        exact ⟨by rw [hfin.out, ← HV.out]; rfl, rfl⟩
      · rw [Bool.not_eq_true] at hb
        have hfin := Lib.hid (show mod97 (nums s) = false by unfold mod97; rw [hL.out, hdd, HA.out, ← hq, hb]; rfl)
        clear hq hdd
        go_enter Tryd.func14, Tryd.ntmps14
        go_wp2_with (go_at_call 27; refine (caps_any _ _ hs).mono ?_; rintro e w1 ⟨rfl, rfl⟩)
        go_wp2_with (go_at_call 26; refine (digits_any _ _ (Nat.le_trans (size_extract_le _ _ _) hs)).mono ?_; rintro e w1 ⟨rfl, rfl⟩)
        go_ret
        exact ⟨by rw [hfin.out]; rfl, rfl⟩
    · rw [Bool.not_eq_true] at ha
      have hfin := Lib.hid (show mod97 (nums s) = false by unfold mod97; rw [hL.out, hdd, ha]; rfl)
      clear hdd
      go_enter Tryd.func14, Tryd.ntmps14
      go_wp2_with (go_at_call 27; refine (caps_any _ _ hs).mono ?_; rintro e w1 ⟨rfl, rfl⟩)
      go_ret
      exact ⟨by rw [hfin.out]; rfl, rfl⟩
  · have hd : decide ((3 : Int) ≤ (s.size : Int)) = false := by simp; omega
    have hfin := Lib.hid (show mod97 (nums s) = false by unfold mod97; rw [hL.out, show decide (3 ≤ s.size) = false by simp; omega]; rfl)
    go_enter Tryd.func14, Tryd.ntmps14
    go_wp2
    go_ret
    exact ⟨by rw [hfin.out]; rfl, rfl⟩


def hexC (d : Nat) : Nat := if d < 10 then 48 + d else 87 + d

theorem hexC_le {d : Nat} (h : d < 16) : hexC d ≤ 255 := by
  unfold hexC
  split <;> omega

theorem hex_at (d : Nat) (h : d < 16) : ∀ w, (Instr.index 9 (.string { data := #[48, 49, 50, 51, 52, 53, 54, 55, 56, 57, 97, 98, 99, 100, 101, 102] }) (.int .u32 (d : Int))).run Tryd.prog w = .ok (.int .u8 (hexC d : Nat)) w := by
  rcases (by omega : d = 0 ∨ d = 1 ∨ d = 2 ∨ d = 3 ∨ d = 4 ∨ d = 5 ∨ d = 6 ∨ d = 7 ∨ d = 8 ∨ d = 9 ∨ d = 10 ∨ d = 11 ∨ d = 12 ∨ d = 13 ∨ d = 14 ∨ d = 15) with rfl | rfl | rfl | rfl | rfl | rfl | rfl | rfl | rfl | rfl | rfl | rfl | rfl | rfl | rfl | rfl
  all_goals exact fun w => by kernel_rfl

theorem and15 (a : Nat) (ha : a < 2 ^ 32) : bits .and .u32 (a : Int) 15 = ((a % 16 : Nat) : Int) := by
  rw [show (15 : Int) = ((15 : Nat) : Int) from rfl, and32 a 15 ha (by decide)]
  have := Nat.and_two_pow_sub_one_eq_mod a 4
  rw [show a &&& 15 = a % 16 from by simpa using this]

/-- The k-th hex digit from the left. -/
def hexK (x k : Nat) : Nat := hexC (x / 2 ^ (28 - 4 * k) % 16)
def hexL (x k : Nat) : List Nat := (List.range k).map (hexK x)

theorem hexL_le (x k : Nat) : ∀ b ∈ hexL x k, b ≤ 255 := by
  intro b hb
  simp only [hexL, List.mem_map] at hb
  obtain ⟨j, _, rfl⟩ := hb
  exact hexC_le (Nat.mod_lt _ (by decide))

set_option maxRecDepth 100000 in
set_option maxHeartbeats 1000000 in
theorem hex_any (x : Nat) (w : World) (hx : x < 2 ^ 32) : Calls Tryd.prog 29 #[.int .u32 (x : Int)] w fun e w' => e = .returned (.string (strB (hexL x 8))) ∧ Below w.heap.size w w' := by
  obtain ⟨i0, hi, hz0, hz1, hz2⟩ := info_parts info5
  have HI := Lib.hid hi
  have HI0 := Lib.hid hz0
  have HI1 := Lib.hid hz1
  have HI2 := Lib.hid hz2
  clear hi hz0 hz1 hz2
  go_enter Tryd.func29, Tryd.ntmps29
  go_wp2
  go_loopw [3, 4] (fun v i wr => ∃ k : Nat, k ≤ 8 ∧ i = .int .i64 (28 - 4 * (k : Int)) ∧ wr.ownsRow w.heap.size 5 1 v k (u8s (hexL x k)) ∧ Below w.heap.size w wr) (fun _ i _ => ((intOf i) + 4).toNat)
  case atStart => exact ⟨0, by omega, rfl, World.ownsRow_nil _ _ _ _, Below.refl _ _⟩
  case round =>
    obtain ⟨k, hk, rfl, hrow, hb⟩ := hrel
    have HROW := Lib.hid hrow
    have HB := Lib.hid hb
    clear hrow hb
    by_cases hlt : k < 8
    · have hd : x / 2 ^ (28 - 4 * k) % 16 < 16 := Nat.mod_lt _ (by decide)
      have hcast : (x : Int) / 2 ^ (28 - 4 * k) = ((x / 2 ^ (28 - 4 * k) : Nat) : Int) := by simp
      have hand : bits .and .u32 ((x : Int) / 2 ^ (28 - 4 * k)) 15 = ((x / 2 ^ (28 - 4 * k) % 16 : Nat) : Int) := by
        rw [hcast]
        exact and15 _ (Nat.lt_of_le_of_lt (Nat.div_le_self _ _) hx)
      clear hcast
      have hix := hex_at _ hd
      have hk1 : hexL x (k + 1) = hexL x k ++ [hexC (x / 2 ^ (28 - 4 * k) % 16)] := by
        unfold hexL
        rw [List.range_succ, List.map_append]
        rfl
      have HK := Lib.hid hk1
      clear hk1
      have hle := hexC_le hd
      generalize x / 2 ^ (28 - 4 * k) % 16 = d at *
      generalize hexC d = b at *
      have hsz := HB.out.size
      go_wp2_with (at_builtin; refine wpList_append_own _ rfl (.tmp 9) (.tmp 16) 32 rfl w.heap.size 5 i0 (.int .u8 0) 1 1 Tryd.underlying32 HI.out HI0.out HI1.out HI2.out rfl (by decide) _ k (u8s (hexL x k)) rfl (HROW.out.alloc _) ⟨wr.heap.size, 0, none⟩ 1 1 [.int .u8 (b : Int)] rfl rfl (cell_one_new _ _ _) (by simp [Value.oneCell']) (by unfold maxLen; omega) (by omega) (by simp; omega) ?_; intro v' w3 hown hgr _; have HOWN := Lib.hid hown; have HGR := Lib.hid hgr; clear hown hgr)
      refine ⟨⟨k + 1, by omega, by go_num, ?_, ?_⟩, by simp [intOf]; omega⟩
      · rw [HK.out, ← u8s_snoc]
        exact HOWN.out
      · exact (HB.out.alloc (by omega) _).grown HGR.out (by simp; omega) (fun g e => by have := (HROW.out.lt g e).1; omega)
    · obtain rfl : k = 8 := by omega
      have hconv := conv_by (by_own HROW.out (by simp [hexL]) (hexL_le x 8)).1
      go_wp2
      go_ret
      exact ⟨rfl, HB.out⟩

end Go.Proofs.YthofhljbipkiaaaDoor.Ck
