import Derived.Test.YthofhljbipkiaaaDoorCkJ
namespace Go.Proofs.YthofhljbipkiaaaDoor.Ck
open Go.RowKit
open Go.Proofs.YthofhljbipkiaaaDoor.Tp
set_option linter.unusedVariables false

/-- What the maker of digits has made. -/
def Dig (lt : Bool) (bs : List Nat) : Prop := bs.all isDC = true ∧ (lt = false → bs.all isD = true)

theorem isDC_lt {b : Nat} (h : isDC b = true) : b ≤ 255 := by
  rcases isDC_cases h with ⟨_, h1, h2⟩ | ⟨_, h1, h2⟩ <;> omega

theorem Dig.le {lt : Bool} {bs : List Nat} (h : Dig lt bs) : ∀ b ∈ bs, b ≤ 255 := fun b hb => isDC_lt (List.all_eq_true.1 h.1 b hb)

theorem Dig.nil (lt : Bool) : Dig lt [] := ⟨rfl, fun _ => rfl⟩

theorem Dig.digit {lt : Bool} {bs : List Nat} (h : Dig lt bs) {b : Nat} (hb : isD b = true) : Dig lt (bs ++ [b]) := by
  refine ⟨?_, fun e => ?_⟩
  · rw [List.all_append, h.1]
    simp [isDC, hb]
  · rw [List.all_append, h.2 e]
    simp [hb]

theorem Dig.letter {bs : List Nat} (h : Dig true bs) {b : Nat} (hb : isC b = true) : Dig true (bs ++ [b]) := by
  refine ⟨?_, fun e => by cases e⟩
  rw [List.all_append, h.1]
  simp [isDC, hb]

/-- Between two rounds. -/
def DRel (lt : Bool) (T : Nat) (w : World) (k : Nat) (v : Value) (wr : World) : Prop :=
  ∃ bs : List Nat, bs.length = k ∧ Dig lt bs ∧ wr.ownsRow w.heap.size 5 1 v k (u8s bs) ∧ w.grownBy wr (some T) ∧ TapeOk wr T

theorem DRel.more {lt : Bool} {T : Nat} {w : World} {k : Nat} {v v' : Value} {wr w2 w3 : World} {b : Nat} {o : Obj} {bs : List Nat} (hT : T < w.heap.size) (hl : bs.length = k) (hb : Dig lt (bs ++ [b]))
    (h1 : w.grownBy wr (some T)) (h2 : wr.grownBy w2 (some T)) (ht : TapeOk w2 T) (hrow : wr.ownsRow w.heap.size 5 1 v k (u8s bs))
    (hown : w3.ownsRow w.heap.size 5 1 v' (k + 1) (u8s bs ++ [.int .u8 (b : Int)])) (hg : (w2.alloc o).grownBy w3 v.ownBlock) : DRel lt T w (k + 1) v' w3 := by
  have hg2 := gb_trans h1 h2
  have hob : ∀ g, v.ownBlock = some g → w.heap.size ≤ g := fun g e => (hrow.lt g e).1
  have hg3 : w.grownBy w3 (some T) := by
    have a1 : w.grownBy (w2.alloc o) (some T) := gb_trans hg2 (World.grownBy_alloc _ _ _)
    exact ⟨hg.os.trans a1.os, hg.tape.trans a1.tape, hg.output.trans a1.output, Nat.le_trans a1.size hg.size, fun i hi hne =>
      (hg.block i (Nat.lt_of_lt_of_le hi a1.size) (fun e => by have := hob i e.symm; omega)).trans (a1.block i hi hne)⟩
  exact ⟨bs ++ [b], by simp [hl], hb, by rw [← u8s_snoc]; exact hown, hg3, (ht.kept (World.grownBy_alloc w2 o none) (by simp)).kept hg (fun g e => by have := hob g e; omega)⟩

def DigPost (lt : Bool) (T : Nat) (N : Nat) (w : World) (e : Ending) (w' : World) : Prop :=
  ∃ bs : List Nat, bs.length = N ∧ Dig lt bs ∧ e = .returned (.string (strB bs)) ∧ w.grownBy w' (some T) ∧ TapeOk w' T

set_option maxRecDepth 100000 in
set_option maxHeartbeats 1000000 in
theorem dig_false (T N : Nat) (w : World) (h : TapeOk w T) (hTw : T < w.heap.size) (hN : N ≤ 1000) :
    Calls Tryd.prog 8 #[.pointer (some ⟨T, 0, none⟩), .int .i64 (N : Int), .bool false] w (DigPost false T N w) := by
  obtain ⟨i0, hi, hz0, hz1, hz2⟩ := info_parts info5
  have HTK := Lib.hid h
  have HI := Lib.hid hi
  have HI0 := Lib.hid hz0
  have HI1 := Lib.hid hz1
  have HI2 := Lib.hid hz2
  clear h hi hz0 hz1 hz2
  go_enter Tryd.func8, Tryd.ntmps8
  go_wp2
  go_loopw [7, 8] (fun v i wr => ∃ k : Nat, k ≤ N ∧ i = .int .i64 k ∧ DRel false T w k v wr) (fun _ i _ => N - (intOf i).toNat)
  case atStart => exact ⟨0, by omega, rfl, [], rfl, Dig.nil _, World.ownsRow_nil _ _ _ _, World.grownBy.refl _ _, HTK.out⟩
  case round =>
    obtain ⟨k, hk, rfl, bs, hl, hb, hrow, hg, ht⟩ := hrel
    have hsz := hg.size
    have HL := Lib.hid hl
    have HB := Lib.hid hb
    have HROW := Lib.hid hrow
    have HG := Lib.hid hg
    have HT := Lib.hid ht
    clear hl hb hrow hg ht
    by_cases hlt : k < N
    · go_wp2_with fail
      refine (next_any T 10 _ HT.out (by omega) (by omega)).mono ?_
      rintro e w1 ⟨r, hr0, hr1, rfl, hg1, ht1⟩
      have hsz1 := hg1.size
      have HG1 := Lib.hid hg1
      have HT1 := Lib.hid ht1
      clear hg1 ht1
      obtain ⟨b, hqb⟩ : ∃ b : Nat, 48 + r = b := ⟨(48 + r).toNat, by omega⟩
      have hb2 : b ≤ 255 := by omega
      have HD := Lib.hid (show isD b = true by simp [isD]; omega)
      obtain rfl : r = (b : Int) - 48 := by omega
      have hconv : (48 + ((b : Int) - 48)) = (b : Int) := by omega
      clear hqb
      go_wp2_with (at_builtin; refine wpList_append_own _ rfl (.tmp 29) (.tmp 31) 32 rfl w.heap.size 5 i0 (.int .u8 0) 1 1 Tryd.underlying32 HI.out HI0.out HI1.out HI2.out rfl (by decide) _ k (u8s bs) rfl ((row_next hTw HROW.out HG1.out).alloc _) ⟨w1.heap.size, 0, none⟩ 1 1 [.int .u8 (b : Int)] rfl rfl (cell_one_new _ _ _) (by simp [Value.oneCell']) (by unfold maxLen; omega) (by omega) (by simp; omega) ?_; intro v' w3 hown hgr _; have HOWN := Lib.hid hown; have HGR := Lib.hid hgr; clear hown hgr)
      exact ⟨⟨k + 1, by omega, by go_num, DRel.more hTw HL.out (HB.out.digit HD.out) HG.out HG1.out HT1.out HROW.out HOWN.out HGR.out⟩, by simp [intOf]; omega⟩
    · obtain rfl : k = N := by omega
      have hconv := conv_by (by_own HROW.out HL.out HB.out.le).1
      go_wp2
      go_ret
      exact ⟨bs, HL.out, HB.out, rfl, HG.out, HT.out⟩

set_option maxRecDepth 100000 in
set_option maxHeartbeats 1000000 in
theorem dig_true (T N : Nat) (w : World) (h : TapeOk w T) (hTw : T < w.heap.size) (hN : N ≤ 1000) :
    Calls Tryd.prog 8 #[.pointer (some ⟨T, 0, none⟩), .int .i64 (N : Int), .bool true] w (DigPost true T N w) := by
  obtain ⟨i0, hi, hz0, hz1, hz2⟩ := info_parts info5
  have HTK := Lib.hid h
  have HI := Lib.hid hi
  have HI0 := Lib.hid hz0
  have HI1 := Lib.hid hz1
  have HI2 := Lib.hid hz2
  clear h hi hz0 hz1 hz2
  go_enter Tryd.func8, Tryd.ntmps8
  go_wp2
  go_loopw [7, 8] (fun v i wr => ∃ k : Nat, k ≤ N ∧ i = .int .i64 k ∧ DRel true T w k v wr) (fun _ i _ => N - (intOf i).toNat)
  case atStart => exact ⟨0, by omega, rfl, [], rfl, Dig.nil _, World.ownsRow_nil _ _ _ _, World.grownBy.refl _ _, HTK.out⟩
  case round =>
    obtain ⟨k, hk, rfl, bs, hl, hb, hrow, hg, ht⟩ := hrel
    have hsz := hg.size
    have HL := Lib.hid hl
    have HB := Lib.hid hb
    have HROW := Lib.hid hrow
    have HG := Lib.hid hg
    have HT := Lib.hid ht
    clear hl hb hrow hg ht
    by_cases hlt : k < N
    · go_wp2_with fail
      refine (next_any T 10 _ HT.out (by omega) (by omega)).mono ?_
      rintro e w1 ⟨r, hr0, hr1, rfl, hg1, ht1⟩
      have hsz1 := hg1.size
      have HG1 := Lib.hid hg1
      have HT1 := Lib.hid ht1
      clear hg1 ht1
      obtain ⟨b, hqb⟩ : ∃ b : Nat, 48 + r = b := ⟨(48 + r).toNat, by omega⟩
      have hb2 : b ≤ 255 := by omega
      have HD := Lib.hid (show isD b = true by simp [isD]; omega)
      obtain rfl : r = (b : Int) - 48 := by omega
      have hconv : (48 + ((b : Int) - 48)) = (b : Int) := by omega
      clear hqb
      go_wp2_with fail
      refine (next_any T 2 _ HT1.out (by omega) (by omega)).mono ?_
      rintro e w2 ⟨q, hq0, hq1, rfl, hg2, ht2⟩
      have hsz2 := hg2.size
      have HG2 := Lib.hid hg2
      have HT2 := Lib.hid ht2
      clear hg2 ht2
      by_cases hz : q = 0
      · subst hz
        go_wp2_with fail
        refine (next_any T 26 _ HT2.out (by omega) (by omega)).mono ?_
        rintro e w4 ⟨p, hp0, hp1, rfl, hg4, ht4⟩
        have hsz4 := hg4.size
        have HG4 := Lib.hid hg4
        have HT4 := Lib.hid ht4
        clear hg4 ht4
        obtain ⟨c, hqc⟩ : ∃ c : Nat, 65 + p = c := ⟨(65 + p).toNat, by omega⟩
        have hc2 : c ≤ 255 := by omega
        have HC := Lib.hid (show isC c = true by simp [isC]; omega)
        obtain rfl : p = (c : Int) - 65 := by omega
        have hconv2 : (65 + ((c : Int) - 65)) = (c : Int) := by omega
        clear hqc
        go_wp2_with (at_builtin; refine wpList_append_own _ rfl (.tmp 29) (.tmp 31) 32 rfl w.heap.size 5 i0 (.int .u8 0) 1 1 Tryd.underlying32 HI.out HI0.out HI1.out HI2.out rfl (by decide) _ k (u8s bs) rfl ((row_next hTw (row_next hTw (row_next hTw HROW.out HG1.out) HG2.out) HG4.out).alloc _) ⟨w4.heap.size, 0, none⟩ 1 1 [.int .u8 (c : Int)] rfl rfl (cell_one_new _ _ _) (by simp [Value.oneCell']) (by unfold maxLen; omega) (by omega) (by simp; omega) ?_; intro v' w3 hown hgr _; have HOWN := Lib.hid hown; have HGR := Lib.hid hgr; clear hown hgr)
        exact ⟨⟨k + 1, by omega, by go_num, DRel.more hTw HL.out (HB.out.letter HC.out) HG.out (gb_trans HG1.out (gb_trans HG2.out HG4.out)) HT4.out HROW.out HOWN.out HGR.out⟩, by simp [intOf]; omega⟩
      · have hzz : (q == 0) = false := by simpa using hz
        go_wp2_with (at_builtin; refine wpList_append_own _ rfl (.tmp 29) (.tmp 31) 32 rfl w.heap.size 5 i0 (.int .u8 0) 1 1 Tryd.underlying32 HI.out HI0.out HI1.out HI2.out rfl (by decide) _ k (u8s bs) rfl ((row_next hTw (row_next hTw HROW.out HG1.out) HG2.out).alloc _) ⟨w2.heap.size, 0, none⟩ 1 1 [.int .u8 (b : Int)] rfl rfl (cell_one_new _ _ _) (by simp [Value.oneCell']) (by unfold maxLen; omega) (by omega) (by simp; omega) ?_; intro v' w3 hown hgr _; have HOWN := Lib.hid hown; have HGR := Lib.hid hgr; clear hown hgr)
        exact ⟨⟨k + 1, by omega, by go_num, DRel.more hTw HL.out (HB.out.digit HD.out) HG.out (gb_trans HG1.out HG2.out) HT2.out HROW.out HOWN.out HGR.out⟩, by simp [intOf]; omega⟩
    · obtain rfl : k = N := by omega
      have hconv := conv_by (by_own HROW.out HL.out HB.out.le).1
      go_wp2
      go_ret
      exact ⟨bs, HL.out, HB.out, rfl, HG.out, HT.out⟩

theorem dig_any (lt : Bool) (T N : Nat) (w : World) (h : TapeOk w T) (hTw : T < w.heap.size) (hN : N ≤ 1000) :
    Calls Tryd.prog 8 #[.pointer (some ⟨T, 0, none⟩), .int .i64 (N : Int), .bool lt] w (DigPost lt T N w) := by
  cases lt
  · exact dig_false T N w h hTw hN
  · exact dig_true T N w h hTw hN

theorem awake_compl : compl 1 (nums { data := #[55, 57, 57, 50, 55, 51, 57, 56, 55, 49] }) = true := by decide
theorem awake_val : cplV 1 { data := #[55, 57, 57, 50, 55, 51, 57, 56, 55, 49] } = .tuple #[.string { data := #[55, 57, 57, 50, 55, 51, 57, 56, 55, 49, 51] }, .int .i64 0] := by kernel_rfl
theorem awake_luhn : luhn (nums { data := #[55, 57, 57, 50, 55, 51, 57, 56, 55, 49, 51] }) = true := by kernel_rfl

set_option maxRecDepth 100000 in
set_option maxHeartbeats 1000000 in
theorem awake_any (w : World) : Calls Tryd.prog 23 #[] w fun e w' => e = .returned (.bool true) ∧ Below w.heap.size w w' := by
  have HV := Lib.hid awake_val
  have HLU := Lib.hid awake_luhn
  go_enter Tryd.func23, Tryd.ntmps23
  go_wp2_with (first
    | (go_at_call 25; refine (complete_any _ _ _ (by decide)).mono ?_; rintro e w1 ⟨rfl, hb⟩; rw [HV.out])
    | (go_at_call 11; refine (luhn_any _ _ (by decide)).mono ?_; rintro e w1 ⟨rfl, rfl⟩; rw [HLU.out]))
  go_ret
  exact ⟨rfl, hb⟩

end Go.Proofs.YthofhljbipkiaaaDoor.Ck
