/- What the maker of bytes hands back: a slice of its own, of bytes. -/
import Derived.Test.YthofhljbipkiaaaBytes
namespace Go.Proofs.Ythofhljbipkiaaa.Tp
open Go.RowKit

set_option maxRecDepth 100000 in
set_option maxHeartbeats 1000000 in
theorem bytes_any (T N : Nat) (w : World) (h : TapeOk w T) (hTw : T < w.heap.size) (hN : N ≤ 70000) :
    Calls Try.prog 8 #[.pointer (some ⟨T, 0, none⟩), .int .i64 (N : Int)] w fun e w' => ∃ v, e = .returned v ∧ BRel T w N v w' := by
  obtain ⟨i0, hi, hz0, hz1, hz2⟩ := info_parts info5
  have HTK := Lib.hid h
  have HI := Lib.hid hi
  have HI0 := Lib.hid hz0
  have HI1 := Lib.hid hz1
  have HI2 := Lib.hid hz2
  clear h hi hz0 hz1 hz2
  go_enter Try.func8, Try.ntmps8
  go_wp2
  go_loopw [5, 6] (fun v i wr => ∃ k : Nat, k ≤ N ∧ i = .int .i64 k ∧ BRel T w k v wr) (fun _ i _ => N - (intOf i).toNat)
  case atStart => exact ⟨0, by omega, rfl, [], rfl, by simp, World.ownsRow_nil _ _ _ _, World.grownBy.refl _ _, HTK.out⟩
  case round =>
    obtain ⟨k, hk, rfl, bs, hl, hb, hrow, hg, ht⟩ := hrel
    have hsz := hg.size
    have HL := Lib.hid hl
    have HB := Lib.hid hb
    have HROW := Lib.hid hrow
    have HG := Lib.hid hg
    have HT := Lib.hid ht
    clear hl hb hrow hg ht
    by_cases hlt : k < N
    · go_wp2_with fail
      refine (next_any T 8 _ HT.out (by omega) (by omega)).mono ?_
      rintro e w1 ⟨r, hr0, hr1, rfl, hg1, ht1⟩
      have hsz1 := hg1.size
      have HG1 := Lib.hid hg1
      have HT1 := Lib.hid ht1
      clear hg1 ht1
      by_cases h0 : r = 0
      · subst h0
        go_wp2_with fail
        refine (next_any T 8 _ HT1.out (by omega) (by omega)).mono ?_
        rintro e w2 ⟨q, hq0, hq1, rfl, hg2, ht2⟩
        have hsz2 := hg2.size
        have HG2 := Lib.hid hg2
        have HT2 := Lib.hid ht2
        clear hg2 ht2
        obtain ⟨b, hb2, hix⟩ := pick1 q hq0 (by omega)
        go_wp2_with (at_builtin; refine wpList_append_own _ rfl (.tmp 22) (.tmp 26) 23 rfl w.heap.size 5 i0 (.int .u8 0) 1 1 Try.underlying23 HI.out HI0.out HI1.out HI2.out rfl (by decide) _ k (u8s bs) rfl ((row_next hTw (row_next hTw HROW.out HG1.out) HG2.out).alloc _) ⟨w2.heap.size, 0, none⟩ 1 1 [.int .u8 (b : Int)] rfl rfl (cell_one_new _ _ _) (by simp [Value.oneCell']) (by unfold maxLen; omega) (by omega) (by simp; omega) ?_; intro v' w3 hown hgr _; have HOWN := Lib.hid hown; have HGR := Lib.hid hgr; clear hown hgr)
        exact ⟨⟨k + 1, by omega, by go_num, BRel.more hTw HL.out HB.out HG.out HG1.out HG2.out HT2.out HROW.out hb2 HOWN.out HGR.out⟩, by simp [intOf]; omega⟩
      · by_cases h1 : r = 1
        · subst h1
          go_wp2_with fail
          refine (next_any T 256 _ HT1.out (by omega) (by omega)).mono ?_
          rintro e w2 ⟨q, hq0, hq1, rfl, hg2, ht2⟩
          have hsz2 := hg2.size
          have HG2 := Lib.hid hg2
          have HT2 := Lib.hid ht2
          clear hg2 ht2
          obtain ⟨b, rfl⟩ : ∃ b : Nat, q = b := ⟨q.toNat, by omega⟩
          have hb2 : b ≤ 255 := by omega
          go_wp2_with (at_builtin; refine wpList_append_own _ rfl (.tmp 30) (.tmp 34) 23 rfl w.heap.size 5 i0 (.int .u8 0) 1 1 Try.underlying23 HI.out HI0.out HI1.out HI2.out rfl (by decide) _ k (u8s bs) rfl ((row_next hTw (row_next hTw HROW.out HG1.out) HG2.out).alloc _) ⟨w2.heap.size, 0, none⟩ 1 1 [.int .u8 (b : Int)] rfl rfl (cell_one_new _ _ _) (by simp [Value.oneCell']) (by unfold maxLen; omega) (by omega) (by simp; omega) ?_; intro v' w3 hown hgr _; have HOWN := Lib.hid hown; have HGR := Lib.hid hgr; clear hown hgr)
          exact ⟨⟨k + 1, by omega, by go_num, BRel.more hTw HL.out HB.out HG.out HG1.out HG2.out HT2.out HROW.out hb2 HOWN.out HGR.out⟩, by simp [intOf]; omega⟩
        · by_cases h2 : r = 2
          · subst h2
            go_wp2_with fail
            refine (next_any T 10 _ HT1.out (by omega) (by omega)).mono ?_
            rintro e w2 ⟨q, hq0, hq1, rfl, hg2, ht2⟩
            have hsz2 := hg2.size
            have HG2 := Lib.hid hg2
            have HT2 := Lib.hid ht2
            clear hg2 ht2
            obtain ⟨b, hqb⟩ : ∃ b : Nat, 48 + q = b := ⟨(48 + q).toNat, by omega⟩
            have hb2 : b ≤ 255 := by omega
            obtain rfl : q = (b : Int) - 48 := by omega
            have hconv : (48 + ((b : Int) - 48)) = (b : Int) := by omega
            have HQ := hconv
            clear hqb
            go_wp2_with (at_builtin; refine wpList_append_own _ rfl (.tmp 39) (.tmp 44) 23 rfl w.heap.size 5 i0 (.int .u8 0) 1 1 Try.underlying23 HI.out HI0.out HI1.out HI2.out rfl (by decide) _ k (u8s bs) rfl ((row_next hTw (row_next hTw HROW.out HG1.out) HG2.out).alloc _) ⟨w2.heap.size, 0, none⟩ 1 1 [.int .u8 (b : Int)] rfl rfl (cell_one_new _ _ _) (by simp [Value.oneCell']) (by unfold maxLen; omega) (by omega) (by simp; omega) ?_; intro v' w3 hown hgr _; have HOWN := Lib.hid hown; have HGR := Lib.hid hgr; clear hown hgr)
            exact ⟨⟨k + 1, by omega, by go_num, BRel.more hTw HL.out HB.out HG.out HG1.out HG2.out HT2.out HROW.out hb2 HOWN.out HGR.out⟩, by simp [intOf]; omega⟩
          · by_cases h3 : r = 3
            · subst h3
              go_wp2_with fail
              refine (next_any T 10 _ HT1.out (by omega) (by omega)).mono ?_
              rintro e w2 ⟨q, hq0, hq1, rfl, hg2, ht2⟩
              have hsz2 := hg2.size
              have HG2 := Lib.hid hg2
              have HT2 := Lib.hid ht2
              clear hg2 ht2
              obtain ⟨b, hqb⟩ : ∃ b : Nat, 48 + q = b := ⟨(48 + q).toNat, by omega⟩
              have hb2 : b ≤ 255 := by omega
              obtain rfl : q = (b : Int) - 48 := by omega
              have hconv : (48 + ((b : Int) - 48)) = (b : Int) := by omega
              have HQ := hconv
              clear hqb
              go_wp2_with (at_builtin; refine wpList_append_own _ rfl (.tmp 39) (.tmp 44) 23 rfl w.heap.size 5 i0 (.int .u8 0) 1 1 Try.underlying23 HI.out HI0.out HI1.out HI2.out rfl (by decide) _ k (u8s bs) rfl ((row_next hTw (row_next hTw HROW.out HG1.out) HG2.out).alloc _) ⟨w2.heap.size, 0, none⟩ 1 1 [.int .u8 (b : Int)] rfl rfl (cell_one_new _ _ _) (by simp [Value.oneCell']) (by unfold maxLen; omega) (by omega) (by simp; omega) ?_; intro v' w3 hown hgr _; have HOWN := Lib.hid hown; have HGR := Lib.hid hgr; clear hown hgr)
              exact ⟨⟨k + 1, by omega, by go_num, BRel.more hTw HL.out HB.out HG.out HG1.out HG2.out HT2.out HROW.out hb2 HOWN.out HGR.out⟩, by simp [intOf]; omega⟩
            · have e0 : (r == 0) = false := by simpa using h0
              have e1 : (r == 1) = false := by simpa using h1
              have e2 : (r == 2) = false := by simpa using h2
              have e3 : (r == 3) = false := by simpa using h3
              clear h0 h1 h2 h3
              go_wp2_with fail
              refine (next_any T 8 _ HT1.out (by omega) (by omega)).mono ?_
              rintro e w2 ⟨q, hq0, hq1, rfl, hg2, ht2⟩
              have hsz2 := hg2.size
              have HG2 := Lib.hid hg2
              have HT2 := Lib.hid ht2
              clear hg2 ht2
              obtain ⟨b, hb2, hix⟩ := pick2 q hq0 (by omega)
              go_wp2_with (at_builtin; refine wpList_append_own _ rfl (.tmp 14) (.tmp 18) 23 rfl w.heap.size 5 i0 (.int .u8 0) 1 1 Try.underlying23 HI.out HI0.out HI1.out HI2.out rfl (by decide) _ k (u8s bs) rfl ((row_next hTw (row_next hTw HROW.out HG1.out) HG2.out).alloc _) ⟨w2.heap.size, 0, none⟩ 1 1 [.int .u8 (b : Int)] rfl rfl (cell_one_new _ _ _) (by simp [Value.oneCell']) (by unfold maxLen; omega) (by omega) (by simp; omega) ?_; intro v' w3 hown hgr _; have HOWN := Lib.hid hown; have HGR := Lib.hid hgr; clear hown hgr)
              exact ⟨⟨k + 1, by omega, by go_num, BRel.more hTw HL.out HB.out HG.out HG1.out HG2.out HT2.out HROW.out hb2 HOWN.out HGR.out⟩, by simp [intOf]; omega⟩
    · obtain rfl : k = N := by omega
      go_wp2
      go_ret
      exact ⟨_, rfl, bs, HL.out, HB.out, HROW.out, HG.out, HT.out⟩
end Go.Proofs.Ythofhljbipkiaaa.Tp
