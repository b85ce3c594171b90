import Derived.Test.YtidpkkekoldkgaaEntAwake
import Derived.Deep.QuietTactic
import Derived.BigQuiet
namespace Go.Proofs.Ytidpkkekoldkgaa.Ent
open Go.RowKit

set_option maxRecDepth 100000 in
set_option maxHeartbeats 400000 in
theorem refcounts_some (A : Option Addr) (n c : Nat) (bs : List Nat) (w : World) (h : Bytes w A n bs) (hn : n ≤ 65536) :
    Calls Try.prog 19 #[.slice A n c] w fun e w' => e = .returned (.agg (tab bs)) ∧ Below w.heap.size w w' := by
  have hz := zero33
  obtain ⟨hlen, hbyte, hmax, hmem⟩ := h
  have HLEN := Lib.hid hlen
  have HB := Lib.hid hbyte
  have HM := Lib.hid hmem
  clear hlen hbyte hmem
  go_enter Try.func19, Try.ntmps19
  go_wp2
  go_loopw [4] (fun i wr => ∃ k : Nat, k ≤ n ∧ i = .int .i64 k ∧ CRel w bs k wr) (fun i _ => n - (intOf i).toNat)
  case atStart => exact ⟨0, by omega, rfl, heap_alloc2_new _ _ _, heap_alloc2_old _ _ _, ((Below.refl _ _).alloc (Nat.le_refl _) _).alloc (by simp) _⟩
  case round =>
    obtain ⟨k, hk, rfl, hrl⟩ := hrel
    have HR := Lib.hid hrl
    clear hrl
    by_cases hlt : k < n
    · obtain ⟨b, off, rfl, hb, hcell⟩ := HM.out (by omega)
      have hst := HR.out.step (by rw [HLEN.out]; exact hlt)
      have hcn := cnt_le (bs.take k) (bs.getD k 0)
      have htk := List.length_take_le k bs
      have hby : bs.getD k 0 ≤ 255 := by
        have hk2 : k < bs.length := by rw [HLEN.out]; exact hlt
        rw [List.getD_eq_getElem?_getD, List.getElem?_eq_getElem hk2]
        exact HB.out _ (List.getElem_mem hk2)
      have hc1 : wr.cell? ⟨b, off + k, none⟩ = some (.int .u8 (bs.getD k 0 : Nat)) := (HR.out.2.2.cell (p := ⟨b, off + k, none⟩) hb).trans (hcell k hlt)
      have hc2 : wr.cell? ⟨w.heap.size + 1, bs.getD k 0, none⟩ = some (.int .i64 (cnt (bs.take k) (bs.getD k 0) : Nat)) := by
        rw [cell_of_row wr _ _ _ _ _ HR.out.1]
        exact tab_at _ _ (by omega)
      have hfz : wr.frozen? ⟨w.heap.size + 1, bs.getD k 0, none⟩ = false := frozen_of_row wr _ _ _ _ HR.out.1
      have HST := Lib.hid hst
      clear hst hcell
      generalize bs.getD k 0 = z at *
      generalize hC : cnt (bs.take k) z = C at *
      clear hC
      go_wp2
      exact ⟨⟨k + 1, by omega, by go_num, HST.out⟩, by simp [intOf]; omega⟩
    · obtain rfl : k = n := by omega
      have e : bs.take k = bs := List.take_of_length_le (by rw [HLEN.out]; exact Nat.le_refl _)
      have h1 := HR.out.1
      rw [e] at h1
      have h2 := HR.out.2.1
      have h3 := HR.out.2.2
      have hge : k ≤ k := Nat.le_refl _
      clear e HR hlt hk
      have H1 := Lib.hid h1
      have H2 := Lib.hid h2
      clear h1 h2
      go_wp2_with (first
        | (with_reducible refine wpList_load_row rfl 33 _ rfl (w.heap.size + 1) rfl 33 (tab bs) (0, 0) _ H1.out Try.underlying33 rfl (info33 _) ?_)
        | (with_reducible refine wpList_store_row rfl 33 _ _ rfl w.heap.size (tab bs) rfl rfl 33 (tab []) H2.out (info33 _) (by rw [tab_size, tab_size]) (tab_one _) ?_))
      exact bodyPost_ret (v := .agg (tab bs)) (results_cell_row rfl _ _ w.heap.size 33 (tab bs) (0, 0) _ rfl (setRow_heap _ _ _ _ _ _ H2.out) Try.underlying33 rfl (info33 _)) rfl
        ⟨rfl, below_setRow h3 (Nat.le_refl _) _⟩


theorem few_id {bs : List Nat} (h : bs.length ≤ 65536) : few bs = bs := if_pos h

/-- How many of the first k bytes occur. -/
def ds (bs : List Nat) : Nat → Nat
  | 0 => 0
  | k + 1 => ds bs k + if 0 < cnt bs k then 1 else 0
theorem ds_le (bs : List Nat) : ∀ k, ds bs k ≤ k
  | 0 => by simp [ds]
  | k + 1 => by
    have := ds_le bs k
    simp only [ds]
    split <;> omega

set_option maxRecDepth 100000 in
set_option maxHeartbeats 400000 in
theorem distinct_any (A : Option Addr) (n c : Nat) (bs : List Nat) (w : World) (h : Bytes w A n bs) :
    Calls Try.prog 22 #[.slice A n c] w fun e w' => e = .returned (.int .i64 (ds (few bs) 256 : Nat)) ∧ Below w.heap.size w w' := by
  have hcounts := counts_any A n c bs w h
  have HC := Lib.hid hcounts
  clear h hcounts
  generalize few bs = cs at *
  go_enter Try.func22, Try.ntmps22
  go_wp2_with (go_at_call 18; refine HC.out.mono ?_; rintro e w' ⟨rfl, hb⟩)
  have HB := Lib.hid hb
  clear hb
  go_loop [3, 5, 8] (fun s _ i => ∃ k : Nat, k ≤ 256 ∧ i = .int .i64 k ∧ s = .int .i64 (ds cs k : Nat)) (fun _ _ i => 256 - (intOf i).toNat)
  case atStart => exact ⟨0, by omega, rfl, rfl⟩
  case round =>
    obtain ⟨k, hk, rfl, rfl⟩ := hrel
    by_cases hlt : k < 256
    · have hidx := index_tab cs k hlt
      have hd := ds_le cs k
      by_cases hpos : 0 < cnt cs k
      · have ht : ds cs (k + 1) = ds cs k + 1 := by simp only [ds]; rw [if_pos hpos]
        have HMS := Lib.hid ht
        clear ht
        generalize ds cs k = S at *
        generalize hC : cnt cs k = C at *
        clear hC
        go_wp2
        go_round
        case rel => exact ⟨k + 1, by omega, by go_num, by rw [HMS.out]; go_num⟩
        case measure => simp [intOf]; omega
      · have ht : ds cs (k + 1) = ds cs k := by simp only [ds]; rw [if_neg hpos]; omega
        have HMS := Lib.hid ht
        have hz : cnt cs k = 0 := by omega
        rw [hz] at hidx
        clear ht hz hpos
        generalize ds cs k = S at *
        go_wp2
        go_round
        case rel => exact ⟨k + 1, by omega, by go_num, by rw [HMS.out]⟩
        case measure => simp [intOf]; omega
    · obtain rfl : k = 256 := by omega
      go_wp2
      go_ret
      exact ⟨rfl, HB.out⟩

theorem cell_tab {w : World} {g : Nat} {bs : List Nat} (h : w.heap[g]? = some (.cells (tab bs) 33 (0, 0))) (k : Nat) (hk : k < 256) : w.cell? ⟨g, k, none⟩ = some (.int .i64 (cnt bs k : Nat)) := by
  rw [cell_of_row _ _ _ _ _ _ h]
  exact tab_at bs k hk

theorem heap_set_new (w : World) (bs cs : Array Value) : ((w.alloc (.cells bs 33)).setRow w.heap.size cs).heap[w.heap.size]? = some (.cells cs 33 (0, 0)) := setRow_heap _ _ _ _ _ _ (heap_alloc_new _ _)

set_option maxRecDepth 100000 in
set_option maxHeartbeats 400000 in
theorem refdistinct_any (A : Option Addr) (n c : Nat) (bs : List Nat) (w : World) (h : Bytes w A n bs) (hn : n ≤ 65536) :
    Calls Try.prog 23 #[.slice A n c] w fun e w' => e = .returned (.int .i64 (ds bs 256 : Nat)) ∧ Below w.heap.size w w' := by
  have hcounts := refcounts_some A n c bs w h hn
  have hz := zero33
  have HC := Lib.hid hcounts
  clear h hcounts
  go_enter Try.func23, Try.ntmps23
  go_wp2_with (first
    | (go_at_call 19; refine HC.out.mono ?_; rintro e w1 ⟨rfl, hb⟩; have HB := Lib.hid hb; clear hb)
    | (with_reducible refine wpList_store_row rfl 33 _ _ rfl w1.heap.size (tab bs) rfl rfl 33 (tab []) (heap_alloc_new _ _) (info33 _) (by rw [tab_size, tab_size]) (tab_one _) ?_))
  have hrow := heap_set_new w1 (tab []) (tab bs)
  have hbl : Below w.heap.size w ((w1.alloc (.cells (tab []) 33)).setRow w1.heap.size (tab bs)) := below_setRow (HB.out.alloc HB.out.size _) HB.out.size _
  generalize (w1.alloc (.cells (tab []) 33)).setRow w1.heap.size (tab bs) = w2 at *
  have HROW := Lib.hid hrow
  have HBL := Lib.hid hbl
  clear hrow hbl
  go_loop [4, 5] (fun s i => ∃ k : Nat, k ≤ 256 ∧ i = .int .i64 k ∧ s = .int .i64 (ds bs k : Nat)) (fun _ i => 256 - (intOf i).toNat)
  case atStart => exact ⟨0, by omega, rfl, rfl⟩
  case round =>
    obtain ⟨k, hk, rfl, rfl⟩ := hrel
    by_cases hlt : k < 256
    · have hcell := cell_tab HROW.out k hlt
      have hd := ds_le bs k
      by_cases hpos : 0 < cnt bs k
      · have ht : ds bs (k + 1) = ds bs k + 1 := by simp only [ds]; rw [if_pos hpos]
        have HMS := Lib.hid ht
        clear ht
        generalize ds bs k = S at *
        generalize hC : cnt bs k = C at *
        clear hC
        go_wp2
        go_round
        case rel => exact ⟨k + 1, by omega, by go_num, by rw [HMS.out]; go_num⟩
        case measure => simp [intOf]; omega
      · have ht : ds bs (k + 1) = ds bs k := by simp only [ds]; rw [if_neg hpos]; omega
        have HMS := Lib.hid ht
        have hz : cnt bs k = 0 := by omega
        rw [hz] at hcell
        clear ht hz hpos
        generalize ds bs k = S at *
        go_wp2
        go_round
        case rel => exact ⟨k + 1, by omega, by go_num, by rw [HMS.out]⟩
        case measure => simp [intOf]; omega
    · obtain rfl : k = 256 := by omega
      go_wp2
      go_ret
      exact ⟨rfl, HBL.out⟩

theorem ref_same (x : Int) (w : World) : Calls Try.prog 14 #[.int .i64 x] w fun e w' => e = .returned (.int .i64 (lgI x)) ∧ w' = w :=
  (ref_any x w).mono fun _ _ ⟨he, hw⟩ => ⟨he, hw.symm⟩

set_option maxRecDepth 100000 in
set_option maxHeartbeats 400000 in
theorem refmeasure_any (A : Option Addr) (n c : Nat) (bs : List Nat) (w : World) (h : Bytes w A n bs) (hn : n ≤ 65536) :
    Calls Try.prog 21 #[.slice A n c] w fun e w' => e = .returned (.int .i64 (ms bs (lgI n) 256)) ∧ Below w.heap.size w w' := by
  have hcounts := refcounts_some A n c bs w h hn
  have hW := lgI_bd n
  have hf : bs.length ≤ 65536 := by rw [h.1]; exact hn
  have hlog := fun w => ref_same (n : Int) w
  have hz := zero33
  have HC := Lib.hid hcounts
  have HF := Lib.hid hf
  have HL := Lib.hid hlog
  clear h hcounts hf hlog
  generalize lgI (n : Int) = W at *
  obtain ⟨hW0, hW1⟩ := hW
  go_enter Try.func21, Try.ntmps21
  go_wp2_with (first
    | (go_at_call 19; refine HC.out.mono ?_; rintro e w1 ⟨rfl, hb⟩; have HB := Lib.hid hb; clear hb)
    | (with_reducible refine wpList_store_row rfl 33 _ _ rfl w1.heap.size (tab bs) rfl rfl 33 (tab []) (heap_alloc_new _ _) (info33 _) (by rw [tab_size, tab_size]) (tab_one _) ?_))
  have hrow := heap_set_new w1 (tab []) (tab bs)
  have hbl : Below w.heap.size w ((w1.alloc (.cells (tab []) 33)).setRow w1.heap.size (tab bs)) := below_setRow (HB.out.alloc HB.out.size _) HB.out.size _
  generalize (w1.alloc (.cells (tab []) 33)).setRow w1.heap.size (tab bs) = w2 at *
  have HROW := Lib.hid hrow
  have HBL := Lib.hid hbl
  clear hrow hbl
  go_loopw [4, 5] (fun s i wr => ∃ k : Nat, k ≤ 256 ∧ i = .int .i64 k ∧ s = .int .i64 (ms bs W k) ∧ wr.heap[w1.heap.size]? = some (.cells (tab bs) 33 (0, 0)) ∧ Below w.heap.size w wr) (fun _ i _ => 256 - (intOf i).toNat)
  case atStart => exact ⟨0, by omega, rfl, rfl, HROW.out, HBL.out⟩
  case round =>
    obtain ⟨k, hk, rfl, rfl, hrow, hbl⟩ := hrel
    have HRW := Lib.hid hrow
    have HBW := Lib.hid hbl
    clear hrow hbl
    have hm := ms_bd bs W HF.out hW0 hW1 k
    by_cases hlt : k < 256
    · have hcell := cell_tab HRW.out k hlt
      have hc := cnt_le bs k
      have hl := lgI_bd (cnt bs k)
      have hlog := fun w => ref_same (cnt bs k : Int) w
      have hms : ms bs W (k + 1) = ms bs W k + term bs W k := rfl
      have hff := HF.out
      obtain ⟨hm1, hm2⟩ := hm
      obtain ⟨hl1, hl2⟩ := hl
      by_cases hpos : 0 < cnt bs k
      · have ht : term bs W k = (cnt bs k : Int) * (W - lgI (cnt bs k)) := if_pos hpos
        have hpb := prod_bd (cnt bs k) (W - lgI (cnt bs k)) (by omega) (by omega) (by omega)
        rw [ht] at hms
        have HMS := Lib.hid hms
        have HLOG := Lib.hid hlog
        clear hms hlog ht
        obtain ⟨hp1, hp2⟩ := hpb
        generalize ms bs W k = S at *
        generalize hX : lgI (cnt bs k : Int) = X at *
        clear hX
        generalize hC : cnt bs k = C at *
        clear hC
        have e1 : IntKind.i64.wrap (W - X) = W - X := IntWalk.i64_in _ (by omega)
        have e2 : IntKind.i64.wrap ((C : Int) * (W - X)) = (C : Int) * (W - X) := IntWalk.i64_in _ (by omega)
        have e3 : IntKind.i64.wrap (S + (C : Int) * (W - X)) = S + (C : Int) * (W - X) := IntWalk.i64_in _ (by omega)
        go_wp2
        go_quiet (first
          | (go_at_call 14; with_reducible exact Calls.quiet_of_same (HL.out _))
          | (go_at_call 14; with_reducible exact Calls.quiet_of_same (HLOG.out _)))
        clear e1 e2 e3
        go_wp2
        exact ⟨⟨k + 1, by omega, by go_num, by rw [HMS.out], HRW.out, HBW.out.trans ⟨rfl, rfl, rfl, Nat.le_refl _, fun _ _ => rfl⟩⟩, by simp [intOf]; omega⟩
      · have ht : term bs W k = 0 := if_neg hpos
        rw [ht, Int.add_zero] at hms
        have HMS := Lib.hid hms
        have hz : cnt bs k = 0 := by omega
        rw [hz] at hcell
        clear hms hlog ht hz hpos hc hl1 hl2
        generalize ms bs W k = S at *
        go_wp2
        exact ⟨⟨k + 1, by omega, by go_num, by rw [HMS.out], HRW.out, HBW.out⟩, by simp [intOf]; omega⟩
    · obtain rfl : k = 256 := by omega
      go_wp2
      go_ret
      exact ⟨rfl, HBW.out⟩
end Go.Proofs.Ytidpkkekoldkgaa.Ent
