import Derived.Test.YtgknfkmojhganaaGreatDiS
namespace Go.Proofs.YtgknfkmojhganaaGreat.Di
open Go.RowKit
open Go.Proofs.YtgknfkmojhganaaGreat.Tp
set_option linter.unusedVariables false

theorem rep_at {x v : Value} {k j : Nat} (h : (List.replicate k x)[j]? = some v) : j < k ∧ v = x := by
  rw [List.getElem?_replicate] at h
  by_cases hj : j < k
  · rw [if_pos hj] at h
    exact ⟨hj, (Option.some.inj h).symm⟩
  · rw [if_neg hj] at h; cases h
theorem src_one {w : World} {g : Nat} {x : Value} (h : w.cell? ⟨g, 0, none⟩ = some x) : ∀ j v, (List.replicate 1 x)[j]? = some v → w.cell? ((⟨g, 0, none⟩ : Addr).add j) = some v := fun j v hj => by
  obtain ⟨hj1, rfl⟩ := rep_at hj
  obtain rfl : j = 0 := by omega
  exact h
theorem fil_src {w : World} {H m n k : Nat} {x y : Value} {t : TypeId} {fr : Nat × Nat} (h : w.heap[H]? = some (.cells (fil x y m n).toArray t fr)) (hk : k ≤ m) : ∀ j v, (List.replicate k x)[j]? = some v → w.cell? ((⟨H, 0, none⟩ : Addr).add j) = some v := fun j v hj => by
  obtain ⟨hj1, rfl⟩ := rep_at hj
  have ea : (⟨H, 0, none⟩ : Addr).add j = ⟨H, j, none⟩ := by unfold Addr.add; split <;> simp_all
  rw [ea, cell_of_row _ _ _ _ _ _ h]
  have := fil_at v y (n := n) (show j < m by omega)
  simpa using this
theorem sz3 : (Tryz.prog.info? 3).map (·.size) = some 1 := by kernel_rfl
theorem own_full {w : World} {B e n G : Nat} {xs : List Value} (h : w.ownsRow B e 1 (.slice (some ⟨G, 0, none⟩) n n) n xs) : w.heap[G]? = some (.cells xs.toArray e (0, 0)) ∧ B ≤ G := by
  have hl := h.1
  rcases h.2 with ⟨hv, _⟩ | ⟨g', cap, cur, hv, hB, hh, h1, h2, h3, ht⟩
  · cases hv
  · cases hv
    refine ⟨?_, hB⟩
    have hcl : cur.toList.length = n := by simpa using h3
    rw [List.take_of_length_le (by omega)] at ht
    rw [hh, ← ht]
theorem full_own {w : World} {B e n G : Nat} {xs : List Value} (h : w.heap[G]? = some (.cells xs.toArray e (0, 0))) (hB : B ≤ G) (hl : xs.length = n) (hn : n ≤ 1000) : w.ownsRow B e 1 (.slice (some ⟨G, 0, none⟩) n n) n xs :=
  ⟨by omega, .inr ⟨G, n, xs.toArray, rfl, hB, h, Nat.le_refl _, by unfold maxLen; omega, by simp [hl], by simp [List.take_of_length_le, hl]⟩⟩

set_option maxRecDepth 100000 in
set_option maxHeartbeats 1000000 in
theorem repeat_any (x : Int) (g n : Nat) (w : World) (h0 : w.cell? ⟨g, 0, none⟩ = some (.int .i64 x)) (lg : g < w.heap.size) (n1 : 1 ≤ n) (n24 : n ≤ 24) :
    Calls Tryz.prog 124 #[.slice (some ⟨g, 0, none⟩) 1 1, .int .i64 (n : Int)] w fun e w' => ∃ H, e = .returned (.slice (some ⟨H, 0, none⟩) n n) ∧ w'.ownsRow w.heap.size 3 1 (.slice (some ⟨H, 0, none⟩) n n) n (List.replicate n (.int .i64 x)) ∧ Below w.heap.size w w' := by
  have HM := Lib.hid (fun w => mul_few n n24 w)
  have hc1 : IntKind.u64.wrap (n : Int) = n := by rw [IntKind.wrap_u64]; omega
  have hc2 : IntKind.i64.wrap (n : Int) = n := IntWalk.i64_in _ (by omega)
  obtain ⟨i0, hi1, hz0, hz1, hz2⟩ := info_parts zinfo3
  have HI := Lib.hid hi1
  have HI0 := Lib.hid hz0
  have HI1 := Lib.hid hz1
  have HI2 := Lib.hid hz2
  have K0 := Lib.hid h0
  clear hi1 hz0 hz1 hz2 h0
  have k0 : (0 : Int) ≤ (n : Int) := by omega
  go_enter Tryz.func124, Tryz.ntmps124
  go_wp2_with (first
    | (go_at_call 131; (with_reducible refine (HM.out _).mono ?_); rintro e w' ⟨rfl, rfl⟩)
    | (at_make; refine wpList_make_full _ rfl _ _ 22 rfl w.heap.size 3 i0 (.int .i64 0) 1 Tryz.underlying22 HI.out HI0.out HI1.out .i64 .i64 _ _ n rfl rfl rfl rfl (by rw [HI2.out]; omega) (by unfold maxLen; omega) (Nat.le_refl _) ?_; intro w1 hown hgr; rw [show Value.cells (.int .i64 0) = #[.int .i64 0] from rfl, made_cells, rl_const] at hown; have HF := Lib.hid (own_full hown).1; have HB := Lib.hid ((Below.refl w.heap.size w).grown hgr (Nat.le_refl _) (fun k e => by cases e)); have K1 := Lib.hid (src_one ((World.cell?_of_block (a := ⟨g, 0, none⟩) (hgr.block g lg (by simp))).trans K0.out)); clear hown hgr)
    | (refine wpList_copy_splice (o := ⟨some 33, _, _, _, _, _⟩) rfl (.tmp 31) (.tmp 32) 22 22 rfl 3 Tryz.underlying22 sz3 _ _ _ _ _ _ rfl rfl w.heap.size 0 (fil (.int .i64 x) (.int .i64 0) 0 n) 3 (by rw [show fil (.int .i64 x) (.int .i64 0) 0 n = List.replicate n (.int .i64 0) by simp [fil]]; exact HF.out) (List.replicate 1 (.int .i64 x)) (by rw [List.length_replicate]; exact (Nat.min_eq_left n1).symm) (fun _ => ⟨rfl, _, rfl, K1.out⟩) (by rw [fil_len _ _ (Nat.zero_le _)]; simp; omega) (fun v hv => by rw [List.mem_replicate] at hv; rw [hv.2]; rfl) w.heap.size w HB.out (Nat.le_refl _) ?_; intro w2 hg2 hb2; rw [fil_splice _ _ (by omega)] at hg2; have HB2 := Lib.hid hb2; have HF2 := Lib.hid hg2; clear hb2 hg2))
  go_loopw [8] (fun mm wr => ∃ m : Nat, mm = .int .i64 (m : Int) ∧ 1 ≤ m ∧ m ≤ n ∧ wr.heap[w.heap.size]? = some (.cells (fil (.int .i64 x) (.int .i64 0) m n).toArray 3 (0, 0)) ∧ Below w.heap.size w wr) (fun mm _ => n - (intOf mm).toNat)
  case atStart => exact ⟨1, rfl, by omega, n1, HF2.out, HB2.out⟩
  case round =>
    obtain ⟨m, rfl, m1, mn, hf, hb⟩ := hrel
    have HF3 := Lib.hid hf
    have HB3 := Lib.hid hb
    clear hf hb
    by_cases hlt : m < n
    · have l1 : (m : Int) < (n : Int) := by omega
      have l0 : (0 : Int) ≤ (m : Int) := by omega
      have l2 : (m : Int) ≤ (n : Int) := by omega
      obtain ⟨k, hk⟩ : ∃ k, k = Nat.min m (n - m) := ⟨_, rfl⟩
      have k1 : 1 ≤ k := by have := hk; simp only [Nat.min_def] at this; split at this <;> omega
      have k2 : m + k ≤ n := by have := hk; simp only [Nat.min_def] at this; split at this <;> omega
      have k3 : k ≤ m := by have := hk; simp only [Nat.min_def] at this; split at this <;> omega
      have HK := Lib.hid hk
      have hwr : IntKind.i64.wrap ((m : Int) + (k : Int)) = (m : Int) + (k : Int) := IntWalk.i64_in _ (by omega)
      have hln : (List.replicate k (Value.int .i64 x)).length = Nat.min m (n - m) := by rw [List.length_replicate]; exact hk
      have HLN := Lib.hid hln
      have HSRC := Lib.hid (fil_src HF3.out k3)
      have hne : ¬ n = m := by omega
      clear hk hln
      go_wp2_with fail
      go_region_law (refine step_copy_splice rfl (.tmp 41) (.tmp 44) 22 22 rfl 3 Tryz.underlying22 sz3 (some ⟨w.heap.size, m, none⟩) (some ⟨w.heap.size, 0, none⟩) (n - m) (n - m) m n (by simp [Act.eval, Act.put]) (by simp [Act.eval, Act.put]) w.heap.size m (fil (.int .i64 x) (.int .i64 0) m n) 3 HF3.out (List.replicate k (.int .i64 x)) HLN.out (fun _ => ⟨rfl, _, rfl, HSRC.out⟩) (by rw [fil_len _ _ mn, List.length_replicate]; exact k2) (fun v hv => by rw [List.mem_replicate] at hv; rw [hv.2]; rfl) w.heap.size w HB3.out.drew (Nat.le_refl _) ?_; intro w4 hg4 hb4; rw [fil_splice _ _ k2] at hg4; have HF4 := Lib.hid hg4; have HB4 := Lib.hid hb4; clear hg4 hb4)
      all_goals
        go_simp
        go_wp2_with fail
        exact ⟨⟨m + k, by first | go_num | simp, by omega, k2, HF4.out, HB4.out⟩, by simp [intOf]; omega⟩
    · obtain rfl : m = n := by omega
      go_wp2_with fail
      go_ret
      refine ⟨w.heap.size, rfl, ?_, HB3.out⟩
      have e := HF3.out
      rw [fil_all] at e
      exact full_own e (Nat.le_refl _) (by simp) (by omega)

end Go.Proofs.YtgknfkmojhganaaGreat.Di
