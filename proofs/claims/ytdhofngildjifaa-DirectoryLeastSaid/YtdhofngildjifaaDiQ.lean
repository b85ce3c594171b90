import Derived.Test.YtdhofngildjifaaDiP
namespace Go.Proofs.Ytdhofngildjifaa.Di
open Go.RowKit
open Go.Proofs.Ytdhofngildjifaa.Tp
set_option linter.unusedVariables false

theorem cnt_none {p : Nat → Bool} {n : Nat} (h : ∀ j, j < n → p j = false) : cnt p n = 0 ∧ idx p n = [] := by
  have hc : cnt p n = 0 := by
    rcases Nat.eq_zero_or_pos (cnt p n) with e | e
    · exact e
    · obtain ⟨j, hj, hp⟩ := cnt_pos n e
      rw [h j hj] at hp; cases hp
  refine ⟨hc, List.length_eq_zero_iff.1 ?_⟩
  rw [idx_len, hc]
theorem gB_iff (d : Dy) (p : Nat) : gB d p = true ↔ p < d.k.length ∧ kd d p = 2 := by unfold gB; simp

set_option maxRecDepth 100000 in
set_option maxHeartbeats 1000000 in
theorem direct_any (B : Nat) (d : Dy) (v : Vd) (u t : Nat) (w : World) (h : DL w B d v) (hok : Ok d) :
    Calls Try.prog 18 #[.agg (gd d v), .int .i64 (u : Int), .int .i64 (t : Int)] w (SmPost (fun q => dm d t q u) d.k.length w) := by
  have hb := (box_below w (.cells (gd d v) 25)).trans ((box_below (w.alloc (.cells (gd d v) 25)) (.cells #[.int .i64 (u : Int)] 3)).mono (by simp))
  have HB := Lib.hid hb
  have a1 := heap_alloc2_old w (.cells (gd d v) 25) (.cells #[.int .i64 (u : Int)] 3)
  have a2 := heap_alloc2_new w (.cells (gd d v) 25) (.cells #[.int .i64 (u : Int)] 3)
  have A1 := Lib.hid a1
  have A2 := Lib.hid a2
  have hn := hok.n
  have HOK := Lib.hid hok
  have HD := Lib.hid h
  have hck := fun w' (hw : Below w.heap.size w w') => check_any B d v w' (h.below hw) hok
  have hgr := fun w' (hw : Below w.heap.size w w') => group_any B d v u w' (h.below hw)
  have hma := fun w' (hw : Below w.heap.size w w') => members_any B d v t w' (h.below hw) hok
  simp only [gd] at hck hgr hma
  have HCK := Lib.hid hck
  have HGR := Lib.hid hgr
  have HMA := Lib.hid hma
  obtain ⟨g0, g1⟩ := gdCells a1
  have g2 : ((w.alloc (.cells (gd d v) 25)).alloc (.cells #[.int .i64 (u : Int)] 3)).cell? ⟨w.heap.size + 1, 0, none⟩ = some (.int .i64 (u : Int)) := by rw [cell_of_row _ _ _ _ _ _ a2]; rfl
  clear hb a1 a2 h hok hck hgr hma
  by_cases hg : gB d u = true
  · rw [hg] at HGR
    obtain ⟨hu, h2⟩ := (gB_iff d u).1 hg
    go_enter Try.func18, Try.ntmps18
    go_wp2_with (first
      | (go_at_call 13; (with_reducible refine (HCK.out _ HB.out).mono ?_); rintro e w1 ⟨rfl, hb1⟩; have B1 := Lib.hid (HB.out.trans (hb1.mono HB.out.size)); have C1 := Lib.hid ((hb1.block _ (row_lt A1.out)).trans A1.out); have C2 := Lib.hid ((hb1.block _ (row_lt A2.out)).trans A2.out); obtain ⟨c0, c1⟩ := gdCells C1.out; have c2 : w1.cell? ⟨w.heap.size + 1, 0, none⟩ = some (.int .i64 (u : Int)) := (by rw [cell_of_row _ _ _ _ _ _ C2.out]; rfl); clear hb1)
      | (go_at_call 44; (with_reducible refine (HGR.out _ B1.out).mono ?_); rintro e w2 ⟨rfl, hb2⟩; have B2 := Lib.hid (B1.out.trans (hb2.mono B1.out.size)); have D1 := Lib.hid ((hb2.block _ (row_lt C1.out)).trans C1.out); have D2 := Lib.hid ((hb2.block _ (row_lt C2.out)).trans C2.out); obtain ⟨d0, d1⟩ := gdCells D1.out; clear hb2 g0 g1 g2 c0 c1 c2)
      | (go_at_call 46; (with_reducible refine (HMA.out _ B2.out).mono ?_); rintro e w3 ⟨G, g, rfl, hmo, hb3⟩; have HMO := Lib.hid hmo; have B3 := Lib.hid (B2.out.trans (hb3.mono B2.out.size)); have E1 := Lib.hid ((hb3.block _ (row_lt D1.out)).trans D1.out); have E2 := Lib.hid ((hb3.block _ (row_lt D2.out)).trans D2.out); have hbx := box_below w3 (.cells #[.slice (some ⟨G, 0, none⟩) d.k.length d.k.length] 61); have F1 := Lib.hid ((hbx.block _ (row_lt E1.out)).trans E1.out); have F2 := Lib.hid ((hbx.block _ (row_lt E2.out)).trans E2.out); have F3 := Lib.hid (heap_alloc_new w3 (.cells #[.slice (some ⟨G, 0, none⟩) d.k.length d.k.length] 61)); have B4 := Lib.hid (B3.out.trans (hbx.mono B3.out.size)); have HM4 := Lib.hid (hmo.below hbx).mm; obtain ⟨f0, f1⟩ := gdCells F1.out;
         have hso := some48_any B d v (fun q => dm d t q u) #[.pointer (some ⟨w3.heap.size, 0, none⟩), .pointer (some ⟨w.heap.size + 1, 0, none⟩)] (w3.alloc (.cells #[.slice (some ⟨G, 0, none⟩) d.k.length d.k.length] 61)) (HD.out.below B4.out) (by omega) (fun i hi w' hw => dq_call i u w3.heap.size (w.heap.size + 1) d.k.length d.k.length (some ⟨G, 0, none⟩) (dm d t) w' (by rw [cell_of_row _ _ _ _ _ _ ((hw.block _ (row_lt F3.out)).trans F3.out)]; rfl) (by rw [cell_of_row _ _ _ _ _ _ ((hw.block _ (row_lt F2.out)).trans F2.out)]; rfl) ((HM4.out.base (Nat.zero_le _)).below hw) hi hu);
         simp only [gd] at hso; have HSO := Lib.hid hso; clear hb3 hmo hbx hso d0 d1)
      | (go_at_call 47; (with_reducible refine HSO.out.mono ?_); rintro e w5 ⟨A, cc, rfl, hrow, hb5⟩; have HR5 := Lib.hid (own_base hrow B4.out.size); have B5 := Lib.hid (B4.out.trans (hb5.mono B4.out.size)); clear hrow hb5))
    go_ret
    exact ⟨A, cc, by first | rfl | simp, HR5.out, B5.out⟩
  · have hg' : gB d u = false := by cases hb : gB d u <;> simp_all
    rw [hg'] at HGR
    have hz := cnt_none (p := fun q => dm d t q u) (n := d.k.length) (fun j hj => by
      cases hd : dm d t j u with
      | false => rfl
      | true => exact absurd ((gB_iff d u).2 ⟨(dm_ok HOK.out hd).2.1, (dm_ok HOK.out hd).2.2.1⟩) hg)
    have HZ := Lib.hid hz
    clear hz
    go_enter Try.func18, Try.ntmps18
    go_wp2_with (first
      | (go_at_call 13; (with_reducible refine (HCK.out _ HB.out).mono ?_); rintro e w1 ⟨rfl, hb1⟩; have B1 := Lib.hid (HB.out.trans (hb1.mono HB.out.size)); have C1 := Lib.hid ((hb1.block _ (row_lt A1.out)).trans A1.out); have C2 := Lib.hid ((hb1.block _ (row_lt A2.out)).trans A2.out); obtain ⟨c0, c1⟩ := gdCells C1.out; have c2 : w1.cell? ⟨w.heap.size + 1, 0, none⟩ = some (.int .i64 (u : Int)) := (by rw [cell_of_row _ _ _ _ _ _ C2.out]; rfl); clear hb1)
      | (go_at_call 44; (with_reducible refine (HGR.out _ B1.out).mono ?_); rintro e w2 ⟨rfl, hb2⟩; have B2 := Lib.hid (B1.out.trans (hb2.mono B1.out.size)); clear hb2))
    go_ret
    refine ⟨none, 0, by rw [HZ.out.1]; first | rfl | simp, ?_, B2.out⟩
    rw [HZ.out.1, HZ.out.2]
    exact own_nil _ _ _ _

end Go.Proofs.Ytdhofngildjifaa.Di
