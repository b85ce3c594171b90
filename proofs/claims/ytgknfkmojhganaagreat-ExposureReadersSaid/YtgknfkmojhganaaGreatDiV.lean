import Derived.Test.YtgknfkmojhganaaGreatDiU
namespace Go.Proofs.YtgknfkmojhganaaGreat.Di
open Go.RowKit
open Go.Proofs.YtgknfkmojhganaaGreat.Tp
set_option linter.unusedVariables false

theorem idx_congr {p q : Nat → Bool} : ∀ n, (∀ j, j < n → p j = q j) → idx p n = idx q n
  | 0, _ => rfl
  | n + 1, h => by rw [idx, idx, idx_congr n (fun j hj => h j (by omega)), h n (by omega)]
theorem SmPost.congr {p q : Nat → Bool} {n : Nat} {w w' : World} {e : Ending} (h : ∀ j, j < n → p j = q j) (hs : SmPost p n w e w') : SmPost q n w e w' := by
  unfold SmPost at hs ⊢
  rw [cnt_congr n h, idx_congr n h] at hs
  exact hs

/-- Is p q, or in it? Nobody is in anything that does not exist. -/
noncomputable def upB (d : Dy) (t p q : Nat) : Bool := @decide (p < d.k.length ∧ Rc d t p q) (Classical.propDecidable _)
theorem upB_iff (d : Dy) (t p q : Nat) : upB d t p q = true ↔ p < d.k.length ∧ Rc d t p q := by unfold upB; exact @decide_eq_true_iff _ (Classical.propDecidable _)
theorem up_done {d : Dy} {t p : Nat} {th L : List Nat} (h : Bfs (dm d t) d.k.length p th L) (hs : Shut (dm d t) d.k.length L L.length) (hp : p < d.k.length) {q : Nat} (hq : q < d.k.length) : decide (0 < th.getD q 0) = upB d t p q := by
  rw [Bool.eq_iff_iff, upB_iff, decide_eq_true_iff, h.done hs hq]
  exact ⟨fun hr => ⟨hp, hr⟩, fun hr => hr.2⟩

set_option maxRecDepth 100000 in
set_option maxHeartbeats 1000000 in
theorem upw_any (B : Nat) (d : Dy) (v : Vd) (p t : Nat) (w : World) (h : DL w B d v) (hok : Ok d) :
    Calls Tryz.prog 91 #[.agg (gd d v), .int .i64 (p : Int), .int .i64 (t : Int)] w (SmPost (upB d t p) d.k.length w) := by
  have HB := Lib.hid (box_below w (.cells (gd d v) 25))
  have A1 := Lib.hid (heap_alloc_new w (.cells (gd d v) 25))
  have hn := hok.n
  have HOK := Lib.hid hok
  have HD := Lib.hid h
  have hck := fun w' (hw : Below w.heap.size w w') => check_any B d v w' (h.below hw) hok
  have hex := fun w' => exists_any d v p w'
  have hma := fun w' (hw : Below w.heap.size w w') => members_any B d v t w' (h.below hw) hok
  simp only [gd] at hck hex hma
  have HCK := Lib.hid hck
  have HEX := Lib.hid hex
  have HMA := Lib.hid hma
  obtain ⟨g0, g1⟩ := gdCells A1.out
  clear h hok hck hex hma
  by_cases hp : p < d.k.length
  · rw [decide_eq_true hp] at HEX
    go_enter Tryz.func91, Tryz.ntmps91
    go_wp2_with (first
      | (go_at_call 44; (with_reducible refine (HCK.out _ HB.out).mono ?_); rintro e w1 ⟨rfl, hb1⟩; have B1 := Lib.hid (HB.out.trans (hb1.mono HB.out.size)); have C1 := Lib.hid ((hb1.block _ (row_lt A1.out)).trans A1.out); obtain ⟨c0, c1⟩ := gdCells C1.out; clear hb1)
      | (go_at_call 83; (with_reducible refine (HEX.out _).mono ?_); rintro e w2 ⟨rfl, hb2⟩; have B2 := Lib.hid (B1.out.trans (hb2.mono B1.out.size)); have D1 := Lib.hid ((hb2.block _ (row_lt C1.out)).trans C1.out); obtain ⟨d0, d1⟩ := gdCells D1.out; clear hb2 g0 g1 c0 c1)
      | (go_at_call 95; (with_reducible refine (HMA.out _ B2.out).mono ?_); rintro e w3 ⟨G, g, rfl, hmo, hb3⟩; have B3 := Lib.hid (B2.out.trans (hb3.mono B2.out.size)); have E1 := Lib.hid ((hb3.block _ (row_lt D1.out)).trans D1.out); obtain ⟨e0, e1⟩ := gdCells E1.out; have HUQ := Lib.hid (upward_any d.k.length p d.k.length (some ⟨G, 0, none⟩) (dm d t) w3 (hmo.mm.base (Nat.zero_le _)) hp hn); clear hb3 hmo d0 d1)
      | (go_at_call 96; (with_reducible refine HUQ.out.mono ?_); rintro e w4 ⟨H, th, L, rfl, hbf, hsh, hrow, hb4⟩; have B4 := Lib.hid (B3.out.trans (hb4.mono B3.out.size)); have F1 := Lib.hid ((hb4.block _ (row_lt E1.out)).trans E1.out); have hbx := box_below w4 (.cells #[.slice (some ⟨H, 0, none⟩) d.k.length d.k.length] 22); have X1 := Lib.hid ((hbx.block _ (row_lt F1.out)).trans F1.out); have X3 := Lib.hid (heap_alloc_new w4 (.cells #[.slice (some ⟨H, 0, none⟩) d.k.length d.k.length] 22)); have B5 := Lib.hid (B4.out.trans (hbx.mono B4.out.size)); have HR5 := Lib.hid ((hrow.below hbx).base (Nat.zero_le _)); obtain ⟨f0, f1⟩ := gdCells X1.out;
         have HDN := Lib.hid (fun q (hq : q < d.k.length) => up_done hbf hsh hp hq);
         have hso := some54_any B d v (fun q => decide (0 < th.getD q 0)) #[.pointer (some ⟨w4.heap.size, 0, none⟩)] (w4.alloc (.cells #[.slice (some ⟨H, 0, none⟩) d.k.length d.k.length] 22)) (HD.out.below B5.out) (by omega) (fun i hi w' hw => (upq_call i w4.heap.size d.k.length d.k.length (some ⟨H, 0, none⟩) th w' (by rw [cell_of_row _ _ _ _ _ _ ((hw.block _ (row_lt X3.out)).trans X3.out)]; rfl) (HR5.out.below hw) hi).mono (fun e w'' he => by obtain ⟨h1, h2⟩ := he; exact ⟨h1, h2 ▸ Below.refl _ _⟩));
         simp only [gd] at hso; have HSO := Lib.hid hso; clear hb4 hbf hsh hrow hbx hso e0 e1)
      | (go_at_call 106; (with_reducible refine HSO.out.mono ?_); rintro e w5 hsm; have HSM := Lib.hid (SmPost.congr HDN.out hsm); obtain ⟨A, cc, rfl, hrow, hb5⟩ := HSM.out; have HR6 := Lib.hid (own_base hrow B5.out.size); have B6 := Lib.hid (B5.out.trans (hb5.mono B5.out.size)); clear hrow hb5 hsm))
    go_ret
    exact ⟨A, cc, by first | rfl | simp, HR6.out, B6.out⟩
  · rw [decide_eq_false hp] at HEX
    have hz := cnt_none (p := upB d t p) (n := d.k.length) (fun j hj => by
      cases hd : upB d t p j with
      | false => rfl
      | true => exact absurd ((upB_iff d t p j).1 hd).1 hp)
    have HZ := Lib.hid hz
    clear hz
    go_enter Tryz.func91, Tryz.ntmps91
    go_wp2_with (first
      | (go_at_call 44; (with_reducible refine (HCK.out _ HB.out).mono ?_); rintro e w1 ⟨rfl, hb1⟩; have B1 := Lib.hid (HB.out.trans (hb1.mono HB.out.size)); have C1 := Lib.hid ((hb1.block _ (row_lt A1.out)).trans A1.out); obtain ⟨c0, c1⟩ := gdCells C1.out; clear hb1)
      | (go_at_call 83; (with_reducible refine (HEX.out _).mono ?_); rintro e w2 ⟨rfl, hb2⟩; have B2 := Lib.hid (B1.out.trans (hb2.mono B1.out.size)); clear hb2))
    go_ret
    refine ⟨none, 0, by rw [HZ.out.1]; first | rfl | simp, ?_, B2.out⟩
    rw [HZ.out.1, HZ.out.2]
    exact own_nil _ _ _ _

end Go.Proofs.YtgknfkmojhganaaGreat.Di
