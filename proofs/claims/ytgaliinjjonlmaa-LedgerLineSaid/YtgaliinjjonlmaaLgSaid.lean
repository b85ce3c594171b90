import Derived.Test.YtgaliinjjonlmaaLgFns
import Derived.Laws.CopyOwn
import Derived.Laws.Tables
namespace Go.Proofs.Ytgaliinjjonlmaa.Lg
open Go.RowKit
set_option linter.unusedVariables false

theorem info57 (r : R) : (Try.prog.info? 57).map (·.size) = some (recC r).size := by
  have e : (Try.prog.info? 57).map (·.size) = some 4 := by kernel_rfl
  rw [e]
  rfl

theorem rec_one (r : R) : (recC r).all (·.oneCell') = true := by simp [recC, Value.oneCell']

theorem after_store (w : World) (r : R) : ∃ w3, w3 = (w.alloc (.cells (recC r0) 57)).setRow w.heap.size (recC r) ∧ Below w.heap.size w w3 ∧ w3.heap[w.heap.size]? = some (.cells (recC r) 57 (0, 0)) :=
  ⟨_, rfl, below_setRow (box_below w _) (Nat.le_refl _) _, setRow_heap _ _ _ _ _ _ (heap_alloc_new w _)⟩

theorem below_drewN {B : Nat} {a w : World} (h : Below B a w) (n : Nat) : Below B a (w.drewN n) := h.trans ⟨rfl, rfl, rfl, Nat.le_refl _, fun _ _ => rfl⟩

def Cells4 (w : World) (b o : Nat) (r : R) : Prop := w.cell? ⟨b, o, none⟩ = some (.int .i64 (r.k : Int)) ∧ w.cell? ⟨b, o + 1, none⟩ = some (.int .i64 (r.s : Int)) ∧ w.cell? ⟨b, o + 2, none⟩ = some (.int .i64 (r.u : Int)) ∧ w.cell? ⟨b, o + 3, none⟩ = some (.int .i64 r.v)

theorem Lies.at4 {w : World} {A : Option Addr} {n : Nat} {l : List R} (h : Lies w A n l) (h0 : 0 < n) : ∃ b off, A = some ⟨b, off, none⟩ ∧ b < w.heap.size ∧ ∀ j, j < n → Cells4 w b (off + j * 4) (l.getD j r0) := h.mem h0

theorem Cells4.below {w w' : World} {b o : Nat} {r : R} (h : Cells4 w b o r) (hlt : b < w.heap.size) (hb : Below w.heap.size w w') : Cells4 w' b o r :=
  ⟨(hb.cell (p := ⟨b, _, none⟩) hlt).trans h.1, (hb.cell (p := ⟨b, _, none⟩) hlt).trans h.2.1, (hb.cell (p := ⟨b, _, none⟩) hlt).trans h.2.2.1, (hb.cell (p := ⟨b, _, none⟩) hlt).trans h.2.2.2⟩

set_option maxRecDepth 100000 in
set_option maxHeartbeats 1000000 in
theorem said_any (A : Option Addr) (n c : Nat) (l : List R) (K U T : Nat) (w : World) (h : Lies w A n l) (hn : n ≤ 100) (hK : K ≤ 1000000) (hT : T ≤ 1000000) :
    Calls Try.prog 71 #[.slice A n c, .int .i64 (K : Int), .int .i64 (U : Int), .int .i64 (T : Int)] w fun e w' => e = .returned (.int .i64 (sd l K U T n)) ∧ Below w.heap.size w w' := by
  have H := Lib.hid h
  clear h
  go_enter Try.func71, Try.ntmps71
  go_wp2
  go_loopw [9, 14] (fun z i wr => ∃ k : Nat, k ≤ n ∧ i = .int .i64 k ∧ z = .int .i64 (sd l K U T k) ∧ Below w.heap.size w wr) (fun _ i _ => n - (intOf i).toNat)
  case atStart => exact ⟨0, by omega, rfl, rfl, Below.refl _ _⟩
  case round =>
    obtain ⟨k, hk, rfl, rfl, hbl⟩ := hrel
    have HBL := Lib.hid hbl
    by_cases hlt : k < n
    · obtain ⟨b, off, rfl, hbk, hc⟩ := (H.out.below hbl).at4 (by omega)
      obtain ⟨c0, c1, c2, c3⟩ := hc k hlt
      have HC := Lib.hid hc
      clear hbl hc
      have hbd := sd_bd l K U T k
      have hsd : sd l K U T (k + 1) = if (l.getD k r0).k ≤ K ∧ (l.getD k r0).u = U ∧ (l.getD k r0).s ≤ T ∧ (sd l K U T k = -1 ∨ (l.getD (sd l K U T k).toNat r0).s ≤ (l.getD k r0).s) then (k : Int) else sd l K U T k := rfl
      have HSD := Lib.hid hsd
      clear hsd
      generalize sd l K U T k = z at *
      obtain ⟨r, hr⟩ : ∃ r, l.getD k r0 = r := ⟨_, rfl⟩
      rw [hr] at c0 c1 c2 c3 HSD
      clear hr
      have HB3 := Lib.hid (fun o => HBL.out.trans ((box_below wr o).mono HBL.out.size))
      by_cases h1 : K < r.k
      · have HS : Hid (sd l K U T (k + 1) = z) := Lib.hid (HSD.out.trans (if_neg (by omega)))
        clear HSD
        go_wp2
        exact ⟨⟨k + 1, by omega, by go_num, by rw [HS.out], HB3.out _⟩, by simp [intOf]; omega⟩
      · by_cases h2 : r.u = U
        · by_cases h3 : T < r.s
          · have HS : Hid (sd l K U T (k + 1) = z) := Lib.hid (HSD.out.trans (if_neg (by omega)))
            clear HSD
            go_wp2
            exact ⟨⟨k + 1, by omega, by go_num, by rw [HS.out], HB3.out _⟩, by simp [intOf]; omega⟩
          · by_cases h4 : z = -1
            · have HS : Hid (sd l K U T (k + 1) = k) := Lib.hid (HSD.out.trans (if_pos ⟨by omega, h2, by omega, .inl h4⟩))
              clear HSD
              subst h4
              go_wp2
              go_quiet (fail)
              go_wp2
              exact ⟨⟨k + 1, by omega, by go_num, by rw [HS.out], below_drewN (HB3.out _) _⟩, by simp [intOf]; omega⟩
            · obtain ⟨q, rfl⟩ : ∃ q : Nat, z = q := ⟨z.toNat, by omega⟩
              have hq : (q : Int) < (n : Int) := by omega
              have hq0 : (0 : Int) ≤ (q : Int) := by omega
              have hqe : ((q : Int) == -1) = false := beq_eq_false_iff_ne.2 h4
              have e1 : ∀ o, (wr.alloc o).cell? ⟨b, off + q * 4 + 1, none⟩ = some (.int .i64 ((l.getD q r0).s : Int)) := fun o => (World.cell?_alloc_lt _ _ _ hbk).trans (HC.out q (by omega)).2.1
              have hq2 : ((q : Int)).toNat = q := by omega
              rw [hq2] at HSD
              generalize l.getD q r0 = p at *
              clear hq2 hbd HC
              by_cases h5 : p.s ≤ r.s
              · have HS : Hid (sd l K U T (k + 1) = k) := Lib.hid (HSD.out.trans (if_pos ⟨by omega, h2, by omega, .inr h5⟩))
                clear HSD
                go_wp2
                go_quiet (fail)
                go_wp2
                exact ⟨⟨k + 1, by omega, by go_num, by rw [HS.out], below_drewN (HB3.out _) _⟩, by simp [intOf]; omega⟩
              · have HS : Hid (sd l K U T (k + 1) = q) := Lib.hid (HSD.out.trans (if_neg (by omega)))
                clear HSD
                go_wp2
                go_quiet (fail)
                go_wp2
                exact ⟨⟨k + 1, by omega, by go_num, by rw [HS.out], below_drewN (HB3.out _) _⟩, by simp [intOf]; omega⟩
        · have HS : Hid (sd l K U T (k + 1) = z) := Lib.hid (HSD.out.trans (if_neg (fun hh => h2 hh.2.1)))
          clear HSD
          have h2' : ((r.u : Int) == (U : Int)) = false := beq_eq_false_iff_ne.2 (by omega)
          go_wp2
          exact ⟨⟨k + 1, by omega, by go_num, by rw [HS.out], HB3.out _⟩, by simp [intOf]; omega⟩
    · obtain rfl : k = n := by omega
      go_wp2
      go_ret
      exact ⟨rfl, HBL.out⟩

end Go.Proofs.Ytgaliinjjonlmaa.Lg
