import Derived.Test.YtgknfkmojhganaaGreatDiO
import Derived.OwnWalk
namespace Go.Proofs.YtgknfkmojhganaaGreat.Di
open Go.RowKit
open Go.Proofs.YtgknfkmojhganaaGreat.Tp
set_option linter.unusedVariables false

def MaPost (d : Dy) (t : Nat) (w : World) (e : Ending) (w' : World) : Prop := ∃ G g, e = .returned (.slice (some ⟨G, 0, none⟩) d.k.length d.k.length) ∧ MO w' w.heap.size d.k.length G g (dm d t) ∧ Below w.heap.size w w'

set_option maxRecDepth 100000 in
set_option maxHeartbeats 1000000 in
theorem members_any (B : Nat) (d : Dy) (v : Vd) (t : Nat) (w : World) (h : DL w B d v) (hok : Ok d) :
    Calls Tryz.prog 95 #[.agg (gd d v), .int .i64 (t : Int)] w (MaPost d t w) := by
  have HB0 := Lib.hid (box_below w (.cells (gd d v) 25))
  have R0 := Lib.hid (heap_alloc_new w (.cells (gd d v) 25))
  obtain ⟨g0, g1⟩ := gdCells R0.out
  have hn := hok.n
  have hm := hok.m
  have HOK := Lib.hid hok
  have HD := Lib.hid h
  obtain ⟨i0, hi1, hz0, hz1, hz2⟩ := info_parts zinfo64
  have HI := Lib.hid hi1
  have HI0 := Lib.hid hz0
  have HI1 := Lib.hid hz1
  have HI2 := Lib.hid hz2
  obtain ⟨j0, hj1, hy0, hy1, hy2⟩ := info_parts zinfo4
  have HJ := Lib.hid hj1
  have HJ0 := Lib.hid hy0
  have HJ1 := Lib.hid hy1
  have HJ2 := Lib.hid hy2
  clear hi1 hz0 hz1 hz2 hj1 hy0 hy1 hy2 h hok
  have hz : (w.alloc (.cells (gd d v) 25)).heap.size = w.heap.size + 1 := by simp
  go_enter Tryz.func95, Tryz.ntmps95
  go_wp2_with (at_make; refine wpList_make_full _ rfl _ _ 118 rfl (w.heap.size + 1) 96 i0 (.slice none 0 0) 1 Tryz.underlying118 HI.out HI0.out HI1.out .i64 .i64 _ _ d.k.length rfl rfl rfl rfl (by rw [HI2.out]; omega) (by unfold maxLen; omega) (by rw [hz]; exact Nat.le_refl _) ?_; intro w1 hown hgr; rw [hz] at hown; have HOWN := Lib.hid hown; have HGR := Lib.hid hgr; clear hown hgr)
  have HB1 := Lib.hid (HB0.out.grown HGR.out HB0.out.size (fun k e => by cases e))
  have R1 := Lib.hid ((HGR.out.block _ (row_lt R0.out) (by simp)).trans R0.out)
  have hmp : MP w1 (w.heap.size + 1) d.k.length (w.heap.size + 1) 0 (fun _ => 0) := by
    refine ⟨?_, fun p hp => absurd hp (by omega), fun p q hp => absurd hp (by omega)⟩
    have e := HOWN.out
    rw [show Value.cells (.slice none 0 0) = #[.slice none 0 0] from rfl, made_cells] at e
    have e2 : (fun p => if p < 0 then Value.slice (some ⟨0, 0, none⟩) d.k.length d.k.length else .slice none 0 0) = fun _ => Value.slice none 0 0 := by
      funext p; simp
    rw [e2]
    exact e
  have HMP0 := Lib.hid hmp
  clear hmp HOWN HGR g0 g1 R0
  go_loopw [15] (fun ii wr => ∃ (k : Nat) (g : Nat → Nat), k ≤ d.k.length ∧ ii = .int .i64 k ∧ MP wr (w.heap.size + 1) d.k.length (w.heap.size + 1) k g ∧ wr.heap[w.heap.size]? = some (.cells (gd d v) 25 (0, 0)) ∧ Below w.heap.size w wr) (fun ii _ => d.k.length - (intOf ii).toNat)
  case atStart => exact ⟨0, _, by omega, rfl, HMP0.out, R1.out, HB1.out⟩
  case round =>
    obtain ⟨k, g, hk, rfl, hmp, hbox, hbl⟩ := hrel
    have HMP := Lib.hid hmp
    have HBX := Lib.hid hbox
    have HBL := Lib.hid hbl
    obtain ⟨g0, g1⟩ := gdCells hbox
    have hzr : w.heap.size + 1 ≤ wr.heap.size := row_lt hbox
    clear hmp hbox hbl HMP0 R1 HB1
    by_cases hlt : k < d.k.length
    · have l0 : (0 : Int) ≤ (k : Int) := by omega
      have l1 : (k : Int) < (d.k.length : Int) := by omega
      go_wp2_with (at_make; refine wpList_make_full _ rfl _ _ 96 rfl (w.heap.size + 1) 4 j0 (.bool false) 1 Tryz.underlying96 HJ.out HJ0.out HJ1.out .i64 .i64 _ _ d.k.length rfl rfl rfl rfl (by rw [HJ2.out]; omega) (by unfold maxLen; omega) hzr ?_; intro w2 hown hgr; have HOWN := Lib.hid hown; have HGR := Lib.hid hgr; obtain ⟨pc, pf, -, -⟩ := own_put (u := .bool false) (kept_ne HMP.out.out hgr (fun k e => by cases e)) hlt; rw [rl_at _ _ _ hlt, if_neg (Nat.lt_irrefl k)] at pc; clear hown hgr)
      have hrow : w2.ownsRow (w.heap.size + 1) 4 1 (.slice (some ⟨wr.heap.size, 0, none⟩) d.k.length d.k.length) d.k.length (rl (fun _ => Value.bool false) d.k.length) := by
        have e := HOWN.out
        rw [show Value.cells (.bool false) = #[.bool false] from rfl, made_cells] at e
        exact e
      have hb2 := HBL.out.grown HGR.out HBL.out.size (fun k e => by cases e)
      exact ⟨⟨k + 1, _, by omega, by go_num, MP.next HMP.out hlt HGR.out hrow, ((gb_set w2 (w.heap.size + 1) k _).block w.heap.size (Nat.lt_of_lt_of_le (row_lt HBX.out) HGR.out.size) (by simp)).trans ((HGR.out.block _ (row_lt HBX.out) (by simp)).trans HBX.out), hb2.grown (gb_set w2 (w.heap.size + 1) k _) hb2.size (fun j e => by cases e; omega)⟩, by simp [intOf]; omega⟩
    · obtain rfl : k = d.k.length := by omega
      have HMO := Lib.hid HMP.out.done
      go_wp2_with fail
      clear g0 g1 HMP
      go_loopw [29] (fun ii wr => ∃ k : Nat, k ≤ d.e.length ∧ ii = .int .i64 k ∧ MO wr (w.heap.size + 1) d.k.length (w.heap.size + 1) g (fun p q => dmk d t p q k) ∧ Below w.heap.size w wr) (fun ii _ => d.e.length - (intOf ii).toNat)
      case atStart => exact ⟨0, by omega, rfl, HMO.out, HBL.out⟩
      case round =>
        obtain ⟨k, hk, rfl, hmo, hbl⟩ := hrel
        have HMK := Lib.hid hmo
        have HBK := Lib.hid hbl
        clear hmo hbl HMO HBL
        by_cases hle : k < d.e.length
        · obtain ⟨b, off, hA, -, hbk, y0, y1, y2, y3⟩ := (HD.out.below HBK.out).r2.evt hle
          have hK : d.e.getD k m0 = eg d k := rfl
          rw [hK] at y0 y1 y2 y3
          have hx := HOK.out.e k hle
          have hs : ∀ p q, dmk d t p q (k + 1) = if hitm (eg d k) t p q then (eg d k).k == 1 else dmk d t p q k := fun p q => rfl
          clear hK
          generalize eg d k = x at *
          have HS := Lib.hid hs
          have hxp := hx.p
          have hxg := hx.g
          have hxk : ((x.k : Int) == 1) = (x.k == 1) := by
            rcases hx.k with e | e <;> rw [e] <;> rfl
          clear hs hx
          have j0 : (0 : Int) ≤ (k : Int) := by omega
          have j1 : (k : Int) < (d.e.length : Int) := by omega
          have p0 : (0 : Int) ≤ (x.p : Int) := by omega
          have p1 : (x.p : Int) < (d.k.length : Int) := by omega
          have q0 : (0 : Int) ≤ (x.g : Int) := by omega
          have q1 : (x.g : Int) < (d.k.length : Int) := by omega
          have hbx := box_below wr (.cells (ec x) 79)
          have HM2 := Lib.hid (HMK.out.below hbx)
          have HB2 := Lib.hid (HBK.out.trans (hbx.mono HBK.out.size))
          obtain ⟨x0, x1, x2, x3⟩ := ecCells (heap_alloc_new wr (.cells (ec x) 79))
          obtain ⟨o1, -, -, -⟩ := own_put (u := .bool false) HM2.out.out hxp
          obtain ⟨r1, r2, -, -⟩ := own_put (u := .bool false) (HM2.out.row x.p hxp) hxg
          rw [rl_at _ _ _ hxp] at o1
          rw [rl_at _ _ _ hxg] at r1
          have HPUT := Lib.hid (HM2.out.put hxp hxg (x.k == 1))
          have hrow := HM2.out.row x.p hxp
          have HGX := Lib.hid (show w.heap.size ≤ g x.p from by
            rcases hrow.2 with ⟨hv, _⟩ | ⟨g', cap, cur, hv, hB, _⟩
            · cases hv
            · have e4 : some (g x.p) = some g' := by cases hv; rfl
              rw [Option.some.inj e4]; omega)
          unfold ec at HM2 HB2 x0 x1 x2 x3 o1 r1 r2 HPUT
          generalize hkb : (x.k == 1) = kb at *
          have HKB := Lib.hid hkb
          rw [hA]
          clear hbx hA hkb hrow
          by_cases htt : x.t ≤ t
          · have t1 : (x.t : Int) ≤ (t : Int) := by omega
            go_wp2_with fail
            go_region
            all_goals
              go_wp2_with fail
              refine ⟨⟨k + 1, by omega, by go_num, ?_, ?_⟩, by simp [intOf]; omega⟩
              · have e : (fun p q => dmk d t p q (k + 1)) = fun a c => if a = x.p ∧ c = x.g then kb else dmk d t a c k := by
                  funext a c
                  rw [HS.out]
                  by_cases hh : a = x.p ∧ c = x.g
                  · rw [if_pos hh, if_pos ((hitm_iff _ _ _ _).2 ⟨htt, hh.1.symm, hh.2.symm⟩)]
                  · rw [if_neg hh, if_neg (fun h => hh (by obtain ⟨-, e1, e2⟩ := (hitm_iff _ _ _ _).1 h; exact ⟨e1.symm, e2.symm⟩))]
                rw [e]
                exact HPUT.out.below ((Below.refl _ _).drew)
              · exact (HB2.out.grown (gb_set _ (g x.p) x.g (.bool kb)) HB2.out.size (fun j e => by cases e; exact HGX.out)).drew
          · have t1 : ¬ (x.t : Int) ≤ (t : Int) := by omega
            go_wp2_with fail
            refine ⟨⟨k + 1, by omega, by go_num, ?_, HB2.out⟩, by simp [intOf]; omega⟩
            have e : (fun p q => dmk d t p q (k + 1)) = fun p q => dmk d t p q k := by
              funext p q
              rw [HS.out, if_neg (fun hh => htt ((hitm_iff _ _ _ _).1 hh).1)]
            rw [e]
            exact HM2.out
        · obtain rfl : k = d.e.length := by omega
          go_wp2_with fail
          go_ret
          have hmo := HMK.out
          exact ⟨w.heap.size + 1, g, by first | rfl | simp, ⟨own_base hmo.out (by omega), fun p hp => own_base (hmo.row p hp) (by omega), hmo.inj⟩, HBK.out⟩

end Go.Proofs.YtgknfkmojhganaaGreat.Di
