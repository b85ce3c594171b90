import Derived.Shelf.Sort.Plain
import Derived.Ground.Names2Prog
import Derived.Shelf.Slices.CompactI
import Derived.Shelf.Slices.Cells
import Derived.Shelf.Slices.In.SortNone
import Derived.Test.YtgknfkmojhganaaGreatProg
import Derived.Test.YtgknfkmojhganaaGreatAcF
import Derived.Test.YtgknfkmojhganaaGreatDiC
import Derived.Test.YtgknfkmojhganaaGreatRdAll
import Derived.Test.YtgknfkmojhganaaGreatCoAll
import Derived.Test.YtgknfkmojhganaaGreatAcI
import Derived.Test.YtgknfkmojhganaaGreatAcJ

namespace Go.Proofs
open Go.Shelf
def Tryz.laysNm220_ren : Go.Shelf.Ren := ⟨fun | 20 => 129 | n => n, fun | 22 => 22 | 3 => 3 | 4 => 4 | 0 => 0 | n => n, fun | n => n⟩
theorem Tryz.laysNm220 : Go.Proofs.Lays2.n20 Tryz.prog Tryz.laysNm220_ren := {
  mixed := by kernel_rfl
  f20 := Tryz.func129.trans (congrArg some (by kernel_rfl))
  t0 := Tryz.underlying0
  a0 := Tryz.isAgg0
  z0 := Tryz.sizeOf0
  v0 := Tryz.zeroValue0
  t3 := Tryz.underlying3
  a3 := Tryz.isAgg3
  z3 := Tryz.sizeOf3
  v3 := Tryz.zeroValue3
  t4 := Tryz.underlying4
  a4 := Tryz.isAgg4
  z4 := Tryz.sizeOf4
  v4 := Tryz.zeroValue4
  t22 := Tryz.underlying22
  a22 := Tryz.isAgg22
  z22 := Tryz.sizeOf22
  v22 := Tryz.zeroValue22
  i3 := by kernel_rfl }
open Go.RowKit Go.Lib Go.Sort in
/-- slices.Compact at []int: "Compact replaces consecutive runs of equal elements with a single copy. This is like the uniq command found on Unix. Compact modifies the contents of the slice s and returns the modified slice, which may have a smaller length. Compact zeroes the elements between the new length and the original length. The result preserves the nilness of s.": IT RETURNS THE SLICE CUT TO 'Lib.compact zs'; ITS CELLS HOLD 'Lib.compact zs', THEN ZERO VALUES up to the old length; all else is as it was, but for the count of draws. IN THE WORDS OF slices.Sort's CONTRACT ('Holds', 'putRow'): so the everyday 'slices.Sort(xs); xs = slices.Compact(xs)' goes from the one contract to the other. It asks 'zs.length ≤ cap' (every slice's: the reslicing 's[:k]' looks at it). Length 0, nil: '.._empty'. (LAID: no walk: one application.) -/
theorem Tryz.slices_Compact_int (blk off cap : Nat) (zs : List Int) (w : World) (hH : Holds (Value.int .i64) w blk off zs.toArray) (hsz : zs.length ≤ 9223372036854775807) (hcap : zs.length ≤ cap) :
    Calls Tryz.prog 129 #[.slice (some ⟨blk, off, none⟩) zs.length cap] w fun e w' => e = .returned (.slice (some ⟨blk, off, none⟩) (Lib.compact zs).length cap) ∧ ∃ q, w' = putRow (Value.int .i64) (Sort.ahead w q) blk off (Lib.compact zs ++ List.replicate (zs.length - (Lib.compact zs).length) 0).toArray := Any.slices_Compact_int Tryz.laysNm220 blk off cap zs w hH hsz hcap
open Go.RowKit Go.Lib Go.Sort in
/-- The same at a slice of length 0, a nil one too: it comes back as it is. (LAID: no walk: one application.) -/
theorem Tryz.slices_Compact_int_empty (a : Option Addr) (cap : Nat) (w : World) :
    Calls Tryz.prog 129 #[.slice a 0 cap] w fun e w' => e = .returned (.slice a 0 cap) ∧ w' = w := Any.slices_Compact_int_empty Tryz.laysNm220 a cap w
end Go.Proofs

namespace Go.Proofs.YtgknfkmojhganaaGreat.Di
open Go.RowKit Go.Maps
open Go.Sort (Holds putRow grow putCells)
open Go.Proofs.YtgknfkmojhganaaGreat.Tp
set_option linter.unusedVariables false

theorem compact_own (base n : Nat) (v : Value) (L : List Nat) (w : World) (h : w.ownsRow base 3 1 v n (iv L)) (hn : n ≤ 1000) :
    Calls Tryz.prog 129 #[v] w fun e w' => ∃ A c, e = .returned (.slice A (dk L n).length c) ∧ w'.ownsRow base 3 1 (.slice A (dk L n).length c) (dk L n).length (iv (dk L n)) ∧ w.grownBy w' v.ownBlock := by
  have hl : L.length = n := by have := h.1; rw [iv_len] at this; omega
  by_cases h0 : n = 0
  · subst h0
    obtain ⟨A, c, rfl⟩ := own_form h
    have eL : L = [] := List.eq_nil_of_length_eq_zero hl
    subst eL
    refine (Tryz.slices_Compact_int_empty A c w).mono ?_
    rintro e w' ⟨rfl, rfl⟩
    exact ⟨A, c, rfl, h, World.grownBy.refl _ _⟩
  rcases h.2 with ⟨rfl, e⟩ | ⟨g, cap, cur, rfl, hg, hh, hnc, hcm, hcs, hct⟩
  · exact absurd e h0
  · have hct' : cur.toList.take (zs L).length = (zs L).map (Value.int .i64) := by rw [zs_len, hl, ← iv_zs]; simpa using hct
    have hc := Tryz.slices_Compact_int g 0 cap (zs L) w (holds_zs hh hct') (by rw [zs_len]; omega) (by rw [zs_len]; omega)
    rw [compact_is, zs_len, hl, zs_len] at hc
    refine hc.mono ?_
    rintro e w' ⟨rfl, m, rfl⟩
    have hdk := dk_len L n
    refine ⟨_, _, rfl, ⟨by rw [iv_len], .inr ⟨g, cap, _, rfl, hg, heap_put _ hh, by omega, hcm, by simp [putCells, hcs], ?_⟩⟩, gb_put _⟩
    have := take_put cur (zs (dk L n)) (List.replicate (n - (dk L n).length) 0) (by rw [List.length_append, zs_len, List.length_replicate]; omega)
    rw [zs_len] at this
    rw [Nat.mul_one, this, iv_zs]
set_option maxRecDepth 100000 in
set_option maxHeartbeats 2000000 in
theorem times_any (a : Es) (v : Ve) (w : World) (h : EL w 0 a v) :
    Calls Tryz.prog 128 #[.agg (ge a v)] w (TmPost a w) := by
  obtain ⟨A, vc⟩ := v
  have HB0 := Lib.hid (box_below w (.cells (ge a ⟨A, vc⟩) 28))
  have HR0 := Lib.hid (heap_alloc_new w (.cells (ge a ⟨A, vc⟩) 28))
  obtain ⟨c0, c1⟩ := geCells HR0.out
  have HF := Lib.hid (show (#[.int .i64 a.n, .slice A a.e.length vc] : Array Value) = ge a ⟨A, vc⟩ from rfl)
  have hck := acheck_any a ⟨A, vc⟩ _ (Row.below h HB0.out)
  have HD := Lib.hid h
  by_cases ho : Eok a
  · rw [ck_ok ho] at hck
    have HCK := Lib.hid hck
    have HOK := Lib.hid ho
    have hlen := ho.m
    have HTM := Lib.hid (tms_ok ho)
    obtain ⟨i0, hi1, hz0, hz1, hz2⟩ := info_parts zinfo3
    have HI := Lib.hid hi1
    have HI0 := Lib.hid hz0
    have HI1 := Lib.hid hz1
    have HI2 := Lib.hid hz2
    clear hck h ho hi1 hz0 hz1 hz2
    go_enter Tryz.func128, Tryz.ntmps128
    go_wp2_with (go_at_call 45; rw [HF.out]; refine HCK.out.mono ?_; rintro e w1 ⟨rfl, hb1⟩; have HB1 := Lib.hid (HB0.out.trans (hb1.mono HB0.out.size)); have M1 := Lib.hid ((hb1.block _ (row_lt HR0.out)).trans HR0.out); clear hb1 c0 c1; obtain ⟨c0, c1⟩ := geCells M1.out)
    clear c0 c1
    go_loopw [3, 12] (fun ov ii wr => ∃ k : Nat, k ≤ a.e.length ∧ ii = .int .i64 (k : Int) ∧ wr.ownsRow w.heap.size 3 1 ov k (iv ((tl a.e).take k)) ∧ Below w.heap.size w wr) (fun _ ii _ => a.e.length - (intOf ii).toNat)
    case atStart => exact ⟨0, by omega, rfl, own_nil _ _ _ _, HB1.out⟩
    case round =>
      obtain ⟨k, hk, rfl, hown, hbl⟩ := hrel
      have HOWN := Lib.hid hown
      have HBL := Lib.hid hbl
      clear hown hbl
      by_cases hlt : k < a.e.length
      · obtain ⟨b, off, hA, -, hbk, hac⟩ := (Row.below HD.out HBL.out).ac hlt
        have hA : A = some ⟨b, off, none⟩ := hA
        subst hA
        obtain ⟨y0, y1, y2, y3, y4, y5, y6⟩ := hac
        obtain ⟨e1, -, -, -, -⟩ := HOK.out.e k hlt
        have HTK := Lib.hid (tl_take a.e hlt)
        generalize ag a.e k = x at *
        obtain ⟨xt, xk, xp, xr, xu, xc, xf⟩ := x
        simp only at y0 y1 y2 y3 y4 y5 y6 e1
        obtain ⟨tn, rfl⟩ : ∃ tn : Nat, xt = tn := ⟨xt.toNat, by omega⟩
        have htk := HTK.out
        simp only [Int.toNat_natCast] at htk
        have HTK := Lib.hid htk
        have HIS := Lib.hid (iv_snoc ((tl a.e).take k) tn)
        have hbx := box_below wr (.cells #[.int .i64 (tn : Int), .int .i64 xk, .int .i64 xp, .int .i64 xr, .int .i64 xu, .int .i64 xc, .int .i64 xf] 76)
        have HBX := Lib.hid (HBL.out.trans (hbx.mono HBL.out.size))
        have XN := Lib.hid (heap_alloc_new wr (.cells #[.int .i64 (tn : Int), .int .i64 xk, .int .i64 xp, .int .i64 xr, .int .i64 xu, .int .i64 xc, .int .i64 xf] 76))
        obtain ⟨n0, n1, n2, n3, n4, n5, n6⟩ := accCells (x := ⟨tn, xk, xp, xr, xu, xc, xf⟩) XN.out
        simp only at n0 n1 n2 n3 n4 n5 n6
        have OX := Lib.hid (own_below HOWN.out hbx)
        have j0 : (0 : Int) ≤ (k : Int) := by omega
        have j1 : (k : Int) < (a.e.length : Int) := by omega
        have HNW := Lib.hid (fun o => (by have := heap_alloc_new (wr.alloc (.cells #[.int .i64 (tn : Int), .int .i64 xk, .int .i64 xp, .int .i64 xr, .int .i64 xu, .int .i64 xc, .int .i64 xf] 76)) o; rwa [show (wr.alloc (.cells #[.int .i64 (tn : Int), .int .i64 xk, .int .i64 xp, .int .i64 xr, .int .i64 xu, .int .i64 xc, .int .i64 xf] 76)).heap.size = wr.heap.size + 1 by simp] at this : ((wr.alloc (.cells #[.int .i64 (tn : Int), .int .i64 xk, .int .i64 xp, .int .i64 xr, .int .i64 xu, .int .i64 xc, .int .i64 xf] 76)).alloc o).heap[wr.heap.size + 1]? = some o))
        have hzx : w.heap.size ≤ wr.heap.size := HBL.out.size
        clear hbx htk
        go_wp2_with (at_builtin; refine wpList_append_own _ rfl (.tmp 16) (.tmp 19) 22 rfl w.heap.size 3 i0 (.int .i64 0) 1 8 Tryz.underlying22 HI.out HI0.out HI1.out HI2.out rfl (by decide) _ k (iv ((tl a.e).take k)) rfl (OX.out.alloc _) ⟨wr.heap.size + 1, 0, none⟩ 1 1 [.int .i64 (tn : Int)] rfl rfl (World.news_of_block (HNW.out _)) (by simp [Value.oneCell']) (by unfold maxLen; omega) (by omega) (by simp; omega) ?_; intro v' w6 hown6 hgr _; have O6 := Lib.hid hown6; have B6 := Lib.hid (far_below HBX.out OX.out hgr (Nat.le_refl _)); clear hown6 hgr)
        exact ⟨⟨k + 1, by omega, by go_num, by rw [HTK.out, HIS.out]; exact O6.out, B6.out⟩, by simp [intOf]; omega⟩
      · obtain rfl : k = a.e.length := by omega
        have HTT := Lib.hid (show (tl a.e).take a.e.length = tl a.e from List.take_of_length_le (by rw [tl_len]; omega))
        have hO := HOWN.out
        rename_i u3 _
        rw [HTT.out] at hO
        have HCO := Lib.hid (compact_own w.heap.size a.e.length _ (tl a.e) wr hO (by omega))
        clear hO
        go_wp2_with (go_at_call 129; refine HCO.out.mono ?_; rintro e w7 ⟨A7, c7, rfl, hown7, hg7⟩; have O7 := Lib.hid hown7; have B7 := Lib.hid (HBL.out.grown hg7 HBL.out.size (fun g e => (HOWN.out.lt g e).1)); clear hown7 hg7)
        go_ret
        unfold TmPost
        rw [HTM.out]
        exact ⟨A7, c7, by first | rfl | simp, O7.out, B7.out⟩
  · rw [ck_no ho] at hck
    have HCK := Lib.hid hck
    have HTM := Lib.hid (tms_no ho)
    clear hck h ho
    go_enter Tryz.func128, Tryz.ntmps128
    go_wp2_with (go_at_call 45; rw [HF.out]; refine HCK.out.mono ?_; rintro e w1 ⟨rfl, hb1⟩; have HB1 := Lib.hid (HB0.out.trans (hb1.mono HB0.out.size)); clear hb1 c0 c1)
    go_ret
    unfold TmPost
    rw [HTM.out]
    exact ⟨none, 0, by first | rfl | simp, own_nil _ _ _ _, HB1.out⟩

end Go.Proofs.YtgknfkmojhganaaGreat.Di

namespace Go.Proofs.YtgknfkmojhganaaGreat.Di
open Go.RowKit
open Go.Proofs.YtgknfkmojhganaaGreat.Tp
set_option linter.unusedVariables false
set_option linter.unusedSimpArgs false

theorem dk_asc (l : List Nat) (hs : ∀ i j, i ≤ j → j < l.length → l.getD i 0 ≤ l.getD j 0) : ∀ k, k ≤ l.length → (dk l k).Pairwise (· < ·) ∧ ∀ r ∈ dk l k, r ≤ l.getD (k - 1) 0
  | 0, _ => ⟨List.Pairwise.nil, fun r h => by cases h⟩
  | k + 1, hk => by
    obtain ⟨h1, h2⟩ := dk_asc l hs k (by omega)
    rw [dk]
    split
    · rename_i hc
      refine ⟨?_, fun r hr => ?_⟩
      · rw [List.pairwise_append]
        refine ⟨h1, List.pairwise_singleton _ _, fun a ha b hb => ?_⟩
        rw [List.mem_singleton] at hb
        subst hb
        have h3 := h2 a ha
        by_cases hz : k = 0
        · subst hz; cases ha
        · have h4 := hs (k - 1) k (by omega) (by omega)
          rcases hc with h5 | h5
          · exact absurd h5 hz
          · omega
      · rw [List.mem_append, List.mem_singleton] at hr
        show r ≤ l.getD k 0
        rcases hr with h3 | h3
        · have h4 := h2 r h3
          have h5 := hs (k - 1) k (by omega) (by omega)
          omega
        · omega
    · rename_i hc
      refine ⟨h1, fun r hr => ?_⟩
      have h4 := h2 r hr
      have h5 := hs (k - 1) k (by omega) (by omega)
      show r ≤ l.getD k 0
      omega
theorem has_sorted (L : List Nat) : ∃ S : List Nat, S.Perm L ∧ S.Pairwise (· ≤ ·) :=
  ⟨L.mergeSort (fun a b => decide (a ≤ b)), List.mergeSort_perm L _, (List.pairwise_mergeSort (le := fun a b : Nat => decide (a ≤ b)) (fun a b c h1 h2 => by simp at h1 h2 ⊢; omega) (fun a b => by simp; omega) L).imp (fun h => by simpa using h)⟩
/-- The times at which something can begin. -/
def TiOk (d : Dy) (a : Es) (L : List Nat) : Prop := L.Pairwise (· < ·) ∧ (∀ r, r ∈ L ↔ ((∃ j, j < a.e.length ∧ (ag a.e j).t = (r : Int)) ∨ ∃ j, j < d.e.length ∧ (eg d j).t = r)) ∧ L.length ≤ 300
set_option maxRecDepth 100000 in
set_option maxHeartbeats 4000000 in
/-- The product's times. -/
theorem xtimes_any (d : Dy) (v : Vd) (a : Es) (u : Ve) (w : World) (h : DL w 0 d v) (hok : Ok d) (he : EL w 0 a u) (hea : Eok a) :
    Calls Tryz.prog 113 #[.agg (gd d v), .agg (ge a u)] w fun e w' => ∃ L A c, e = .returned (.slice A L.length c) ∧ TiOk d a L ∧ Row w' w.heap.size 1 A L.length (iv L) ∧ Below w.heap.size w w' := by
  have hn := hok.n
  have hdm := hok.m
  have hbx := (box_below w (.cells (gd d v) 25)).trans ((box_below (w.alloc (.cells (gd d v) 25)) (.cells (ge a u) 28)).mono (by simp))
  have hw1 : ((w.alloc (.cells (gd d v) 25)).alloc (.cells (ge a u) 28)).heap.size = w.heap.size + 1 + 1 := by simp
  have HBX := Lib.hid hbx
  have D1 := Lib.hid (heap_alloc2_old w (.cells (gd d v) 25) (.cells (ge a u) 28))
  have E1 := Lib.hid (heap_alloc2_new w (.cells (gd d v) 25) (.cells (ge a u) 28))
  obtain ⟨g0, g1⟩ := gdCells D1.out
  obtain ⟨c0, c1⟩ := geCells E1.out
  have htm := times_any a u _ (Row.below he hbx)
  unfold TmPost at htm
  have HTM := Lib.hid htm
  have HDD := Lib.hid (h.below hbx)
  have HFE := Lib.hid (show (#[.int .i64 a.n, .slice u.A a.e.length u.c] : Array Value) = ge a u from rfl)
  have hlt := tms_len a
  have HMT := Lib.hid (mem_tms hea)
  have lD := row_lt D1.out
  have lE := row_lt E1.out
  obtain ⟨i0, hi1, hz0, hz1, hz2⟩ := info_parts zinfo3
  have HI := Lib.hid hi1
  have HI0 := Lib.hid hz0
  have HI1 := Lib.hid hz1
  have HI2 := Lib.hid hz2
  generalize tms a = TM at *
  clear hi1 hz0 hz1 hz2 h hok he hea hbx htm hw1
  go_enter Tryz.func113, Tryz.ntmps113
  go_wp2_with (go_at_call 128; rw [HFE.out]; refine HTM.out.mono ?_; rintro e w1 ⟨X, xc, rfl, hown, hb1⟩; have B1 := Lib.hid hb1; have D2 := Lib.hid ((hb1.block _ lD).trans D1.out); have DD := Lib.hid (HDD.out.below hb1); have O1 := Lib.hid hown; clear hb1 hown g0 g1 c0 c1; obtain ⟨g0, g1⟩ := gdCells D2.out)
  obtain ⟨el, hel⟩ : ∃ el : Nat → List Nat, ∀ k, el k = TM ++ (List.range k).map (fun j => (eg d j).t) := ⟨_, fun _ => rfl⟩
  have HEL0 := Lib.hid (show el 0 = TM by rw [hel]; simp)
  have HELS := Lib.hid (show ∀ k, el (k + 1) = el k ++ [(eg d k).t] from fun k => by rw [hel, hel, List.range_succ, List.map_append, List.append_assoc]; rfl)
  have HELL := Lib.hid (show ∀ k, (el k).length = TM.length + k from fun k => by rw [hel]; simp)
  have HELM := Lib.hid (show ∀ k r, r ∈ el k ↔ (r ∈ TM ∨ ∃ j, j < k ∧ (eg d j).t = r) from fun k r => by rw [hel]; simp)
  clear hel
  generalize (w.alloc (.cells (gd d v) 25)).alloc (.cells (ge a u) 28) = W2 at *
  go_loopw [5, 13] (fun ov ii wr => ∃ (k : Nat) (A' : Option Addr) (c' : Nat), k ≤ d.e.length ∧ ov = .slice A' (el k).length c' ∧ ii = .int .i64 (k : Int) ∧ wr.ownsRow W2.heap.size 3 1 (.slice A' (el k).length c') (el k).length (iv (el k)) ∧ Below W2.heap.size W2 wr ∧ w1.heap.size ≤ wr.heap.size) (fun _ ii _ => d.e.length - (intOf ii).toNat)
  case atStart => exact ⟨0, X, xc, by omega, by rw [HEL0.out], rfl, by rw [HEL0.out]; exact O1.out, B1.out, Nat.le_refl _⟩
  case round =>
    obtain ⟨k, A', c', hk, rfl, rfl, hown, hbl, hsz⟩ := hrel
    have HO := Lib.hid hown
    have HBL := Lib.hid hbl
    have hsz2 := hbl.size
    have hln : (el k).length ≤ 240 := by have := HELL.out k; omega
    by_cases hlt : k < d.e.length
    · obtain ⟨b, off, hA, -, hbk, y0, y1, y2, y3⟩ := (HDD.out.below hbl).r2.evt hlt
      obtain ⟨vA1, vc1, vA2, vc2⟩ := v
      have hA : vA2 = some ⟨b, off, none⟩ := hA
      subst hA
      rw [show d.e.getD k m0 = eg d k from rfl] at y0 y1 y2 y3
      have HES := Lib.hid (HELS.out k)
      generalize eg d k = x at *
      obtain ⟨xt, xk, xp, xg⟩ := x
      simp only at y0 y1 y2 y3
      have hes := HES.out
      simp only at hes
      have HESL := Lib.hid (show (el (k + 1)).length = (el k).length + 1 by rw [HELL.out, HELL.out]; rfl)
      have HES := Lib.hid hes
      have HIS := Lib.hid (iv_snoc (el k) xt)
      obtain ⟨nl, hnl⟩ : ∃ nl, (el k).length = nl := ⟨_, rfl⟩
      rw [hnl] at HO HESL hln ⊢
      have HNL := Lib.hid hnl
      have hbx := box_below wr (.cells #[.int .i64 (xt : Int), .int .i64 (xk : Int), .int .i64 (xp : Int), .int .i64 (xg : Int)] 79)
      have BX := Lib.hid (hbl.trans (hbx.mono hbl.size))
      have XN := Lib.hid (heap_alloc_new wr (.cells #[.int .i64 (xt : Int), .int .i64 (xk : Int), .int .i64 (xp : Int), .int .i64 (xg : Int)] 79))
      have OX := Lib.hid (own_below HO.out hbx)
      have n0 : (wr.alloc (.cells #[.int .i64 (xt : Int), .int .i64 (xk : Int), .int .i64 (xp : Int), .int .i64 (xg : Int)] 79)).cell? ⟨wr.heap.size, 0, none⟩ = some (.int .i64 (xt : Int)) := by rw [cell_of_row _ _ _ _ _ _ XN.out]; rfl
      have HNW := Lib.hid (fun o => (by have := heap_alloc_new (wr.alloc (.cells #[.int .i64 (xt : Int), .int .i64 (xk : Int), .int .i64 (xp : Int), .int .i64 (xg : Int)] 79)) o; rwa [show (wr.alloc (.cells #[.int .i64 (xt : Int), .int .i64 (xk : Int), .int .i64 (xp : Int), .int .i64 (xg : Int)] 79)).heap.size = wr.heap.size + 1 by simp] at this : ((wr.alloc (.cells #[.int .i64 (xt : Int), .int .i64 (xk : Int), .int .i64 (xp : Int), .int .i64 (xg : Int)] 79)).alloc o).heap[wr.heap.size + 1]? = some o))
      have k0 : (0 : Int) ≤ (k : Int) := by omega
      have k1 : (k : Int) < (d.e.length : Int) := by omega
      have hszx : W2.heap.size ≤ (wr.alloc (.cells #[.int .i64 (xt : Int), .int .i64 (xk : Int), .int .i64 (xp : Int), .int .i64 (xg : Int)] 79)).heap.size := by simp; omega
      have HSZ := Lib.hid (show w1.heap.size ≤ (wr.alloc (.cells #[.int .i64 (xt : Int), .int .i64 (xk : Int), .int .i64 (xp : Int), .int .i64 (xg : Int)] 79)).heap.size by simp; omega)
      clear hown hbl hbx hnl hes
      go_wp2_with (at_builtin; refine wpList_append_own _ rfl (.tmp 17) (.tmp 20) 22 rfl W2.heap.size 3 i0 (.int .i64 0) 1 8 Tryz.underlying22 HI.out HI0.out HI1.out HI2.out rfl (by decide) _ nl (iv (el k)) rfl (OX.out.alloc _) ⟨wr.heap.size + 1, 0, none⟩ 1 1 [.int .i64 (xt : Int)] rfl rfl (World.news_of_block (HNW.out _)) (by simp [Value.oneCell']) (by unfold maxLen; omega) (by omega) (by simp; omega) ?_; intro v' w6 hown6 hgr _; obtain ⟨A6, c6, rfl⟩ := own_form hown6; have O6 := Lib.hid hown6; have B6 := Lib.hid ((BX.out.trans ((box_below _ _).mono hszx)).grown hgr (by simp; omega) (fun g e => (OX.out.lt g e).1)); have Z6 := Lib.hid (Nat.le_trans HSZ.out (Nat.le_trans (by simp) hgr.size)); clear hown6 hgr)
      exact ⟨⟨k + 1, A6, c6, by omega, by rw [HESL.out], by go_num, by rw [HESL.out, HES.out, HIS.out]; exact O6.out, B6.out, Z6.out⟩, by simp [intOf]; omega⟩
    · obtain rfl : k = d.e.length := by omega
      obtain ⟨S, hp, hs⟩ := has_sorted (el d.e.length)
      obtain ⟨nl, hnl⟩ : ∃ nl, (el d.e.length).length = nl := ⟨_, rfl⟩
      have hSl := hp.length_eq
      rw [hnl] at HO hSl hln ⊢
      have HSO := Lib.hid (sort_own W2.heap.size nl (.slice A' nl c') (el d.e.length) S wr HO.out hp hs (by omega))
      have HCO := Lib.hid (fun w' (h : w'.ownsRow W2.heap.size 3 1 (.slice A' nl c') nl (iv S)) => compact_own W2.heap.size nl (.slice A' nl c') S w' h (by omega))
      have hgetD : ∀ i j, i ≤ j → j < S.length → S.getD i 0 ≤ S.getD j 0 := fun i j h1 h2 => by
        rw [List.getD_eq_getElem?_getD, List.getD_eq_getElem?_getD, List.getElem?_eq_getElem (by omega), List.getElem?_eq_getElem h2]
        by_cases e : i = j
        · subst e; exact Nat.le_refl _
        · exact List.pairwise_iff_getElem.1 hs i j (by omega) h2 (by omega)
      have HTI := Lib.hid (show TiOk d a (dk S nl) from by
        refine ⟨(dk_asc S hgetD nl (by omega)).1, fun r => ?_, by have := dk_len S nl; omega⟩
        have h1 : r ∈ dk S nl ↔ r ∈ S := by
          rw [dk_mem]
          constructor
          · rintro ⟨j, h2, h3⟩
            rw [List.getD_eq_getElem?_getD, List.getElem?_eq_getElem (by omega)] at h3
            rw [← h3]
            exact List.getElem_mem _
          · intro h2
            obtain ⟨j, h3, h4⟩ := List.mem_iff_getElem.1 h2
            exact ⟨j, by omega, by rw [List.getD_eq_getElem?_getD, List.getElem?_eq_getElem h3]; exact h4⟩
        rw [h1, hp.mem_iff, HELM.out, HMT.out])
      clear hown hbl hp hs hgetD hnl
      go_wp2_with (first
        | (go_at_call 109; refine HSO.out.mono ?_; rintro e w6 ⟨rfl, hown6, hgr6⟩; have B6 := Lib.hid (HBL.out.grown hgr6 hsz2 (fun g e => (HO.out.lt g e).1)); have O6 := Lib.hid hown6; clear hown6 hgr6)
        | (go_at_call 129; refine (HCO.out _ O6.out).mono ?_; rintro e w7 ⟨A7, c7, rfl, hown7, hgr7⟩; have B7 := Lib.hid (B6.out.grown hgr7 B6.out.size (fun g e => (O6.out.lt g e).1)); have O7 := Lib.hid hown7; clear hown7 hgr7))
      go_ret
      exact ⟨dk S nl, A7, c7, by first | rfl | simp, HTI.out, (row_of_own O7.out).base HBX.out.size, HBX.out.trans (B7.out.mono HBX.out.size)⟩

end Go.Proofs.YtgknfkmojhganaaGreat.Di

namespace Go.Proofs.YtgknfkmojhganaaGreat.Di
open Go.RowKit
open Go.Proofs.YtgknfkmojhganaaGreat.Tp
set_option linter.unusedVariables false
set_option linter.unusedSimpArgs false

set_option maxRecDepth 100000 in
set_option maxHeartbeats 1000000 in
/-- The product's check, where all is right. -/
theorem xcheck_ok (d : Dy) (v : Vd) (a : Es) (u : Ve) (c : Int) (w : World) (h : DL w 0 d v) (hok : Ok d) (he : EL w 0 a u) (hea : Eok a) (hc : 0 ≤ c ∧ c < 64) :
    Calls Tryz.prog 68 #[.agg (gd d v), .agg (ge a u), .int .i64 c] w fun e w' => e = .returned (.int .i64 0) ∧ Below w.heap.size w w' := by
  have hbx := (box_below w (.cells (gd d v) 25)).trans ((box_below (w.alloc (.cells (gd d v) 25)) (.cells (ge a u) 28)).mono (by simp))
  have HBX := Lib.hid hbx
  have D1 := Lib.hid (heap_alloc2_old w (.cells (gd d v) 25) (.cells (ge a u) 28))
  have E1 := Lib.hid (heap_alloc2_new w (.cells (gd d v) 25) (.cells (ge a u) 28))
  obtain ⟨g0, g1⟩ := gdCells D1.out
  obtain ⟨c0, c1⟩ := geCells E1.out
  have HCK := Lib.hid (check_any 0 d v _ (h.below hbx) hok)
  have hac := fun w' (hb : Below w.heap.size w w') => acheck_any a u w' (Row.below he hb)
  rw [ck_ok hea] at hac
  have HAC := Lib.hid hac
  have HFD := Lib.hid (show (#[.slice v.A1 d.k.length v.c1, .slice v.A2 d.e.length v.c2] : Array Value) = gd d v from rfl)
  have HFE := Lib.hid (show (#[.int .i64 a.n, .slice u.A a.e.length u.c] : Array Value) = ge a u from rfl)
  have lE := row_lt E1.out
  have d1 : decide (c < 0) = false := decide_eq_false (by omega)
  have d2 : decide ((64 : Int) ≤ c) = false := decide_eq_false (by omega)
  clear h hok he hea hc hbx hac
  go_enter Tryz.func68, Tryz.ntmps68
  go_wp2_with (first
    | (go_at_call 44; rw [HFD.out]; refine HCK.out.mono ?_; rintro e w1 ⟨rfl, hb1⟩; have B1 := Lib.hid (HBX.out.trans (hb1.mono HBX.out.size)); have E2 := Lib.hid ((hb1.block _ lE).trans E1.out); clear hb1 g0 g1 c0 c1; obtain ⟨c0, c1⟩ := geCells E2.out)
    | (go_at_call 45; rw [HFE.out]; refine (HAC.out _ B1.out).mono ?_; rintro e w2 ⟨rfl, hb2⟩; have B2 := Lib.hid (B1.out.trans (hb2.mono B1.out.size)); clear hb2 c0 c1))
  go_ret
  exact ⟨by first | rfl | simp, B2.out⟩
/-- May a reader, or everybody, read a place? -/
noncomputable def xB (d : Dy) (a : Es) (p : Int) (P t : Nat) : Bool := if p = -1 then (lkA a.e (P : Int) (t : Int)).isSome else mayB d a p.toNat P t
set_option maxRecDepth 100000 in
set_option maxHeartbeats 1000000 in
/-- The product's may. -/
theorem xmay_any (d : Dy) (v : Vd) (a : Es) (u : Ve) (p : Int) (P t : Nat) (w : World) (h : DL w 0 d v) (hok : Ok d) (he : EL w 0 a u) (hea : Eok a) (hP : (P : Int) < a.n) (hp : -1 ≤ p) :
    Calls Tryz.prog 117 #[.agg (gd d v), .agg (ge a u), .int .i64 p, .int .i64 (P : Int), .int .i64 (t : Int)] w fun e w' => e = .returned (.bool (xB d a p P t)) ∧ Below w.heap.size w w' := by
  have hbx := (box_below w (.cells (gd d v) 25)).trans ((box_below (w.alloc (.cells (gd d v) 25)) (.cells (ge a u) 28)).mono (by simp))
  have HBX := Lib.hid hbx
  have D1 := Lib.hid (heap_alloc2_old w (.cells (gd d v) 25) (.cells (ge a u) 28))
  have E1 := Lib.hid (heap_alloc2_new w (.cells (gd d v) 25) (.cells (ge a u) 28))
  obtain ⟨g0, g1⟩ := gdCells D1.out
  obtain ⟨c0, c1⟩ := geCells E1.out
  have HFD := Lib.hid (show (#[.slice v.A1 d.k.length v.c1, .slice v.A2 d.e.length v.c2] : Array Value) = gd d v from rfl)
  have HFE := Lib.hid (show (#[.int .i64 a.n, .slice u.A a.e.length u.c] : Array Value) = ge a u from rfl)
  by_cases hp1 : p = -1
  · subst hp1
    have HLK := Lib.hid (linked_yes a u (P : Int) (t : Int) _ (Row.below he hbx) ⟨hea, by omega, hP⟩)
    rw [show xB d a (-1) P t = (lkA a.e (P : Int) (t : Int)).isSome from if_pos rfl]
    generalize lkA a.e (P : Int) (t : Int) = o at *
    generalize on o = oi at *
    generalize o.isSome = ob at *
    clear h hok he hea hP hbx hp
    go_enter Tryz.func117, Tryz.ntmps117
    go_wp2_with (go_at_call 46; rw [HFE.out]; refine HLK.out.mono ?_; rintro e w1 ⟨rfl, hb1⟩; have B1 := Lib.hid (HBX.out.trans (hb1.mono HBX.out.size)); clear hb1)
    go_ret
    exact ⟨by first | rfl | simp, B1.out⟩
  · obtain ⟨q, rfl⟩ : ∃ q : Nat, p = (q : Int) := ⟨p.toNat, by omega⟩
    have e1 : ((q : Int) == -1) = false := beq_eq_false_iff_ne.2 hp1
    have HMA := Lib.hid (may_any d v a u q P t _ (h.below hbx) hok (Row.below he hbx) hea hP)
    rw [show xB d a (q : Int) P t = mayB d a q P t by unfold xB; rw [if_neg hp1]; rfl]
    generalize mayB d a q P t = mb at *
    clear h hok he hea hP hbx hp hp1
    go_enter Tryz.func117, Tryz.ntmps117
    go_wp2_with (go_at_call 18; rw [HFD.out, HFE.out]; refine HMA.out.mono ?_; rintro e w1 ⟨rfl, hb1⟩; have B1 := Lib.hid (HBX.out.trans (hb1.mono HBX.out.size)); clear hb1)
    go_ret
    exact ⟨by first | rfl | simp, B1.out⟩

end Go.Proofs.YtgknfkmojhganaaGreat.Di

namespace Go.Proofs.YtgknfkmojhganaaGreat.Di
open Go.RowKit
open Go.Proofs.YtgknfkmojhganaaGreat.Tp
set_option linter.unusedVariables false
set_option linter.unusedSimpArgs false

set_option maxRecDepth 100000 in
set_option maxHeartbeats 400000 in
/-- IndexFunc over the test of where. -/
theorem idx116_any (l : List Nat) (ca : Array Value) (A : Option Addr) (n c : Nat) (p : Nat → Bool) (w : World) (hn : n ≤ 1000) (h : Row w 0 1 A n (iv l))
    (hp : ∀ i, i < n → ∀ w', Below w.heap.size w w' → Calls Tryz.prog 116 (#[.int .i64 ((l.getD i 0 : Nat) : Int)] ++ ca) w' fun e w'' => e = .returned (.bool (p i)) ∧ Below w'.heap.size w' w'') :
    Calls Tryz.prog 92 #[.slice A n c, .func (.func 116) #[] ca] w fun e w' => e = .returned (.int .i64 (fi p n 0)) ∧ Below w.heap.size w w' := by
  have H := Lib.hid h
  have HP := Lib.hid hp
  clear h hp
  go_enter Tryz.func92, Tryz.ntmps92
  go_wp2
  go_loopw [8] (fun i wr => ∃ k : Nat, k ≤ n ∧ i = .int .i64 k ∧ fi p n 0 = fi p (n - k) k ∧ Below w.heap.size w wr) (fun i _ => n - (intOf i).toNat)
  case atStart => exact ⟨0, by omega, rfl, rfl, Below.refl _ _⟩
  case round =>
    obtain ⟨k, hk, rfl, hfi, hbl⟩ := hrel
    have HBL := Lib.hid hbl
    have HF := Lib.hid hfi
    clear hfi
    by_cases hlt : k < n
    · obtain ⟨b, off, rfl, hB, hbk, y0⟩ := (H.out.below hbl).int hlt
      have HC := Lib.hid (HP.out k hlt wr hbl)
      have HFI := Lib.hid (fi_step p n k hlt)
      have j0 : (0 : Int) ≤ (k : Int) := by omega
      have j1 : (k : Int) < (n : Int) := by omega
      clear hbl
      generalize l.getD k 0 = x at *
      cases hpk : p k with
      | true =>
        rw [hpk] at HC
        have HPK := Lib.hid hpk
        clear hpk
        go_wp2_with (go_at_call 116; refine HC.out.mono ?_; rintro e w2 ⟨rfl, hb2⟩; have HB2 := Lib.hid (HBL.out.trans (hb2.mono HBL.out.size)); clear hb2)
        go_ret
        refine ⟨?_, HB2.out⟩
        rw [HF.out, HFI.out.1 HPK.out]
        rfl
      | false =>
        rw [hpk] at HC
        have HPK := Lib.hid hpk
        clear hpk
        go_wp2_with (go_at_call 116; refine HC.out.mono ?_; rintro e w2 ⟨rfl, hb2⟩; have HB2 := Lib.hid (HBL.out.trans (hb2.mono HBL.out.size)); clear hb2)
        exact ⟨⟨k + 1, by omega, by go_num, by rw [HF.out, HFI.out.2 HPK.out], HB2.out⟩, by simp [intOf]; omega⟩
    · obtain rfl : n = k := by omega
      go_wp2
      go_ret
      exact ⟨by rw [HF.out, Nat.sub_self]; rfl, HBL.out⟩
set_option maxRecDepth 100000 in
set_option maxHeartbeats 400000 in
/-- IndexFunc over the test of since. -/
theorem idx114_any (l : List Nat) (ca : Array Value) (A : Option Addr) (n c : Nat) (p : Nat → Bool) (w : World) (hn : n ≤ 1000) (h : Row w 0 1 A n (iv l))
    (hp : ∀ i, i < n → ∀ w', Below w.heap.size w w' → Calls Tryz.prog 114 (#[.int .i64 ((l.getD i 0 : Nat) : Int)] ++ ca) w' fun e w'' => e = .returned (.bool (p i)) ∧ Below w'.heap.size w' w'') :
    Calls Tryz.prog 92 #[.slice A n c, .func (.func 114) #[] ca] w fun e w' => e = .returned (.int .i64 (fi p n 0)) ∧ Below w.heap.size w w' := by
  have H := Lib.hid h
  have HP := Lib.hid hp
  clear h hp
  go_enter Tryz.func92, Tryz.ntmps92
  go_wp2
  go_loopw [8] (fun i wr => ∃ k : Nat, k ≤ n ∧ i = .int .i64 k ∧ fi p n 0 = fi p (n - k) k ∧ Below w.heap.size w wr) (fun i _ => n - (intOf i).toNat)
  case atStart => exact ⟨0, by omega, rfl, rfl, Below.refl _ _⟩
  case round =>
    obtain ⟨k, hk, rfl, hfi, hbl⟩ := hrel
    have HBL := Lib.hid hbl
    have HF := Lib.hid hfi
    clear hfi
    by_cases hlt : k < n
    · obtain ⟨b, off, rfl, hB, hbk, y0⟩ := (H.out.below hbl).int hlt
      have HC := Lib.hid (HP.out k hlt wr hbl)
      have HFI := Lib.hid (fi_step p n k hlt)
      have j0 : (0 : Int) ≤ (k : Int) := by omega
      have j1 : (k : Int) < (n : Int) := by omega
      clear hbl
      generalize l.getD k 0 = x at *
      cases hpk : p k with
      | true =>
        rw [hpk] at HC
        have HPK := Lib.hid hpk
        clear hpk
        go_wp2_with (go_at_call 114; refine HC.out.mono ?_; rintro e w2 ⟨rfl, hb2⟩; have HB2 := Lib.hid (HBL.out.trans (hb2.mono HBL.out.size)); clear hb2)
        go_ret
        refine ⟨?_, HB2.out⟩
        rw [HF.out, HFI.out.1 HPK.out]
        rfl
      | false =>
        rw [hpk] at HC
        have HPK := Lib.hid hpk
        clear hpk
        go_wp2_with (go_at_call 114; refine HC.out.mono ?_; rintro e w2 ⟨rfl, hb2⟩; have HB2 := Lib.hid (HBL.out.trans (hb2.mono HBL.out.size)); clear hb2)
        exact ⟨⟨k + 1, by omega, by go_num, by rw [HF.out, HFI.out.2 HPK.out], HB2.out⟩, by simp [intOf]; omega⟩
    · obtain rfl : n = k := by omega
      go_wp2
      go_ret
      exact ⟨by rw [HF.out, Nat.sub_self]; rfl, HBL.out⟩
set_option maxRecDepth 100000 in
set_option maxHeartbeats 1000000 in
/-- The test of where: may a place be read? -/
theorem x116_call (d : Dy) (v : Vd) (a : Es) (u : Ve) (p : Int) (P t b0 b1 b2 b3 : Nat) (w : World) (h : DL w 0 d v) (hok : Ok d) (he : EL w 0 a u) (hea : Eok a) (hP : (P : Int) < a.n) (hp : -1 ≤ p)
    (h0 : w.heap[b0]? = some (.cells (gd d v) 25 (0, 0))) (h1 : w.heap[b1]? = some (.cells (ge a u) 28 (0, 0))) (h2 : w.cell? ⟨b2, 0, none⟩ = some (.int .i64 p)) (h3 : w.cell? ⟨b3, 0, none⟩ = some (.int .i64 (t : Int))) :
    Calls Tryz.prog 116 (#[.int .i64 (P : Int)] ++ #[.pointer (some ⟨b0, 0, none⟩), .pointer (some ⟨b1, 0, none⟩), .pointer (some ⟨b2, 0, none⟩), .pointer (some ⟨b3, 0, none⟩)]) w fun e w' => e = .returned (.bool (xB d a p P t)) ∧ Below w.heap.size w w' := by
  show Calls Tryz.prog 116 #[.int .i64 (P : Int), .pointer (some ⟨b0, 0, none⟩), .pointer (some ⟨b1, 0, none⟩), .pointer (some ⟨b2, 0, none⟩), .pointer (some ⟨b3, 0, none⟩)] w _
  have HM := Lib.hid (xmay_any d v a u p P t w h hok he hea hP hp)
  obtain ⟨g0, g1⟩ := gdCells h0
  obtain ⟨c0, c1⟩ := geCells h1
  have HFD := Lib.hid (show (#[.slice v.A1 d.k.length v.c1, .slice v.A2 d.e.length v.c2] : Array Value) = gd d v from rfl)
  have HFE := Lib.hid (show (#[.int .i64 a.n, .slice u.A a.e.length u.c] : Array Value) = ge a u from rfl)
  generalize xB d a p P t = xb at *
  clear h hok he hea hP hp h0 h1
  go_enter Tryz.func116, Tryz.ntmps116
  go_wp2_with (go_at_call 117; rw [HFD.out, HFE.out]; refine HM.out.mono ?_; rintro e w1 ⟨rfl, hb1⟩; have B1 := Lib.hid hb1; clear hb1)
  go_ret
  exact ⟨by first | rfl | simp, B1.out⟩
/-- Is a content somewhere where a reader, or everybody, may read it? -/
noncomputable def xwB (d : Dy) (a : Es) (n : Nat) (c p : Int) (t : Nat) : Bool := anyB (fun P => wB a c (t : Int) P && xB d a p P t) n
set_option maxRecDepth 100000 in
set_option maxHeartbeats 4000000 in
/-- The product's where. -/
theorem xwhere_any (d : Dy) (v : Vd) (a : Es) (u : Ve) (n : Nat) (c p : Int) (t : Nat) (w : World) (h : DL w 0 d v) (hok : Ok d) (he : EL w 0 a u) (hea : Eok a) (hn : a.n = (n : Int)) (hc : 0 ≤ c ∧ c < 64) (hp : -1 ≤ p) :
    Calls Tryz.prog 73 #[.agg (gd d v), .agg (ge a u), .int .i64 c, .int .i64 p, .int .i64 (t : Int)] w fun e w' => ∃ z : Int, e = .returned (.tuple #[.int .i64 z, .bool (xwB d a n c p t)]) ∧ (xwB d a n c p t = true → ∃ P : Nat, z = (P : Int) ∧ P < n ∧ wB a c (t : Int) P = true ∧ xB d a p P t = true) ∧ Below w.heap.size w w' := by
  have hn16 := hea.n16
  obtain ⟨W4, hW4⟩ : ∃ W4, (((w.alloc (.cells (gd d v) 25)).alloc (.cells (ge a u) 28)).alloc (.cells #[.int .i64 p] 3)).alloc (.cells #[.int .i64 (t : Int)] 3) = W4 := ⟨_, rfl⟩
  have hs1 : (w.alloc (.cells (gd d v) 25)).heap.size = w.heap.size + 1 := by simp
  have hs2 : ((w.alloc (.cells (gd d v) 25)).alloc (.cells (ge a u) 28)).heap.size = w.heap.size + 1 + 1 := by simp
  have hs3 : (((w.alloc (.cells (gd d v) 25)).alloc (.cells (ge a u) 28)).alloc (.cells #[.int .i64 p] 3)).heap.size = w.heap.size + 1 + 1 + 1 := by simp
  have hb1 := box_below w (.cells (gd d v) 25)
  have hb2 := hb1.trans ((box_below _ (.cells (ge a u) 28)).mono hb1.size)
  have hb3 := hb2.trans ((box_below _ (.cells #[.int .i64 p] 3)).mono hb2.size)
  have hb4 := hb3.trans ((box_below _ (.cells #[.int .i64 (t : Int)] 3)).mono hb3.size)
  have r0 := (heap_alloc_old _ (.cells #[.int .i64 (t : Int)] 3) (by rw [hs3]; omega)).trans ((heap_alloc_old _ (.cells #[.int .i64 p] 3) (by rw [hs2]; omega)).trans ((heap_alloc_old _ (.cells (ge a u) 28) (by rw [hs1]; omega)).trans (heap_alloc_new w (.cells (gd d v) 25))))
  have r1 := (heap_alloc_old _ (.cells #[.int .i64 (t : Int)] 3) (by rw [hs3, hs1]; omega)).trans ((heap_alloc_old _ (.cells #[.int .i64 p] 3) (by rw [hs2, hs1]; omega)).trans (heap_alloc_new (w.alloc (.cells (gd d v) 25)) (.cells (ge a u) 28)))
  have r2 := (heap_alloc_old _ (.cells #[.int .i64 (t : Int)] 3) (by rw [hs3, hs2]; omega)).trans (heap_alloc_new ((w.alloc (.cells (gd d v) 25)).alloc (.cells (ge a u) 28)) (.cells #[.int .i64 p] 3))
  have r3 := heap_alloc_new (((w.alloc (.cells (gd d v) 25)).alloc (.cells (ge a u) 28)).alloc (.cells #[.int .i64 p] 3)) (.cells #[.int .i64 (t : Int)] 3)
  rw [hs1] at r1
  rw [hs2] at r2
  rw [hs3] at r3
  rw [hW4] at hb4 r0 r1 r2 r3
  have HB := Lib.hid hb4
  have R0 := Lib.hid r0
  have R1 := Lib.hid r1
  have p2 : W4.cell? ⟨w.heap.size + 1 + 1, 0, none⟩ = some (.int .i64 p) := by rw [cell_of_row _ _ 0 _ _ _ r2]; rfl
  have p3 : W4.cell? ⟨w.heap.size + 1 + 1 + 1, 0, none⟩ = some (.int .i64 (t : Int)) := by rw [cell_of_row _ _ 0 _ _ _ r3]; rfl
  obtain ⟨g0, g1⟩ := gdCells r0
  obtain ⟨c0, c1⟩ := geCells r1
  have P2 := Lib.hid (show W4.cell? ⟨w.heap.size + 1 + 1, 0, none⟩ = some (.int .i64 p) from p2)
  have P3 := Lib.hid (show W4.cell? ⟨w.heap.size + 1 + 1 + 1, 0, none⟩ = some (.int .i64 (t : Int)) from p3)
  have l0 := row_lt r0
  have l1 := row_lt r1
  have l2 := row_lt r2
  have l3 := row_lt r3
  have hwh := where_any a u c (t : Int) n W4 (Row.below he hb4) hea hn hc
  unfold SmPost at hwh
  have HWH := Lib.hid hwh
  have HFE := Lib.hid (show (#[.int .i64 a.n, .slice u.A a.e.length u.c] : Array Value) = ge a u from rfl)
  have hcn := cnt_le (wB a c (t : Int)) n
  have HAT := Lib.hid (fun j (hj : j < cnt (wB a c (t : Int)) n) => at_idx hj)
  have hxc := fun w' (hb : Below W4.heap.size W4 w') i (hi : i < cnt (wB a c (t : Int)) n) => x116_call d v a u p ((idx (wB a c (t : Int)) n).getD i 0) t w.heap.size (w.heap.size + 1) (w.heap.size + 1 + 1) (w.heap.size + 1 + 1 + 1) w' ((h.below hb4).below hb) hok (Row.below (Row.below he hb4) hb) hea (by have := (at_idx hi).1; omega) hp
    ((hb.block _ l0).trans R0.out) ((hb.block _ l1).trans R1.out) ((hb.cell (p := ⟨w.heap.size + 1 + 1, 0, none⟩) l2).trans P2.out) ((hb.cell (p := ⟨w.heap.size + 1 + 1 + 1, 0, none⟩) l3).trans P3.out)
  have hai := any_idx (wB a c (t : Int)) (fun P => xB d a p P t) n
  have hxw : xwB d a n c p t = anyB (fun P => wB a c (t : Int) P && xB d a p P t) n := rfl
  rw [← hai] at hxw
  obtain ⟨pX, hpX⟩ : ∃ pX : Nat → Bool, pX = fun i => xB d a p ((idx (wB a c (t : Int)) n).getD i 0) t := ⟨_, rfl⟩
  have hxp : ∀ i, xB d a p ((idx (wB a c (t : Int)) n).getD i 0) t = pX i := fun i => by rw [hpX]
  rw [← hpX] at hxw
  simp only [hxp] at hxc
  have HXC := Lib.hid hxc
  have HXP := Lib.hid hxp
  rw [hxw]
  have hfi := fi_all pX (cnt (wB a c (t : Int)) n) 0
  clear h hok he hea hc hp hb1 hb2 hb3 hb4 r0 r1 r2 r3 hs1 hs2 hs3 hwh hai hxw hxp hxc hpX
  generalize cnt (wB a c (t : Int)) n = m at *
  generalize idx (wB a c (t : Int)) n = LP at *
  have hm16 : m ≤ 16 := by omega
  rcases hfi with ⟨h1, h2⟩ | ⟨j, h1, h2, h3, h4⟩
  · have hz : anyB pX m = false := any_no (fun i hi => by have := h2 i hi; rwa [Nat.zero_add] at this)
    have HF1 := Lib.hid h1
    rw [hz]
    clear h1 h2 hz hn
    go_enter Tryz.func73, Tryz.ntmps73
    go_upto_region 1 with fail
    (try rw [hW4])
    go_wp2_with (first
      | (go_at_call 115; rw [HFE.out]; refine HWH.out.mono ?_; rintro e w5 ⟨X, xc, rfl, hown, hb5⟩; have B5 := Lib.hid hb5; have RX := Lib.hid ((row_of_own hown).base (Nat.zero_le _)); have hi := idx116_any LP #[.pointer (some ⟨w.heap.size, 0, none⟩), .pointer (some ⟨w.heap.size + 1, 0, none⟩), .pointer (some ⟨w.heap.size + 1 + 1, 0, none⟩), .pointer (some ⟨w.heap.size + 1 + 1 + 1, 0, none⟩)] X m xc pX w5 (by omega) RX.out (fun i hi w' hb => HXC.out w' (B5.out.trans (hb.mono B5.out.size)) i hi); rw [HF1.out] at hi; have HI := Lib.hid hi; clear hi hb5 hown g0 g1 c0 c1 p2 p3)
      | (go_at_call 92; refine HI.out.mono ?_; rintro e w6 ⟨rfl, hb6⟩; have B6 := Lib.hid (B5.out.trans (hb6.mono B5.out.size)); clear hb6))
    go_ret2
    exact ⟨0, by first | rfl | simp, fun h => (by simp at h), HB.out.trans (B6.out.mono HB.out.size)⟩
  · rw [Nat.zero_add] at h2 h3
    have hz : anyB pX m = true := (any_iff _ _).2 ⟨j, h1, h3⟩
    have HF1 := Lib.hid h2
    have HPJ := Lib.hid (show xB d a p (LP.getD j 0) t = true from (HXP.out j).trans h3)
    have hpl := HAT.out j h1
    have HPL := Lib.hid hpl
    have d1 : decide ((j : Int) < 0) = false := decide_eq_false (by omega)
    have j0 : (0 : Int) ≤ (j : Int) := by omega
    have j1 : (j : Int) < (m : Int) := by omega
    rw [hz]
    clear h2 h3 h4 hz hn hpl
    go_enter Tryz.func73, Tryz.ntmps73
    go_upto_region 1 with fail
    (try rw [hW4])
    go_wp2_with (first
      | (go_at_call 115; rw [HFE.out]; refine HWH.out.mono ?_; rintro e w5 ⟨X, xc, rfl, hown, hb5⟩; have B5 := Lib.hid hb5; have RX := Lib.hid ((row_of_own hown).base (Nat.zero_le _)); have hi := idx116_any LP #[.pointer (some ⟨w.heap.size, 0, none⟩), .pointer (some ⟨w.heap.size + 1, 0, none⟩), .pointer (some ⟨w.heap.size + 1 + 1, 0, none⟩), .pointer (some ⟨w.heap.size + 1 + 1 + 1, 0, none⟩)] X m xc pX w5 (by omega) RX.out (fun i hi w' hb => HXC.out w' (B5.out.trans (hb.mono B5.out.size)) i hi); rw [HF1.out] at hi; have HI := Lib.hid hi; clear hi hb5 hown g0 g1 c0 c1 p2 p3)
      | (go_at_call 92; refine HI.out.mono ?_; rintro e w6 ⟨rfl, hb6⟩; have B6 := Lib.hid (B5.out.trans (hb6.mono B5.out.size)); obtain ⟨b, off, hX, -, -, y0⟩ := (RX.out.below hb6).int h1; subst hX; clear hb6))
    go_ret2
    exact ⟨_, by first | rfl | simp, fun _ => ⟨LP.getD j 0, by first | rfl | simp, HPL.out.1, HPL.out.2, HPJ.out⟩, HB.out.trans (B6.out.mono HB.out.size)⟩

end Go.Proofs.YtgknfkmojhganaaGreat.Di

namespace Go.Proofs.YtgknfkmojhganaaGreat.Di
open Go.RowKit
open Go.Proofs.YtgknfkmojhganaaGreat.Tp
set_option linter.unusedVariables false
set_option linter.unusedSimpArgs false

set_option maxRecDepth 100000 in
set_option maxHeartbeats 1000000 in
/-- The test of since: is there a place at a time? -/
theorem x114_call (d : Dy) (v : Vd) (a : Es) (u : Ve) (n : Nat) (c p : Int) (t b0 b1 b2 b3 : Nat) (w : World) (h : DL w 0 d v) (hok : Ok d) (he : EL w 0 a u) (hea : Eok a) (hn : a.n = (n : Int)) (hc : 0 ≤ c ∧ c < 64) (hp : -1 ≤ p)
    (h0 : w.heap[b0]? = some (.cells (gd d v) 25 (0, 0))) (h1 : w.heap[b1]? = some (.cells (ge a u) 28 (0, 0))) (h2 : w.cell? ⟨b2, 0, none⟩ = some (.int .i64 c)) (h3 : w.cell? ⟨b3, 0, none⟩ = some (.int .i64 p)) :
    Calls Tryz.prog 114 (#[.int .i64 (t : Int)] ++ #[.pointer (some ⟨b0, 0, none⟩), .pointer (some ⟨b1, 0, none⟩), .pointer (some ⟨b2, 0, none⟩), .pointer (some ⟨b3, 0, none⟩)]) w fun e w' => e = .returned (.bool (xwB d a n c p t)) ∧ Below w.heap.size w w' := by
  show Calls Tryz.prog 114 #[.int .i64 (t : Int), .pointer (some ⟨b0, 0, none⟩), .pointer (some ⟨b1, 0, none⟩), .pointer (some ⟨b2, 0, none⟩), .pointer (some ⟨b3, 0, none⟩)] w _
  have HM := Lib.hid (xwhere_any d v a u n c p t w h hok he hea hn hc hp)
  obtain ⟨g0, g1⟩ := gdCells h0
  obtain ⟨c0, c1⟩ := geCells h1
  have HFD := Lib.hid (show (#[.slice v.A1 d.k.length v.c1, .slice v.A2 d.e.length v.c2] : Array Value) = gd d v from rfl)
  have HFE := Lib.hid (show (#[.int .i64 a.n, .slice u.A a.e.length u.c] : Array Value) = ge a u from rfl)
  generalize xwB d a n c p t = xb at *
  clear h hok he hea hc hp h0 h1 hn
  go_enter Tryz.func114, Tryz.ntmps114
  go_wp2_with (go_at_call 73; rw [HFD.out, HFE.out]; refine HM.out.mono ?_; rintro e w1 ⟨z, rfl, -, hb1⟩; have B1 := Lib.hid hb1; clear hb1)
  go_ret
  exact ⟨by first | rfl | simp, B1.out⟩
/-- A time of an event. -/
def TiM (d : Dy) (a : Es) (r : Nat) : Prop := (∃ j, j < a.e.length ∧ (ag a.e j).t = (r : Int)) ∨ ∃ j, j < d.e.length ∧ (eg d j).t = r
/-- The first time at which a content could be read. -/
def SiOk (d : Dy) (a : Es) (n : Nat) (c p s : Int) (b : Bool) : Prop :=
  (b = true → ∃ T : Nat, s = (T : Int) ∧ TiM d a T ∧ xwB d a n c p T = true ∧ ∀ r, TiM d a r → xwB d a n c p r = true → T ≤ r) ∧ (b = false → ∀ r, TiM d a r → xwB d a n c p r = false)
theorem asc_le {L : List Nat} (h : L.Pairwise (· < ·)) {i j : Nat} (hij : i ≤ j) (hj : j < L.length) : L.getD i 0 ≤ L.getD j 0 := by
  rw [List.getD_eq_getElem?_getD, List.getD_eq_getElem?_getD, List.getElem?_eq_getElem (by omega), List.getElem?_eq_getElem hj]
  by_cases e : i = j
  · subst e; exact Nat.le_refl _
  · exact Nat.le_of_lt (List.pairwise_iff_getElem.1 h i j (by omega) hj (by omega))
theorem getD_mem' {L : List Nat} {j : Nat} (hj : j < L.length) : L.getD j 0 ∈ L := by
  rw [List.getD_eq_getElem?_getD, List.getElem?_eq_getElem hj]
  exact List.getElem_mem hj
theorem si_none {d : Dy} {a : Es} {n : Nat} {c p : Int} {L : List Nat} (hL : TiOk d a L) (h : ∀ j, j < L.length → xwB d a n c p (L.getD j 0) = false) : SiOk d a n c p 0 false :=
  ⟨fun h => by (cases h), fun _ r hr => by
    obtain ⟨j, h3, h4⟩ := List.mem_iff_getElem.1 ((hL.2.1 r).2 hr)
    have := h j h3
    rw [List.getD_eq_getElem?_getD, List.getElem?_eq_getElem h3] at this
    rw [← h4]
    exact this⟩
theorem si_some {d : Dy} {a : Es} {n : Nat} {c p : Int} {L : List Nat} (hL : TiOk d a L) {j : Nat} (hj : j < L.length) (h : xwB d a n c p (L.getD j 0) = true) (hb : ∀ l, l < j → xwB d a n c p (L.getD l 0) = false) : SiOk d a n c p ((L.getD j 0 : Nat) : Int) true :=
  ⟨fun _ => ⟨L.getD j 0, rfl, (hL.2.1 _).1 (getD_mem' hj), h, fun r hr hx => by
    obtain ⟨i, h3, h4⟩ := List.mem_iff_getElem.1 ((hL.2.1 r).2 hr)
    have h5 : L.getD i 0 = r := by rw [List.getD_eq_getElem?_getD, List.getElem?_eq_getElem h3]; exact h4
    by_cases hij : i < j
    · have := hb i hij
      rw [h5, hx] at this
      cases this
    · rw [← h5]
      exact asc_le hL.1 (by omega) h3⟩, fun h => by (cases h)⟩
set_option maxRecDepth 100000 in
set_option maxHeartbeats 4000000 in
/-- The product's since. -/
theorem xsince_any (d : Dy) (v : Vd) (a : Es) (u : Ve) (n : Nat) (c p : Int) (w : World) (h : DL w 0 d v) (hok : Ok d) (he : EL w 0 a u) (hea : Eok a) (hn : a.n = (n : Int)) (hc : 0 ≤ c ∧ c < 64) (hp : -1 ≤ p) :
    Calls Tryz.prog 69 #[.agg (gd d v), .agg (ge a u), .int .i64 c, .int .i64 p] w fun e w' => ∃ (s : Int) (b : Bool), e = .returned (.tuple #[.int .i64 s, .bool b]) ∧ SiOk d a n c p s b ∧ (b = false → s = 0) ∧ Below w.heap.size w w' := by
  have hn16 := hea.n16
  obtain ⟨W4, hW4⟩ : ∃ W4, (((w.alloc (.cells (gd d v) 25)).alloc (.cells (ge a u) 28)).alloc (.cells #[.int .i64 c] 3)).alloc (.cells #[.int .i64 p] 3) = W4 := ⟨_, rfl⟩
  have hs1 : (w.alloc (.cells (gd d v) 25)).heap.size = w.heap.size + 1 := by simp
  have hs2 : ((w.alloc (.cells (gd d v) 25)).alloc (.cells (ge a u) 28)).heap.size = w.heap.size + 1 + 1 := by simp
  have hs3 : (((w.alloc (.cells (gd d v) 25)).alloc (.cells (ge a u) 28)).alloc (.cells #[.int .i64 c] 3)).heap.size = w.heap.size + 1 + 1 + 1 := by simp
  have hb1 := box_below w (.cells (gd d v) 25)
  have hb2 := hb1.trans ((box_below _ (.cells (ge a u) 28)).mono hb1.size)
  have hb3 := hb2.trans ((box_below _ (.cells #[.int .i64 c] 3)).mono hb2.size)
  have hb4 := hb3.trans ((box_below _ (.cells #[.int .i64 p] 3)).mono hb3.size)
  have r0 := (heap_alloc_old _ (.cells #[.int .i64 p] 3) (by rw [hs3]; omega)).trans ((heap_alloc_old _ (.cells #[.int .i64 c] 3) (by rw [hs2]; omega)).trans ((heap_alloc_old _ (.cells (ge a u) 28) (by rw [hs1]; omega)).trans (heap_alloc_new w (.cells (gd d v) 25))))
  have r1 := (heap_alloc_old _ (.cells #[.int .i64 p] 3) (by rw [hs3, hs1]; omega)).trans ((heap_alloc_old _ (.cells #[.int .i64 c] 3) (by rw [hs2, hs1]; omega)).trans (heap_alloc_new (w.alloc (.cells (gd d v) 25)) (.cells (ge a u) 28)))
  have r2 := (heap_alloc_old _ (.cells #[.int .i64 p] 3) (by rw [hs3, hs2]; omega)).trans (heap_alloc_new ((w.alloc (.cells (gd d v) 25)).alloc (.cells (ge a u) 28)) (.cells #[.int .i64 c] 3))
  have r3 := heap_alloc_new (((w.alloc (.cells (gd d v) 25)).alloc (.cells (ge a u) 28)).alloc (.cells #[.int .i64 c] 3)) (.cells #[.int .i64 p] 3)
  rw [hs1] at r1
  rw [hs2] at r2
  rw [hs3] at r3
  rw [hW4] at hb4 r0 r1 r2 r3
  have HB := Lib.hid hb4
  have R0 := Lib.hid r0
  have R1 := Lib.hid r1
  have p2 : W4.cell? ⟨w.heap.size + 1 + 1, 0, none⟩ = some (.int .i64 c) := by rw [cell_of_row _ _ 0 _ _ _ r2]; rfl
  have p3 : W4.cell? ⟨w.heap.size + 1 + 1 + 1, 0, none⟩ = some (.int .i64 p) := by rw [cell_of_row _ _ 0 _ _ _ r3]; rfl
  obtain ⟨g0, g1⟩ := gdCells r0
  obtain ⟨c0, c1⟩ := geCells r1
  have P2 := Lib.hid (show W4.cell? ⟨w.heap.size + 1 + 1, 0, none⟩ = some (.int .i64 c) from p2)
  have P3 := Lib.hid (show W4.cell? ⟨w.heap.size + 1 + 1 + 1, 0, none⟩ = some (.int .i64 p) from p3)
  have l0 := row_lt r0
  have l1 := row_lt r1
  have l2 := row_lt r2
  have l3 := row_lt r3
  have HTI := Lib.hid (xtimes_any d v a u W4 (h.below hb4) hok (Row.below he hb4) hea)
  have HFD := Lib.hid (show (#[.slice v.A1 d.k.length v.c1, .slice v.A2 d.e.length v.c2] : Array Value) = gd d v from rfl)
  have HFE := Lib.hid (show (#[.int .i64 a.n, .slice u.A a.e.length u.c] : Array Value) = ge a u from rfl)
  have HXC := Lib.hid (fun w' (hb : Below W4.heap.size W4 w') (x : Nat) => x114_call d v a u n c p x w.heap.size (w.heap.size + 1) (w.heap.size + 1 + 1) (w.heap.size + 1 + 1 + 1) w' ((h.below hb4).below hb) hok (Row.below (Row.below he hb4) hb) hea hn hc hp
    ((hb.block _ l0).trans R0.out) ((hb.block _ l1).trans R1.out) ((hb.cell (p := ⟨w.heap.size + 1 + 1, 0, none⟩) l2).trans P2.out) ((hb.cell (p := ⟨w.heap.size + 1 + 1 + 1, 0, none⟩) l3).trans P3.out))
  clear h hok he hea hc hp hn hb1 hb2 hb3 hb4 r0 r1 r2 r3 hs1 hs2 hs3
  go_enter Tryz.func69, Tryz.ntmps69
  (try rw [hW4])
  go_upto_region 2 with (go_at_call 113; rw [HFD.out, HFE.out]; refine HTI.out.mono ?_; rintro e w5 ⟨L, X, xc, rfl, hti, hrow, hb5⟩; have B5 := Lib.hid hb5; have RX := Lib.hid (hrow.base (Nat.zero_le _)); have HT := Lib.hid hti; clear hb5 hrow hti g0 g1 c0 c1 p2 p3)
  obtain ⟨pX, hpX⟩ : ∃ pX : Nat → Bool, pX = fun i => xwB d a n c p (L.getD i 0) := ⟨_, rfl⟩
  have hxp : ∀ i, xwB d a n c p (L.getD i 0) = pX i := fun i => by rw [hpX]
  have hxc := fun i (hi : i < L.length) w' (hb : Below w5.heap.size w5 w') => HXC.out w' (B5.out.trans (hb.mono B5.out.size)) (L.getD i 0)
  simp only [hxp] at hxc
  have HXP := Lib.hid hxp
  have hll := HT.out.2.2
  have hfi := fi_all pX L.length 0
  have hi0 := idx114_any L #[.pointer (some ⟨w.heap.size, 0, none⟩), .pointer (some ⟨w.heap.size + 1, 0, none⟩), .pointer (some ⟨w.heap.size + 1 + 1, 0, none⟩), .pointer (some ⟨w.heap.size + 1 + 1 + 1, 0, none⟩)] X L.length xc pX w5 (by omega) RX.out hxc
  obtain ⟨m, hm⟩ : ∃ m, L.length = m := ⟨_, rfl⟩
  rw [hm] at hi0 hfi hll RX ⊢
  have HM := Lib.hid hm
  clear hxp hxc hpX hm
  rcases hfi with ⟨h1, h2⟩ | ⟨j, h1, h2, h3, h4⟩
  · rw [h1] at hi0
    have HI := Lib.hid hi0
    have HS := Lib.hid (si_none (n := n) (c := c) (p := p) HT.out (fun j hj => by
      have := h2 j (by rw [← HM.out]; exact hj)
      rw [Nat.zero_add] at this
      rw [HXP.out, this]))
    clear h1 h2 hi0
    go_wp2_with (go_at_call 92; refine HI.out.mono ?_; rintro e w6 ⟨rfl, hb6⟩; have B6 := Lib.hid (B5.out.trans (hb6.mono B5.out.size)); clear hb6)
    go_ret2
    exact ⟨0, false, by first | rfl | simp, HS.out, fun _ => rfl, HB.out.trans (B6.out.mono HB.out.size)⟩
  · rw [Nat.zero_add] at h2 h3
    rw [h2] at hi0
    have HI := Lib.hid hi0
    have HS := Lib.hid (si_some (n := n) (c := c) (p := p) HT.out (by rw [HM.out]; exact h1) (by rw [HXP.out, h3]) (fun l hl => by
      have := h4 l hl
      rw [Nat.zero_add] at this
      rw [HXP.out, this]))
    have d1 : decide ((j : Int) < 0) = false := decide_eq_false (by omega)
    have j0 : (0 : Int) ≤ (j : Int) := by omega
    have j1 : (j : Int) < (m : Int) := by omega
    clear h2 h3 h4 hi0
    go_wp2_with (go_at_call 92; refine HI.out.mono ?_; rintro e w6 ⟨rfl, hb6⟩; have B6 := Lib.hid (B5.out.trans (hb6.mono B5.out.size)); obtain ⟨b, off, hX, -, -, y0⟩ := (RX.out.below hb6).int h1; subst hX; clear hb6)
    go_ret2
    exact ⟨_, true, by first | rfl | simp, HS.out, fun h => (by cases h), HB.out.trans (B6.out.mono HB.out.size)⟩
set_option maxRecDepth 100000 in
set_option maxHeartbeats 1000000 in
/-- The product's Since. -/
theorem xSince_any (d : Dy) (v : Vd) (a : Es) (u : Ve) (n : Nat) (c p : Int) (w : World) (h : DL w 0 d v) (hok : Ok d) (he : EL w 0 a u) (hea : Eok a) (hn : a.n = (n : Int)) (hc : 0 ≤ c ∧ c < 64) (hp : -1 ≤ p) :
    Calls Tryz.prog 34 #[.agg (gd d v), .agg (ge a u), .int .i64 c, .int .i64 p] w fun e w' => ∃ (s : Int) (b : Bool), e = .returned (.tuple #[.int .i64 s, .bool b]) ∧ SiOk d a n c p s b ∧ (b = false → s = 0) ∧ Below w.heap.size w w' := by
  have hbx := (box_below w (.cells (gd d v) 25)).trans ((box_below (w.alloc (.cells (gd d v) 25)) (.cells (ge a u) 28)).mono (by simp))
  have HBX := Lib.hid hbx
  have D1 := Lib.hid (heap_alloc2_old w (.cells (gd d v) 25) (.cells (ge a u) 28))
  have E1 := Lib.hid (heap_alloc2_new w (.cells (gd d v) 25) (.cells (ge a u) 28))
  obtain ⟨g0, g1⟩ := gdCells D1.out
  obtain ⟨c0, c1⟩ := geCells E1.out
  have HCK := Lib.hid (xcheck_ok d v a u c _ (h.below hbx) hok (Row.below he hbx) hea hc)
  have HSI := Lib.hid (fun w' (hb : Below w.heap.size w w') => xsince_any d v a u n c p w' (h.below hb) hok (Row.below he hb) hea hn hc hp)
  have HFD := Lib.hid (show (#[.slice v.A1 d.k.length v.c1, .slice v.A2 d.e.length v.c2] : Array Value) = gd d v from rfl)
  have HFE := Lib.hid (show (#[.int .i64 a.n, .slice u.A a.e.length u.c] : Array Value) = ge a u from rfl)
  have lD := row_lt D1.out
  have lE := row_lt E1.out
  clear h hok he hea hn hc hp hbx
  go_enter Tryz.func34, Tryz.ntmps34
  go_wp2_with (first
    | (go_at_call 68; rw [HFD.out, HFE.out]; refine HCK.out.mono ?_; rintro e w1 ⟨rfl, hb1⟩; have B1 := Lib.hid (HBX.out.trans (hb1.mono HBX.out.size)); have D2 := Lib.hid ((hb1.block _ lD).trans D1.out); have E2 := Lib.hid ((hb1.block _ lE).trans E1.out); clear hb1 g0 g1 c0 c1; obtain ⟨g0, g1⟩ := gdCells D2.out; obtain ⟨c0, c1⟩ := geCells E2.out)
    | (go_at_call 69; rw [HFD.out, HFE.out]; refine (HSI.out _ B1.out).mono ?_; rintro e w2 ⟨s, b, rfl, hsi, hs0, hb2⟩; have HS := Lib.hid hsi; have HS0 := Lib.hid hs0; have B2 := Lib.hid (B1.out.trans (hb2.mono B1.out.size)); clear hb2 hsi hs0 g0 g1 c0 c1))
  go_ret2
  exact ⟨s, b, by first | rfl | simp, HS.out, HS0.out, B2.out⟩

end Go.Proofs.YtgknfkmojhganaaGreat.Di

namespace Go.Proofs.YtgknfkmojhganaaGreat.Di
set_option linter.unusedVariables false
set_option linter.unusedSimpArgs false

/-- The least time of an event at which a content can be read. -/
def LeM (d : Dy) (a : Es) (n : Nat) (c p : Int) (T : Nat) : Prop := TiM d a T ∧ xwB d a n c p T = true ∧ ∀ r, TiM d a r → xwB d a n c p r = true → T ≤ r
open Classical in
/-- The first time, if there is one. -/
noncomputable def siF (d : Dy) (a : Es) (n : Nat) (c p : Int) : Option Nat := if h : ∃ T, LeM d a n c p T then some (Classical.choose h) else none
theorem siF_yes {d : Dy} {a : Es} {n : Nat} {c p : Int} {T : Nat} (h : LeM d a n c p T) : siF d a n c p = some T := by
  have hx : ∃ T, LeM d a n c p T := ⟨T, h⟩
  unfold siF
  rw [dif_pos hx]
  have h2 := Classical.choose_spec hx
  exact congrArg some (Nat.le_antisymm (h2.2.2 T h.1 h.2.1) (h.2.2 _ h2.1 h2.2.1))
theorem siF_no {d : Dy} {a : Es} {n : Nat} {c p : Int} (h : ∀ r, TiM d a r → xwB d a n c p r = false) : siF d a n c p = none := by
  unfold siF
  rw [dif_neg]
  rintro ⟨T, h1, h2, -⟩
  rw [h T h1] at h2
  cases h2
theorem siF_is {d : Dy} {a : Es} {n : Nat} {c p : Int} {T : Nat} (h : siF d a n c p = some T) : LeM d a n c p T := by
  by_cases hx : ∃ T, LeM d a n c p T
  · have e := siF_yes (Classical.choose_spec hx)
    rw [e] at h
    injection h with h
    rw [← h]
    exact Classical.choose_spec hx
  · unfold siF at h
    rw [dif_neg hx] at h
    cases h
theorem leM_ex {d : Dy} {a : Es} {n : Nat} {c p : Int} (r : Nat) (h1 : TiM d a r) (h2 : xwB d a n c p r = true) : ∃ T, LeM d a n c p T ∧ T ≤ r := by
  induction r using Nat.strongRecOn with
  | ind r ih =>
    by_cases hx : ∃ q, q < r ∧ TiM d a q ∧ xwB d a n c p q = true
    · obtain ⟨q, h3, h4, h5⟩ := hx
      obtain ⟨T, h6, h7⟩ := ih q h3 h4 h5
      exact ⟨T, h6, by omega⟩
    · refine ⟨r, ⟨h1, h2, fun q hq hx2 => ?_⟩, Nat.le_refl _⟩
      by_cases e : r ≤ q
      · exact e
      · exact absurd ⟨q, by omega, hq, hx2⟩ hx
theorem siF_none {d : Dy} {a : Es} {n : Nat} {c p : Int} (h : siF d a n c p = none) : ∀ r, TiM d a r → xwB d a n c p r = false := fun r hr => by
  cases e : xwB d a n c p r with
  | false => rfl
  | true =>
    obtain ⟨T, h1, -⟩ := leM_ex r hr e
    rw [siF_yes h1] at h
    cases h
theorem siOk_eq {d : Dy} {a : Es} {n : Nat} {c p s : Int} {b : Bool} (h : SiOk d a n c p s b) (hs : b = false → s = 0) : s = on (siF d a n c p) ∧ b = (siF d a n c p).isSome := by
  cases b with
  | true =>
    obtain ⟨T, h1, h2, h3, h4⟩ := h.1 rfl
    rw [siF_yes ⟨h2, h3, h4⟩]
    exact ⟨h1, rfl⟩
  | false =>
    rw [siF_no (h.2 rfl)]
    exact ⟨hs rfl, rfl⟩
/-! An event more that lets in. -/
/-- A grant or a link. -/
def InE (x : Ac) : Prop := x.k = 1 ∨ x.k = 3
theorem wB_in {a : Es} {x : Ac} (hx : InE x) (c t : Int) (P : Nat) : wB ⟨a.n, a.e ++ [x]⟩ c t P = wB a c t P := by
  unfold wB
  show (!(wyA (a.e ++ [x]) c t (P : Int)).isEmpty) = _
  rw [wyA_snoc]
  have : wst a.e.length x c (wyA a.e c t) = wyA a.e c t := by
    funext q
    unfold wst
    rcases hx with h | h <;> rw [h, if_neg (by decide), if_neg (by decide), if_neg (by decide)]
  rw [this]
  split <;> rfl
theorem lk_in {l : List Ac} {x : Ac} (hx : InE x) (p t : Int) (h : (lkA l p t).isSome = true) : (lkA (l ++ [x]) p t).isSome = true := by
  rw [lkA_snoc]
  split
  · exact h
  · rw [if_neg (by rcases hx with e | e <;> rw [e] <;> decide)]
    split
    · rfl
    · exact h
theorem gr_in {l : List Ac} {x : Ac} (hx : InE x) (p t r : Int) (h : (grA l p t r).isSome = true) : (grA (l ++ [x]) p t r).isSome = true := by
  rw [grA_snoc]
  split
  · exact h
  · split
    · split
      · rfl
      · exact h
    · rw [if_neg (by rcases hx with e | e <;> rw [e] <;> decide)]
      exact h
theorem may_in {d : Dy} {a : Es} {x : Ac} (hx : InE x) (hok : Eok a) (hok2 : Eok ⟨a.n, a.e ++ [x]⟩) {p P t : Nat} (hP : (P : Int) < a.n) (h : mayB d a p P t = true) : mayB d ⟨a.n, a.e ++ [x]⟩ p P t = true := by
  unfold mayB at h ⊢
  rw [Bool.and_eq_true, Bool.or_eq_true] at h ⊢
  refine ⟨h.1, ?_⟩
  rcases h.2 with h2 | h2
  · exact .inl (lk_in hx _ _ h2)
  · refine .inr ?_
    rw [any_iff] at h2 ⊢
    obtain ⟨q, hq, h3⟩ := h2
    refine ⟨q, hq, ?_⟩
    unfold keyB at h3 ⊢
    rw [Bool.and_eq_true] at h3 ⊢
    refine ⟨h3.1, ?_⟩
    have h4 := h3.2
    rw [gdB_yes ⟨hok, by omega, hP⟩] at h4
    rw [gdB_yes ⟨hok2, by omega, hP⟩]
    exact gr_in hx _ _ _ h4
theorem xB_in {d : Dy} {a : Es} {x : Ac} (hx : InE x) (hok : Eok a) (hok2 : Eok ⟨a.n, a.e ++ [x]⟩) {p : Int} {P t : Nat} (hP : (P : Int) < a.n) (h : xB d a p P t = true) : xB d ⟨a.n, a.e ++ [x]⟩ p P t = true := by
  unfold xB at h ⊢
  split
  · rename_i e
    rw [if_pos e] at h
    exact lk_in hx _ _ h
  · rename_i e
    rw [if_neg e] at h
    exact may_in hx hok hok2 hP h
theorem xwB_in {d : Dy} {a : Es} {x : Ac} (hx : InE x) (hok : Eok a) (hok2 : Eok ⟨a.n, a.e ++ [x]⟩) {n : Nat} (hn : a.n = (n : Int)) {c p : Int} {t : Nat} (h : xwB d a n c p t = true) : xwB d ⟨a.n, a.e ++ [x]⟩ n c p t = true := by
  unfold xwB at h ⊢
  rw [any_iff] at h ⊢
  obtain ⟨P, hP, h2⟩ := h
  rw [Bool.and_eq_true] at h2
  refine ⟨P, hP, ?_⟩
  rw [Bool.and_eq_true, wB_in hx]
  exact ⟨h2.1, xB_in hx hok hok2 (by omega) h2.2⟩
theorem tiM_in {d : Dy} {a : Es} {x : Ac} {r : Nat} (h : TiM d a r) : TiM d ⟨a.n, a.e ++ [x]⟩ r := by
  rcases h with ⟨j, h1, h2⟩ | h
  · exact .inl ⟨j, by show j < (a.e ++ [x]).length; simp; omega, by show (ag (a.e ++ [x]) j).t = _; rw [ag_left h1]; exact h2⟩
  · exact .inr h
/-- An event more that lets in takes nothing away. -/
theorem siF_in {d : Dy} {a : Es} {x : Ac} (hx : InE x) (hok : Eok a) (hok2 : Eok ⟨a.n, a.e ++ [x]⟩) {n : Nat} (hn : a.n = (n : Int)) {c p : Int} {T : Nat} (h : siF d a n c p = some T) : ∃ T', siF d ⟨a.n, a.e ++ [x]⟩ n c p = some T' ∧ T' ≤ T := by
  obtain ⟨h1, h2, -⟩ := siF_is h
  obtain ⟨T', h3, h4⟩ := leM_ex T (tiM_in (x := x) h1) (xwB_in hx hok hok2 hn h2)
  exact ⟨T', siF_yes h3, h4⟩

end Go.Proofs.YtgknfkmojhganaaGreat.Di

namespace Go.Proofs.YtgknfkmojhganaaGreat.Di
open Go.RowKit
open Go.Proofs.YtgknfkmojhganaaGreat.Tp
set_option linter.unusedVariables false
set_option linter.unusedSimpArgs false

theorem xsince_is (d : Dy) (v : Vd) (a : Es) (u : Ve) (n : Nat) (c p : Int) (w : World) (h : DL w 0 d v) (hok : Ok d) (he : EL w 0 a u) (hea : Eok a) (hn : a.n = (n : Int)) (hc : 0 ≤ c ∧ c < 64) (hp : -1 ≤ p) :
    Calls Tryz.prog 69 #[.agg (gd d v), .agg (ge a u), .int .i64 c, .int .i64 p] w fun e w' => e = .returned (.tuple #[.int .i64 (on (siF d a n c p)), .bool (siF d a n c p).isSome]) ∧ Below w.heap.size w w' :=
  (xsince_any d v a u n c p w h hok he hea hn hc hp).mono fun e w' h => by
    obtain ⟨s, b, h1, h2, h3, h4⟩ := h
    obtain ⟨h5, h6⟩ := siOk_eq h2 h3
    rw [h1, h5, h6]
    exact ⟨rfl, h4⟩
theorem xSince_is (d : Dy) (v : Vd) (a : Es) (u : Ve) (n : Nat) (c p : Int) (w : World) (h : DL w 0 d v) (hok : Ok d) (he : EL w 0 a u) (hea : Eok a) (hn : a.n = (n : Int)) (hc : 0 ≤ c ∧ c < 64) (hp : -1 ≤ p) :
    Calls Tryz.prog 34 #[.agg (gd d v), .agg (ge a u), .int .i64 c, .int .i64 p] w fun e w' => e = .returned (.tuple #[.int .i64 (on (siF d a n c p)), .bool (siF d a n c p).isSome]) ∧ Below w.heap.size w w' :=
  (xSince_any d v a u n c p w h hok he hea hn hc hp).mono fun e w' h => by
    obtain ⟨s, b, h1, h2, h3, h4⟩ := h
    obtain ⟨h5, h6⟩ := siOk_eq h2 h3
    rw [h1, h5, h6]
    exact ⟨rfl, h4⟩
/-- Exposures as cells. -/
def xv (L : List (Int × Nat)) : List Value := L.flatMap fun x => [.int .i64 x.1, .int .i64 (x.2 : Int)]
theorem xv_snoc (L : List (Int × Nat)) (p : Int) (T : Nat) : xv (L ++ [(p, T)]) = xv L ++ [.int .i64 p, .int .i64 (T : Int)] := by simp [xv]
/-- The exposures of everybody and of the first k principals. -/
noncomputable def exL (d : Dy) (a : Es) (n : Nat) (c : Int) : Nat → List (Int × Nat)
  | 0 => []
  | k + 1 => match siF d a n c ((k : Int) - 1) with
    | some T => exL d a n c k ++ [((k : Int) - 1, T)]
    | none => exL d a n c k
theorem exL_some {d : Dy} {a : Es} {n : Nat} {c : Int} {k T : Nat} (h : siF d a n c ((k : Int) - 1) = some T) : exL d a n c (k + 1) = exL d a n c k ++ [((k : Int) - 1, T)] := by rw [exL, h]
theorem exL_none {d : Dy} {a : Es} {n : Nat} {c : Int} {k : Nat} (h : siF d a n c ((k : Int) - 1) = none) : exL d a n c (k + 1) = exL d a n c k := by rw [exL, h]
theorem exL_len (d : Dy) (a : Es) (n : Nat) (c : Int) : ∀ k, (exL d a n c k).length ≤ k
  | 0 => Nat.le_refl _
  | k + 1 => by
    have ih := exL_len d a n c k
    cases h : siF d a n c ((k : Int) - 1) with
    | none => rw [exL_none h]; omega
    | some T => rw [exL_some h, List.length_append]; simp; omega
theorem zinfo70 : (Tryz.prog.info? 70).map (fun i => (i.zero, i.size, i.bytes)) = some (some (.agg #[.int .i64 0, .int .i64 0]), 2, 16) := by kernel_rfl
def AlPost (L : List (Int × Nat)) (w : World) (e : Ending) (w' : World) : Prop := ∃ A cc, e = .returned (.tuple #[.slice A L.length cc, .int .i64 0]) ∧ w'.ownsRow w.heap.size 70 2 (.slice A L.length cc) L.length (xv L) ∧ Below w.heap.size w w'
set_option maxRecDepth 100000 in
set_option maxHeartbeats 4000000 in
/-- The product's All. -/
theorem xall_any (d : Dy) (v : Vd) (a : Es) (u : Ve) (n : Nat) (c : Int) (w : World) (h : DL w 0 d v) (hok : Ok d) (he : EL w 0 a u) (hea : Eok a) (hn : a.n = (n : Int)) (hc : 0 ≤ c ∧ c < 64) :
    Calls Tryz.prog 27 #[.agg (gd d v), .agg (ge a u), .int .i64 c] w (AlPost (exL d a n c (d.k.length + 1)) w) := by
  have hbx := (box_below w (.cells (gd d v) 25)).trans ((box_below (w.alloc (.cells (gd d v) 25)) (.cells (ge a u) 28)).mono (by simp))
  have HBX := Lib.hid hbx
  have D1 := Lib.hid (heap_alloc2_old w (.cells (gd d v) 25) (.cells (ge a u) 28))
  have E1 := Lib.hid (heap_alloc2_new w (.cells (gd d v) 25) (.cells (ge a u) 28))
  obtain ⟨g0, g1⟩ := gdCells D1.out
  obtain ⟨c0, c1⟩ := geCells E1.out
  have HCK := Lib.hid (xcheck_ok d v a u c _ (h.below hbx) hok (Row.below he hbx) hea hc)
  have HSI := Lib.hid (fun w' (hb : Below w.heap.size w w') (p : Int) (hp : -1 ≤ p) => xsince_is d v a u n c p w' (h.below hb) hok (Row.below he hb) hea hn hc hp)
  have HFD := Lib.hid (show (#[.slice v.A1 d.k.length v.c1, .slice v.A2 d.e.length v.c2] : Array Value) = gd d v from rfl)
  have HFE := Lib.hid (show (#[.int .i64 a.n, .slice u.A a.e.length u.c] : Array Value) = ge a u from rfl)
  have hn24 := hok.n
  have lD := row_lt D1.out
  have lE := row_lt E1.out
  obtain ⟨j0, hj1, hy0, hy1, hy2⟩ := info_parts zinfo70
  have HJ := Lib.hid hj1
  have HJ0 := Lib.hid hy0
  have HJ1 := Lib.hid hy1
  have HJ2 := Lib.hid hy2
  have HXN := Lib.hid (fun k => exL_none (d := d) (a := a) (n := n) (c := c) (k := k))
  have HXS := Lib.hid (fun k T => exL_some (d := d) (a := a) (n := n) (c := c) (k := k) (T := T))
  have HXL := Lib.hid (exL_len d a n c)
  have HX0 := Lib.hid (show exL d a n c 0 = [] from rfl)
  unfold AlPost
  generalize exL d a n c = F at *
  clear h hok he hea hn hc hbx hj1 hy0 hy1 hy2
  go_enter Tryz.func27, Tryz.ntmps27
  go_wp2_with (go_at_call 68; rw [HFD.out, HFE.out]; refine HCK.out.mono ?_; rintro e w1 ⟨rfl, hb1⟩; have B1 := Lib.hid (HBX.out.trans (hb1.mono HBX.out.size)); have D2 := Lib.hid ((hb1.block _ lD).trans D1.out); have E2 := Lib.hid ((hb1.block _ lE).trans E1.out); clear hb1 g0 g1 c0 c1)
  go_loopw [9, 10] (fun ov pv wr => ∃ (k : Nat) (A' : Option Addr) (c' : Nat), k ≤ d.k.length + 1 ∧ ov = .slice A' (F k).length c' ∧ pv = .int .i64 ((k : Int) - 1) ∧ wr.ownsRow w1.heap.size 70 2 (.slice A' (F k).length c') (F k).length (xv (F k)) ∧ Below w1.heap.size w1 wr) (fun _ pv _ => ((d.k.length : Int) - intOf pv).toNat)
  case atStart => exact ⟨0, none, 0, by omega, by rw [HX0.out]; rfl, rfl, by rw [HX0.out]; exact own_nil _ _ _ _, Below.refl _ _⟩
  case round =>
    obtain ⟨k, A', c', hk, rfl, rfl, hown, hbl⟩ := hrel
    have HOW := Lib.hid hown
    have HBL := Lib.hid hbl
    have BR := Lib.hid (B1.out.trans (hbl.mono B1.out.size))
    have DR := Lib.hid ((hbl.block _ (row_lt D2.out)).trans D2.out)
    have ER := Lib.hid ((hbl.block _ (row_lt E2.out)).trans E2.out)
    obtain ⟨g0, g1⟩ := gdCells DR.out
    obtain ⟨c0, c1⟩ := geCells ER.out
    have hll := HXL.out k
    have HSK := Lib.hid (HSI.out wr BR.out ((k : Int) - 1) (by omega))
    have hxn := HXN.out k
    have hxs := HXS.out k
    clear hown hbl
    generalize siF d a n c ((k : Int) - 1) = o at *
    generalize hL : F k = L at *
    have HLK := Lib.hid hL
    clear hL
    obtain ⟨q, hq⟩ : ∃ q : Int, (k : Int) - 1 = q := ⟨_, rfl⟩
    have HQ := Lib.hid hq
    rw [hq] at HSK hxs ⊢
    by_cases hlt : k < d.k.length + 1
    · have dq : decide (q < (d.k.length : Int)) = true := decide_eq_true (by omega)
      have qw : IntKind.i64.wrap (q + 1) = (k : Int) := by rw [show q + 1 = (k : Int) by omega]; exact IntWalk.i64_in _ (by omega)
      cases o with
      | none =>
        have HN := Lib.hid (hxn rfl)
        replace HSK := Lib.hid (show Calls Tryz.prog 69 #[.agg (gd d v), .agg (ge a u), .int .i64 c, .int .i64 q] wr fun e w' => e = .returned (.tuple #[.int .i64 0, .bool false]) ∧ Below wr.heap.size wr w' from HSK.out)
        clear hxn hxs hq
        go_wp2_with (go_at_call 69; rw [HFD.out, HFE.out]; refine HSK.out.mono ?_; rintro e w3 ⟨rfl, hb3⟩; have B3 := Lib.hid (HBL.out.trans (hb3.mono HBL.out.size)); have O3 := Lib.hid (own_below HOW.out hb3); have hs3 := B3.out.size; clear hb3 g0 g1 c0 c1)
        exact ⟨⟨k + 1, A', c', by omega, by rw [HN.out], congrArg (Value.int .i64) (by omega), by rw [HN.out]; exact O3.out, B3.out⟩, by have := HQ.out; simp [intOf]; omega⟩
      | some T =>
        have HN := Lib.hid (hxs T rfl)
        replace HSK := Lib.hid (show Calls Tryz.prog 69 #[.agg (gd d v), .agg (ge a u), .int .i64 c, .int .i64 q] wr fun e w' => e = .returned (.tuple #[.int .i64 (T : Int), .bool true]) ∧ Below wr.heap.size wr w' from HSK.out)
        have HSV := Lib.hid (xv_snoc L q T)
        obtain ⟨ll, hll2⟩ : ∃ ll, L.length = ll := ⟨_, rfl⟩
        rw [hll2] at HOW hll ⊢
        have HLL := Lib.hid hll2
        clear hxn hxs hq hll2
        go_wp2_with (first
          | (go_at_call 69; rw [HFD.out, HFE.out]; refine HSK.out.mono ?_; rintro e w3 ⟨rfl, hb3⟩; have B3 := Lib.hid (HBL.out.trans (hb3.mono HBL.out.size)); have O3 := Lib.hid (own_below HOW.out hb3); have hs3 := B3.out.size; clear hb3 g0 g1 c0 c1)
          | (at_builtin; refine wpList_append_own _ rfl (.tmp 36) (.tmp 40) 59 rfl w1.heap.size 70 j0 (.agg #[.int .i64 0, .int .i64 0]) 2 16 Tryz.underlying59 HJ.out HJ0.out HJ1.out HJ2.out rfl (by decide) _ ll (xv L) rfl (O3.out.alloc _) ⟨w3.heap.size, 0, none⟩ 1 1 [.int .i64 q, .int .i64 (T : Int)] rfl rfl (World.news_of_block (heap_alloc_new w3 _)) (by simp [Value.oneCell']) (by unfold maxLen; omega) (by omega) (by simp; omega) ?_; intro v' w6 hown6 hgr _; obtain ⟨A6, c6, rfl⟩ := own_form hown6; have O6 := Lib.hid hown6; have B6 := Lib.hid ((B3.out.trans ((box_below _ _).mono B3.out.size)).grown hgr (by simp; omega) (fun g e => (O3.out.lt g e).1)); clear hown6 hgr))
        exact ⟨⟨k + 1, A6, c6, by omega, by rw [HN.out, List.length_append, HLL.out]; rfl, congrArg (Value.int .i64) (by omega), by rw [HN.out, List.length_append, HLL.out, HSV.out]; exact O6.out, B6.out⟩, by have := HQ.out; simp [intOf]; omega⟩
    · obtain rfl : k = d.k.length + 1 := by omega
      have dq : decide (q < (d.k.length : Int)) = false := decide_eq_false (by omega)
      clear hxn hxs hq
      go_wp2_with fail
      go_ret2
      exact ⟨A', c', by first | rfl | simp [HLK.out], by rw [HLK.out]; exact own_base HOW.out (by have := B1.out.size; omega), B1.out.trans (HBL.out.mono B1.out.size)⟩

end Go.Proofs.YtgknfkmojhganaaGreat.Di

namespace Go.Proofs.YtgknfkmojhganaaGreat.Di
open Go.RowKit
open Go.Proofs.YtgknfkmojhganaaGreat.Tp
set_option linter.unusedVariables false
set_option linter.unusedSimpArgs false

/-- A leak as cells. -/
def lkc (W : Option Addr) (n c : Nat) (P t l g : Int) (A : Option Addr) (m k : Nat) : Array Value := #[.slice W n c, .int .i64 P, .int .i64 t, .int .i64 l, .int .i64 g, .slice A m k]
theorem lkc_one (W : Option Addr) (n c : Nat) (P t l g : Int) (A : Option Addr) (m k : Nat) : (lkc W n c P t l g A m k).all (·.oneCell') = true := by simp [lkc, Value.oneCell']
theorem info66 (W : Option Addr) (n c : Nat) (P t l g : Int) (A : Option Addr) (m k : Nat) : (Tryz.prog.info? 66).map (·.size) = some (lkc W n c P t l g A m k).size := by
  have h : (Tryz.prog.info? 66).map (·.size) = some 6 := by kernel_rfl
  exact h
theorem lkcCells {w : World} {W : Option Addr} {n c : Nat} {P t l g : Int} {A : Option Addr} {m k : Nat} {ty : TypeId} {o : Nat × Nat} {b : Nat} (h : w.heap[b]? = some (.cells (lkc W n c P t l g A m k) ty o)) :
    w.cell? ⟨b, 0, none⟩ = some (.slice W n c) ∧ w.cell? ⟨b, 1, none⟩ = some (.int .i64 P) ∧ w.cell? ⟨b, 2, none⟩ = some (.int .i64 t) ∧ w.cell? ⟨b, 3, none⟩ = some (.int .i64 l) ∧ w.cell? ⟨b, 4, none⟩ = some (.int .i64 g) ∧ w.cell? ⟨b, 5, none⟩ = some (.slice A m k) := by
  refine ⟨?_, ?_, ?_, ?_, ?_, ?_⟩ <;> rw [cell_of_row _ _ _ _ _ _ h] <;> rfl
/-- What a leak tells. -/
structure Lkp (d : Dy) (a : Es) (n : Nat) (c p : Int) (T P : Nat) (lk gk : Int) (L : List Nat) : Prop where
  si : siF d a n c p = some T
  pn : P < n
  is : wB a c (T : Int) P = true
  may : xB d a p P T = true
  all : p = -1 → lk = on (lkA a.e (P : Int) (T : Int)) ∧ gk = -1 ∧ L = []
  one : p ≠ -1 → Rdg d a p.toNat P T lk gk L
def LqPost (d : Dy) (a : Es) (n : Nat) (c p : Int) (w : World) (e : Ending) (w' : World) : Prop :=
  (siF d a n c p = none ∧ e = .returned (.tuple #[.agg (lkc none 0 0 0 0 0 0 none 0 0), .bool false]) ∧ Below w.heap.size w w') ∨
  (∃ (T P : Nat) (lk gk : Int) (L : List Nat) (W : Option Addr) (cc : Nat) (A : Option Addr) (k : Nat), e = .returned (.tuple #[.agg (lkc W (wyA a.e c (T : Int) (P : Int)).length cc (P : Int) (T : Int) lk gk A L.length k), .bool true]) ∧ Lkp d a n c p T P lk gk L ∧ Row w' 0 1 W (wyA a.e c (T : Int) (P : Int)).length (iv (wyA a.e c (T : Int) (P : Int))) ∧ L.length ≤ k ∧ Row w' 0 1 A L.length (iv L) ∧ Below w.heap.size w w')
set_option maxRecDepth 100000 in
set_option maxHeartbeats 8000000 in
/-- The product's Why. -/
theorem xwhy_any (d : Dy) (v : Vd) (a : Es) (u : Ve) (n : Nat) (c p : Int) (w : World) (h : DL w 0 d v) (hok : Ok d) (he : EL w 0 a u) (hea : Eok a) (hn : a.n = (n : Int)) (hc : 0 ≤ c ∧ c < 64) (hp : -1 ≤ p) :
    Calls Tryz.prog 30 #[.agg (gd d v), .agg (ge a u), .int .i64 c, .int .i64 p] w (LqPost d a n c p w) := by
  have hbx := (box_below w (.cells (gd d v) 25)).trans ((box_below (w.alloc (.cells (gd d v) 25)) (.cells (ge a u) 28)).mono (by simp))
  have hw1 : ((w.alloc (.cells (gd d v) 25)).alloc (.cells (ge a u) 28)).heap.size = w.heap.size + 1 + 1 := by simp
  have D1 := heap_alloc2_old w (.cells (gd d v) 25) (.cells (ge a u) 28)
  have E1 := heap_alloc2_new w (.cells (gd d v) 25) (.cells (ge a u) 28)
  have hbz := box_below ((w.alloc (.cells (gd d v) 25)).alloc (.cells (ge a u) 28)) (.cells #[.slice none 0 0, .int .i64 0, .int .i64 0, .int .i64 0, .int .i64 0, .slice none 0 0] 66)
  have hbxz := hbx.trans (hbz.mono hbx.size)
  have HBX := Lib.hid hbxz
  have D2 := Lib.hid ((hbz.block _ (row_lt D1)).trans D1)
  have E2 := Lib.hid ((hbz.block _ (row_lt E1)).trans E1)
  have Z2 := heap_alloc_new ((w.alloc (.cells (gd d v) 25)).alloc (.cells (ge a u) 28)) (.cells #[.slice none 0 0, .int .i64 0, .int .i64 0, .int .i64 0, .int .i64 0, .slice none 0 0] 66)
  rw [hw1] at Z2
  have HZ := Lib.hid Z2
  obtain ⟨g0, g1⟩ := gdCells D2.out
  obtain ⟨c0, c1⟩ := geCells E2.out
  have HSI := Lib.hid (xSince_is d v a u n c p _ (h.below hbxz) hok (Row.below he hbxz) hea hn hc hp)
  have HFD := Lib.hid (show (#[.slice v.A1 d.k.length v.c1, .slice v.A2 d.e.length v.c2] : Array Value) = gd d v from rfl)
  have HFE := Lib.hid (show (#[.int .i64 a.n, .slice u.A a.e.length u.c] : Array Value) = ge a u from rfl)
  have lD := row_lt D2.out
  have lE := row_lt E2.out
  have lZ := row_lt Z2
  unfold LqPost
  cases hsi : siF d a n c p with
  | none =>
    rw [hsi] at HSI
    replace HSI := Lib.hid (show Calls Tryz.prog 34 #[.agg (gd d v), .agg (ge a u), .int .i64 c, .int .i64 p] (((w.alloc (.cells (gd d v) 25)).alloc (.cells (ge a u) 28)).alloc (.cells #[.slice none 0 0, .int .i64 0, .int .i64 0, .int .i64 0, .int .i64 0, .slice none 0 0] 66)) fun e w' => e = .returned (.tuple #[.int .i64 0, .bool false]) ∧ Below (((w.alloc (.cells (gd d v) 25)).alloc (.cells (ge a u) 28)).alloc (.cells #[.slice none 0 0, .int .i64 0, .int .i64 0, .int .i64 0, .int .i64 0, .slice none 0 0] 66)).heap.size (((w.alloc (.cells (gd d v) 25)).alloc (.cells (ge a u) 28)).alloc (.cells #[.slice none 0 0, .int .i64 0, .int .i64 0, .int .i64 0, .int .i64 0, .slice none 0 0] 66)) w' from HSI.out)
    clear h hok he hea hn hc hp hbx hbz hbxz hw1 D1 E1 Z2 hsi
    go_enter Tryz.func30, Tryz.ntmps30
    go_wp2_with (first
      | (go_at_call 34; rw [HFD.out, HFE.out]; refine HSI.out.mono ?_; rintro e w1 ⟨rfl, hb1⟩; have B1 := Lib.hid (HBX.out.trans (hb1.mono HBX.out.size)); have Z9 := Lib.hid ((hb1.block _ lZ).trans HZ.out); clear hb1 g0 g1 c0 c1)
      | (with_reducible (show wpList _ _ _ (⟨none, .store 66 (.tmp 8) (.tmp 30), _, _, _, _⟩ :: _) _ _); refine wpList_store_row (o := ⟨none, .store 66 (.tmp 8) (.tmp 30), _, _, _, _⟩) rfl 66 (.tmp 8) (.tmp 30) rfl (w.heap.size + 1 + 1) (lkc none 0 0 0 0 0 0 none 0 0) rfl rfl 66 #[.slice none 0 0, .int .i64 0, .int .i64 0, .int .i64 0, .int .i64 0, .slice none 0 0] Z9.out (info66 _ _ _ _ _ _ _ _ _ _) rfl (lkc_one _ _ _ _ _ _ _ _ _ _) ?_))
    refine bodyPost_ret (v := .tuple #[.agg (lkc none 0 0 0 0 0 0 none 0 0), .bool false]) (results_cell_row2 (fn := Tryz.f30) (p := 8) (u := 9) rfl _ _ (w.heap.size + 1 + 1) 66 (lkc none 0 0 0 0 0 0 none 0 0) (0, 0) _ rfl (setRow_heap _ _ _ _ _ _ Z9.out) Tryz.underlying66 rfl (info66 _ _ _ _ _ _ _ _ _ _)) rfl ?_
    exact .inl ⟨by first | rfl | trivial, rfl, below_setRow B1.out (by omega) _⟩
  | some T =>
    rw [hsi] at HSI
    replace HSI := Lib.hid (show Calls Tryz.prog 34 #[.agg (gd d v), .agg (ge a u), .int .i64 c, .int .i64 p] (((w.alloc (.cells (gd d v) 25)).alloc (.cells (ge a u) 28)).alloc (.cells #[.slice none 0 0, .int .i64 0, .int .i64 0, .int .i64 0, .int .i64 0, .slice none 0 0] 66)) fun e w' => e = .returned (.tuple #[.int .i64 (T : Int), .bool true]) ∧ Below (((w.alloc (.cells (gd d v) 25)).alloc (.cells (ge a u) 28)).alloc (.cells #[.slice none 0 0, .int .i64 0, .int .i64 0, .int .i64 0, .int .i64 0, .slice none 0 0] 66)).heap.size (((w.alloc (.cells (gd d v) 25)).alloc (.cells (ge a u) 28)).alloc (.cells #[.slice none 0 0, .int .i64 0, .int .i64 0, .int .i64 0, .int .i64 0, .slice none 0 0] 66)) w' from HSI.out)
    have hle := siF_is hsi
    have HSF := Lib.hid hsi
    have hwh := fun w' (hb : Below w.heap.size w w') => xwhere_any d v a u n c p T w' (h.below hb) hok (Row.below he hb) hea hn hc hp
    rw [hle.2.1] at hwh
    have HWH := Lib.hid hwh
    have hwy := fun (P : Nat) (hP : P < n) w' (hb : Below w.heap.size w w') => way_any a u c (T : Int) P n w' (Row.below he hb) hea hn hP hc
    unfold WaPost at hwy
    have HWY := Lib.hid hwy
    by_cases hp1 : p = -1
    · subst hp1
      have HLK := Lib.hid (fun (P : Nat) (hP : P < n) w' (hb : Below w.heap.size w w') => linked_yes a u (P : Int) (T : Int) w' (Row.below he hb) ⟨hea, by omega, by omega⟩)
      have HN := Lib.hid hn
      clear h hok he hea hn hc hp hbx hbz hbxz hw1 D1 E1 Z2 hsi hle hwh hwy
      go_enter Tryz.func30, Tryz.ntmps30
      go_wp2_with (first
        | (go_at_call 34; rw [HFD.out, HFE.out]; refine HSI.out.mono ?_; rintro e w1 ⟨rfl, hb1⟩; have B1 := Lib.hid (HBX.out.trans (hb1.mono HBX.out.size)); have D3 := Lib.hid ((hb1.block _ lD).trans D2.out); have E3 := Lib.hid ((hb1.block _ lE).trans E2.out); have Z3 := Lib.hid ((hb1.block _ lZ).trans HZ.out); clear hb1 g0 g1 c0 c1; obtain ⟨g0, g1⟩ := gdCells D3.out; obtain ⟨c0, c1⟩ := geCells E3.out)
        | (go_at_call 73; rw [HFD.out, HFE.out]; refine (HWH.out _ B1.out).mono ?_; rintro e w2 ⟨z, rfl, hz, hb2⟩; obtain ⟨P, rfl, hPn, hPw, hPx⟩ := hz (by first | rfl | trivial); have KN := Lib.hid hPn; have KW := Lib.hid hPw; have KX := Lib.hid hPx; have B2 := Lib.hid (B1.out.trans (hb2.mono B1.out.size)); have E4 := Lib.hid ((hb2.block _ (row_lt E3.out)).trans E3.out); have Z4 := Lib.hid ((hb2.block _ (row_lt Z3.out)).trans Z3.out); clear hb2 hz hPn hPw hPx g0 g1 c0 c1; obtain ⟨c0, c1⟩ := geCells E4.out)
        | (go_at_call 74; rw [HFE.out]; refine (HWY.out _ KN.out _ B2.out).mono ?_; rintro e w3 ⟨W, cc, rfl, hrow, hb3⟩; have RW := Lib.hid (row_of_own hrow); have l2 := row_lt Z4.out; have B3 := Lib.hid (B2.out.trans (hb3.mono B2.out.size)); have E5 := Lib.hid ((hb3.block _ (row_lt E4.out)).trans E4.out); have Z5 := Lib.hid ((hb3.block _ (row_lt Z4.out)).trans Z4.out); clear hb3 hrow c0 c1; obtain ⟨c0, c1⟩ := geCells E5.out)
        | (go_at_call 46; rw [HFE.out]; refine (HLK.out _ KN.out _ B3.out).mono ?_; rintro e w4 ⟨rfl, hb4⟩; have B4 := Lib.hid (B3.out.trans (hb4.mono B3.out.size)); have Z9 := Lib.hid ((hb4.block _ (row_lt Z5.out)).trans Z5.out); have RW4 := Lib.hid (RW.out.below hb4); clear hb4 c0 c1)
        | (with_reducible (show wpList _ _ _ (⟨none, .store 66 (.tmp 8) (.tmp 62), _, _, _, _⟩ :: _) _ _); refine wpList_store_row (o := ⟨none, .store 66 (.tmp 8) (.tmp 62), _, _, _, _⟩) rfl 66 (.tmp 8) (.tmp 62) rfl (w.heap.size + 1 + 1) (lkc W (wyA a.e c (T : Int) (P : Int)).length cc (P : Int) (T : Int) (on (lkA a.e (P : Int) (T : Int))) (-1) none 0 0) rfl rfl 66 #[.slice none 0 0, .int .i64 0, .int .i64 0, .int .i64 0, .int .i64 0, .slice none 0 0] Z9.out (info66 _ _ _ _ _ _ _ _ _ _) rfl (lkc_one _ _ _ _ _ _ _ _ _ _) ?_))
      refine bodyPost_ret (v := .tuple #[.agg (lkc W (wyA a.e c (T : Int) (P : Int)).length cc (P : Int) (T : Int) (on (lkA a.e (P : Int) (T : Int))) (-1) none 0 0), .bool true]) (results_cell_row2 (fn := Tryz.f30) (p := 8) (u := 9) rfl _ _ (w.heap.size + 1 + 1) 66 (lkc W (wyA a.e c (T : Int) (P : Int)).length cc (P : Int) (T : Int) (on (lkA a.e (P : Int) (T : Int))) (-1) none 0 0) (0, 0) _ rfl (setRow_heap _ _ _ _ _ _ Z9.out) Tryz.underlying66 rfl (info66 _ _ _ _ _ _ _ _ _ _)) rfl ?_
      exact .inr ⟨T, P, _, -1, [], W, cc, none, 0, rfl, ⟨HSF.out, KN.out, KW.out, KX.out, fun _ => ⟨rfl, rfl, rfl⟩, fun h => absurd rfl h⟩, (RW4.out.set l2 _).base (Nat.zero_le _), Nat.le_refl _, row_none _ _ _, below_setRow B4.out (by omega) _⟩
    · obtain ⟨q, rfl⟩ : ∃ q : Nat, p = (q : Int) := ⟨p.toNat, by omega⟩
      have e1 : ((q : Int) == -1) = false := beq_eq_false_iff_ne.2 hp1
      have hry := fun (P : Nat) (hP : P < n) w' (hb : Below w.heap.size w w') => whyr_any d v a u q P T w' (h.below hb) hok (Row.below he hb) hea (by omega)
      unfold RyPost at hry
      have HRY := Lib.hid hry
      have HXM := Lib.hid (fun P (hx : xB d a (q : Int) P T = true) => (show mayB d a q P T = true from by unfold xB at hx; rw [if_neg hp1] at hx; exact hx))
      have HP1 := Lib.hid hp1
      clear h hok he hea hn hc hp hbx hbz hbxz hw1 D1 E1 Z2 hsi hle hwh hwy hry hp1
      go_enter Tryz.func30, Tryz.ntmps30
      go_wp2_with (first
        | (go_at_call 34; rw [HFD.out, HFE.out]; refine HSI.out.mono ?_; rintro e w1 ⟨rfl, hb1⟩; have B1 := Lib.hid (HBX.out.trans (hb1.mono HBX.out.size)); have D3 := Lib.hid ((hb1.block _ lD).trans D2.out); have E3 := Lib.hid ((hb1.block _ lE).trans E2.out); have Z3 := Lib.hid ((hb1.block _ lZ).trans HZ.out); clear hb1 g0 g1 c0 c1; obtain ⟨g0, g1⟩ := gdCells D3.out; obtain ⟨c0, c1⟩ := geCells E3.out)
        | (go_at_call 73; rw [HFD.out, HFE.out]; refine (HWH.out _ B1.out).mono ?_; rintro e w2 ⟨z, rfl, hz, hb2⟩; obtain ⟨P, rfl, hPn, hPw, hPx⟩ := hz (by first | rfl | trivial); have KN := Lib.hid hPn; have KW := Lib.hid hPw; have KX := Lib.hid hPx; have B2 := Lib.hid (B1.out.trans (hb2.mono B1.out.size)); have D4 := Lib.hid ((hb2.block _ (row_lt D3.out)).trans D3.out); have E4 := Lib.hid ((hb2.block _ (row_lt E3.out)).trans E3.out); have Z4 := Lib.hid ((hb2.block _ (row_lt Z3.out)).trans Z3.out); clear hb2 hz hPn hPw hPx g0 g1 c0 c1; obtain ⟨c0, c1⟩ := geCells E4.out)
        | (go_at_call 74; rw [HFE.out]; refine (HWY.out _ KN.out _ B2.out).mono ?_; rintro e w3 ⟨W, cc, rfl, hrow, hb3⟩; have RW := Lib.hid (row_of_own hrow); have l2 := row_lt Z4.out; have B3 := Lib.hid (B2.out.trans (hb3.mono B2.out.size)); have D5 := Lib.hid ((hb3.block _ (row_lt D4.out)).trans D4.out); have E5 := Lib.hid ((hb3.block _ (row_lt E4.out)).trans E4.out); have Z5 := Lib.hid ((hb3.block _ (row_lt Z4.out)).trans Z4.out); clear hb3 hrow c0 c1; obtain ⟨g0, g1⟩ := gdCells D5.out; obtain ⟨c0, c1⟩ := geCells E5.out)
        | (go_at_call 17; rw [HFD.out, HFE.out]; refine (HRY.out _ KN.out _ B3.out).mono ?_; rintro e w4 hpo; rcases hpo with ⟨hno, -⟩ | ⟨-, lk, gk, L, A, k, rfl, hLk, hrd, hrow4, hb4⟩; exact absurd (hno.symm.trans (HXM.out P KX.out)) (by decide); have HLK := Lib.hid hLk; have HRG := Lib.hid hrd; obtain ⟨ln, hln⟩ : ∃ ln, L.length = ln := ⟨_, rfl⟩; have HLN := Lib.hid hln; have lz3 := row_lt Z5.out; have hbn := box_below w4 (.cells (rc (P : Int) (T : Int) lk gk A ln k) 30); have hb5 := hb4.trans (hbn.mono hb4.size); have RL := Lib.hid (hrow4.below hbn); rw [hln] at RL ⊢; have B5 := Lib.hid (B3.out.trans (hb5.mono B3.out.size)); have Z9 := Lib.hid ((hb5.block _ lz3).trans Z5.out); have RW5 := Lib.hid (RW.out.below hb5); have N9 := Lib.hid (heap_alloc_new w4 (.cells (rc (P : Int) (T : Int) lk gk A ln k) 30)); obtain ⟨r0, r1, r2, r3, r4⟩ := rcCells N9.out; clear hb4 hb5 hbn g0 g1 c0 c1 hLk hrd hrow4 hln)
        | (with_reducible (show wpList _ _ _ (⟨none, .store 30 (.tmp 18) (.tmp 70), _, _, _, _⟩ :: _) _ _); refine wpList_store_row (o := ⟨none, .store 30 (.tmp 18) (.tmp 70), _, _, _, _⟩) rfl 30 (.tmp 18) (.tmp 70) rfl w4.heap.size (rc (P : Int) (T : Int) lk gk A ln k) rfl rfl 30 #[.int .i64 0, .int .i64 0, .int .i64 0, .int .i64 0, .slice none 0 0] (heap_alloc_new _ _) (info37 _ _ _ _ _ _ _) rfl (rc_one _ _ _ _ _ _ _) ?_; rw [new_set])
        | (with_reducible (show wpList _ _ _ (⟨none, .store 66 (.tmp 8) (.tmp 74), _, _, _, _⟩ :: _) _ _); refine wpList_store_row (o := ⟨none, .store 66 (.tmp 8) (.tmp 74), _, _, _, _⟩) rfl 66 (.tmp 8) (.tmp 74) rfl (w.heap.size + 1 + 1) (lkc W (wyA a.e c (T : Int) (P : Int)).length cc (P : Int) (T : Int) lk gk A ln k) rfl rfl 66 #[.slice none 0 0, .int .i64 0, .int .i64 0, .int .i64 0, .int .i64 0, .slice none 0 0] Z9.out (info66 _ _ _ _ _ _ _ _ _ _) rfl (lkc_one _ _ _ _ _ _ _ _ _ _) ?_))
      refine bodyPost_ret (v := .tuple #[.agg (lkc W (wyA a.e c (T : Int) (P : Int)).length cc (P : Int) (T : Int) lk gk A ln k), .bool true]) (results_cell_row2 (fn := Tryz.f30) (p := 8) (u := 9) rfl _ _ (w.heap.size + 1 + 1) 66 (lkc W (wyA a.e c (T : Int) (P : Int)).length cc (P : Int) (T : Int) lk gk A ln k) (0, 0) _ rfl (setRow_heap _ _ _ _ _ _ Z9.out) Tryz.underlying66 rfl (info66 _ _ _ _ _ _ _ _ _ _)) rfl ?_
      exact .inr ⟨T, P, lk, gk, L, W, cc, A, k, by rw [HLN.out], ⟨HSF.out, KN.out, KW.out, KX.out, fun h => absurd h HP1.out, fun _ => HRG.out⟩, (RW5.out.set l2 _).base (Nat.zero_le _), HLK.out, by rw [HLN.out]; exact (RL.out.set lz3 _).base (Nat.zero_le _), below_setRow B5.out (by omega) _⟩

end Go.Proofs.YtgknfkmojhganaaGreat.Di

namespace Go.Proofs.YtgknfkmojhganaaGreat.Di
open Go.RowKit
open Go.Proofs.YtgknfkmojhganaaGreat.Tp
set_option linter.unusedVariables false
set_option linter.unusedSimpArgs false

set_option maxRecDepth 100000 in
set_option maxHeartbeats 8000000 in
/-- The reference finds that a reading by a grant of one's own proves. -/
theorem rread_one (d : Dy) (v : Vd) (a : Es) (u : Ve) (p P t gk cs : Nat) (As : Option Addr) (w : World) (h : DL w 0 d v) (hok : Ok d) (he : EL w 0 a u) (hea : Eok a) (hP : (P : Int) < a.n)
    (hrb : rB d p = true) (hgr : grA a.e (P : Int) (t : Int) (p : Int) = some gk) (hl : Row w 0 1 As 1 (iv [p])) (hcs : 1 ≤ cs) :
    Calls Tryz.prog 20 #[.agg (gd d v), .agg (ge a u), .int .i64 (p : Int), .agg (rc (P : Int) (t : Int) (-1) (gk : Int) As 1 cs)] w fun e w' => e = .returned (.bool true) ∧ Below w.heap.size w w' := by
  obtain ⟨A, vc⟩ := u
  have hbx := (box_below w (.cells (gd d v) 25)).trans ((box_below (w.alloc (.cells (gd d v) 25)) (.cells (ge a ⟨A, vc⟩) 28)).mono (by simp))
  have hw1 : ((w.alloc (.cells (gd d v) 25)).alloc (.cells (ge a ⟨A, vc⟩) 28)).heap.size = w.heap.size + 1 + 1 := by simp
  have D1 := heap_alloc2_old w (.cells (gd d v) 25) (.cells (ge a ⟨A, vc⟩) 28)
  have E1 := heap_alloc2_new w (.cells (gd d v) 25) (.cells (ge a ⟨A, vc⟩) 28)
  have hn := hok.n
  have hbz := box_below ((w.alloc (.cells (gd d v) 25)).alloc (.cells (ge a ⟨A, vc⟩) 28)) (.cells (rc (P : Int) (t : Int) (-1) (gk : Int) As 1 cs) 30)
  have hbxz := hbx.trans (hbz.mono hbx.size)
  have HBX := Lib.hid hbxz
  have D2 := Lib.hid ((hbz.block _ (row_lt D1)).trans D1)
  have E2 := Lib.hid ((hbz.block _ (row_lt E1)).trans E1)
  have Z2 := heap_alloc_new ((w.alloc (.cells (gd d v) 25)).alloc (.cells (ge a ⟨A, vc⟩) 28)) (.cells (rc (P : Int) (t : Int) (-1) (gk : Int) As 1 cs) 30)
  rw [hw1] at Z2
  have HZ := Lib.hid Z2
  obtain ⟨g0, g1⟩ := gdCells D2.out
  obtain ⟨c0, c1⟩ := geCells E2.out
  obtain ⟨r0, r1, r2, r3, r4⟩ := rcCells Z2
  have HVA := Lib.hid (rvalid_any d v _ (h.below hbxz) hok)
  have HPL := Lib.hid (fun w' (hb : Below w.heap.size w w') => place_yes a ⟨A, vc⟩ (P : Int) w' (vay_of (Row.below he hb) hea) ⟨hea.n1, hea.n16⟩ ⟨by omega, hP⟩)
  have hrd := fun w' (hb : Below w.heap.size w w') => reader_any 0 d v p w' (h.below hb) (by omega)
  rw [hrb] at hrd
  have HRD := Lib.hid hrd
  have hrg := fun w' (hb : Below w.heap.size w w') => rGrant_any a ⟨A, vc⟩ (P : Int) (p : Int) (t : Int) w' (Row.below he hb) hea ⟨by omega, hP⟩
  rw [hgr] at hrg
  have HRG := Lib.hid hrg
  have hgl := gr_lt _ _ _ _ _ _ hgr
  obtain ⟨x1, x2, x3, x4, -⟩ := gr_is _ _ _ _ _ _ hgr
  have HEV := Lib.hid (fun w' (hb : Below w.heap.size w w') => Row.ac (Row.below he hb) hgl)
  have HLV := Lib.hid (fun w' (hb : Below w.heap.size w w') i (hi : i < 1) => (Row.below hl hb).int hi)
  have hm := hea.m
  have HFD := Lib.hid (show (#[.slice v.A1 d.k.length v.c1, .slice v.A2 d.e.length v.c2] : Array Value) = gd d v from rfl)
  have HFE := Lib.hid (show (#[.int .i64 a.n, .slice A a.e.length vc] : Array Value) = ge a ⟨A, vc⟩ from rfl)
  have lD := row_lt D2.out
  have lE := row_lt E2.out
  have lZ := row_lt Z2
  clear h hok he hea hP hrb hgr hl hbx hbz hbxz hw1 D1 E1 Z2 hrd hrg
  go_enter Tryz.func20, Tryz.ntmps20
  go_wp2_with (first
    | (go_at_call 41; rw [HFD.out]; refine HVA.out.mono ?_; rintro e w1 ⟨rfl, hb1⟩; have B1 := Lib.hid (HBX.out.trans (hb1.mono HBX.out.size)); have D3 := Lib.hid ((hb1.block _ lD).trans D2.out); have E3 := Lib.hid ((hb1.block _ lE).trans E2.out); have Z3 := Lib.hid ((hb1.block _ lZ).trans HZ.out); clear hb1 g0 g1 c0 c1 r0 r1 r2 r3 r4; obtain ⟨c0, c1⟩ := geCells E3.out; obtain ⟨r0, r1, r2, r3, r4⟩ := rcCells Z3.out)
    | (go_at_call 42; rw [HFE.out]; refine (HPL.out _ B1.out).mono ?_; rintro e w2 ⟨rfl, hb2⟩; have B2 := Lib.hid (B1.out.trans (hb2.mono B1.out.size)); have D4 := Lib.hid ((hb2.block _ (row_lt D3.out)).trans D3.out); have E4 := Lib.hid ((hb2.block _ (row_lt E3.out)).trans E3.out); have Z4 := Lib.hid ((hb2.block _ (row_lt Z3.out)).trans Z3.out); clear hb2 c0 c1 r0 r1 r2 r3 r4; obtain ⟨g0, g1⟩ := gdCells D4.out))
  rw [HFD.out]
  refine (HRD.out _ B2.out).mono ?_
  rintro e w3 ⟨rfl, hb3⟩
  have B3 := Lib.hid (B2.out.trans (hb3.mono B2.out.size))
  have D5 := Lib.hid ((hb3.block _ (row_lt D4.out)).trans D4.out)
  have E5 := Lib.hid ((hb3.block _ (row_lt E4.out)).trans E4.out)
  have Z5 := Lib.hid ((hb3.block _ (row_lt Z4.out)).trans Z4.out)
  clear hb3 g0 g1
  obtain ⟨bw, ow, hAs, -, lbw, y9⟩ := HLV.out w3 B3.out 0 (by omega)
  replace y9 : World.cell? _ _ = some (.int .i64 (p : Int)) := y9
  subst hAs
  rw [Nat.add_zero] at y9
  obtain ⟨b, off, hA, -, hbk, hac⟩ := HEV.out w3 B3.out
  have hA : A = some ⟨b, off, none⟩ := hA
  subst hA
  obtain ⟨y0, y1, y2, y3, y4, y5, y6⟩ := hac
  obtain ⟨c0, c1⟩ := geCells E5.out
  obtain ⟨r0, r1, r2, r3, r4⟩ := rcCells Z5.out
  generalize ag a.e gk = x at *
  obtain ⟨xt, xk, xp, xr, xu, xc, xf⟩ := x
  simp only at y0 y1 y2 y3 y4 y5 y6 x1 x2 x3 x4
  subst x1 x2 x3
  have hbx := box_below w3 (.cells #[.int .i64 xt, .int .i64 1, .int .i64 (P : Int), .int .i64 (p : Int), .int .i64 xu, .int .i64 xc, .int .i64 xf] 76)
  have XN := heap_alloc_new w3 (.cells #[.int .i64 xt, .int .i64 1, .int .i64 (P : Int), .int .i64 (p : Int), .int .i64 xu, .int .i64 xc, .int .i64 xf] 76)
  obtain ⟨n0, n1, n2, n3, n4, n5, n6⟩ := accCells (x := ⟨xt, 1, (P : Int), (p : Int), xu, xc, xf⟩) XN
  simp only at n0 n1 n2 n3 n4 n5 n6
  have B6 := Lib.hid (B3.out.trans (hbx.mono B3.out.size))
  have D6 := Lib.hid ((hbx.block _ (row_lt D5.out)).trans D5.out)
  have E6 := Lib.hid ((hbx.block _ (row_lt E5.out)).trans E5.out)
  have Z6 := Lib.hid ((hbx.block _ (row_lt Z5.out)).trans Z5.out)
  have XM := Lib.hid XN
  obtain ⟨s0, s1, s2, s3, s4⟩ := rcCells Z6.out
  obtain ⟨t0, t1⟩ := geCells E6.out
  obtain ⟨bw2, ow2, hAs2, -, -, z9⟩ := HLV.out _ B6.out 0 (by omega)
  cases hAs2
  replace z9 : World.cell? _ _ = some (.int .i64 (p : Int)) := z9
  rw [Nat.add_zero] at z9
  have d1 : decide ((gk : Int) < 0) = false := decide_eq_false (by omega)
  have d2 : decide ((a.e.length : Int) ≤ (gk : Int)) = false := decide_eq_false (by omega)
  have d2n : ¬ a.e.length ≤ gk := by omega
  have e1 : ((p : Int) != (p : Int)) = false := by simp
  have e2 : ((P : Int) != (P : Int)) = false := by simp
  have e4 : decide ((t : Int) < xt) = false := decide_eq_false (by omega)
  have i0 : (0 : Int) ≤ (gk : Int) := by omega
  have i1 : (gk : Int) < (a.e.length : Int) := by omega
  clear hbx XN
  go_wp2_with fail
  go_quiet (fail)
  go_wp2_with (first
    | (go_at_call 53; rw [HFE.out]; refine (HRG.out _ (below_dn3 B6.out _)).mono ?_; rintro e w8 ⟨⟨z, rfl⟩, hb8⟩; have B8 := Lib.hid ((below_dn3 B6.out _).trans (hb8.mono (below_dn3 B6.out _).size)); have Z8 := (hb8.block _ (row_lt Z6.out)).trans Z6.out; have D8 := (hb8.block _ (row_lt D6.out)).trans D6.out; clear hb8 c0 c1 r0 r1 r2 r3 r4 s0 s1 s2 s3 s4 t0 t1; obtain ⟨r0, r1, r2, r3, r4⟩ := rcCells Z8; obtain ⟨g0, g1⟩ := gdCells D8; (try simp only [Option.isSome])))
  go_ret
  exact ⟨by first | rfl | simp, B8.out⟩

end Go.Proofs.YtgknfkmojhganaaGreat.Di

namespace Go.Proofs.YtgknfkmojhganaaGreat.Di
open Go.RowKit
open Go.Proofs.YtgknfkmojhganaaGreat.Tp
set_option linter.unusedVariables false
set_option linter.unusedSimpArgs false

theorem xv_len (L : List (Int × Nat)) : (xv L).length = L.length * 2 := by
  induction L with
  | nil => rfl
  | cons x L ih => simp only [xv, List.flatMap_cons, List.length_append, List.length_cons, List.length_nil] at ih ⊢; omega
def xg (L : List (Int × Nat)) (j : Nat) : Int × Nat := L.getD j (0, 0)
theorem xv_at (L : List (Int × Nat)) : ∀ j, j < L.length → (xv L)[j * 2]? = some (.int .i64 (xg L j).1) ∧ (xv L)[j * 2 + 1]? = some (.int .i64 ((xg L j).2 : Int)) := by
  induction L with
  | nil => intro j h; simp at h
  | cons x L ih =>
    intro j h
    have e : xv (x :: L) = [.int .i64 x.1, .int .i64 (x.2 : Int)] ++ xv L := by simp [xv]
    rw [e]
    cases j with
    | zero => exact ⟨rfl, rfl⟩
    | succ j =>
      obtain ⟨h1, h2⟩ := ih j (by simpa using h)
      have e2 : xg (x :: L) (j + 1) = xg L j := rfl
      rw [e2]
      refine ⟨?_, ?_⟩
      · rw [List.getElem?_append_right (by simp; omega), ← h1]; congr 1; simp; omega
      · rw [List.getElem?_append_right (by simp; omega), ← h2]; congr 1; simp; omega
theorem Row.xp {w : World} {B n : Nat} {A : Option Addr} {L : List (Int × Nat)} (h : Row w B 2 A n (xv L)) {i : Nat} (hi : i < n) : ∃ b off, A = some ⟨b, off, none⟩ ∧ w.cell? ⟨b, off + i * 2, none⟩ = some (.int .i64 (xg L i).1) ∧ w.cell? ⟨b, off + i * 2 + 1, none⟩ = some (.int .i64 ((xg L i).2 : Int)) := by
  obtain ⟨b, off, e, hB, hlt, hc⟩ := h.mem (by omega)
  have hl := h.len
  rw [xv_len] at hl
  obtain ⟨a1, a2⟩ := xv_at L i (by omega)
  exact ⟨b, off, e, hc _ _ a1, hc _ _ a2⟩
set_option maxRecDepth 100000 in
set_option maxHeartbeats 1000000 in
/-- Equal exposures. -/
theorem xsame_any (A A' : Option Addr) (n cc cc' : Nat) (L : List (Int × Nat)) (w : World) (h1 : Row w 0 2 A n (xv L)) (h2 : Row w 0 2 A' n (xv L)) (hn : n ≤ 1000) :
    Calls Tryz.prog 35 #[.slice A n cc, .slice A' n cc'] w fun e w' => e = .returned (.bool true) ∧ Below w.heap.size w w' := by
  have H1 := Lib.hid h1
  have H2 := Lib.hid h2
  clear h1 h2
  go_enter Tryz.func35, Tryz.ntmps35
  go_wp2_with fail
  go_loopw [13] (fun ii wr => ∃ k : Nat, k ≤ n ∧ ii = .int .i64 k ∧ ∃ q, wr = w.drewN q) (fun ii _ => n - (intOf ii).toNat)
  case atStart => exact ⟨0, by omega, rfl, 0, rfl⟩
  case round =>
    obtain ⟨k, hk, rfl, q, rfl⟩ := hrel
    by_cases hlt : k < n
    · obtain ⟨b, off, hA, d0, d1⟩ := H1.out.xp hlt
      obtain ⟨b', off', hA', d0', d1'⟩ := H2.out.xp hlt
      subst hA hA'
      have i0 : (0 : Int) ≤ (k : Int) := by omega
      have i1 : (k : Int) < (n : Int) := by omega
      generalize xg L k = x at *
      go_wp2_with fail
      go_quiet (fail)
      go_wp2_with fail
      exact ⟨⟨k + 1, by omega, by go_num, _, rfl⟩, by simp [intOf]; omega⟩
    · obtain rfl : k = n := by omega
      go_wp2_with fail
      go_ret
      exact ⟨rfl, ⟨rfl, rfl, rfl, Nat.le_refl _, fun _ _ => rfl⟩⟩
/-! The reference, at the example of the chapter. -/
def exK : Dy := ⟨[1], []⟩
def exE : Es := ⟨1, [⟨3, 5, 0, 0, 0, 2, 0⟩, ⟨7, 1, 0, 0, 0, 0, 0⟩]⟩
theorem exK_ok : Ok exK := by
  refine ⟨by decide, by decide, fun p hp => ?_, fun j hj => absurd hj (by show ¬ j < 0; omega), fun j hj => absurd hj (by show ¬ j + 1 < 0; omega)⟩
  have hp : p < 1 := hp
  obtain rfl : p = 0 := by omega
  decide
theorem exE_ok : Eok exE := by
  refine ⟨by decide, by decide, by decide, fun j hj => ?_, fun j hj => ?_⟩
  · have hj : j < 2 := hj
    rcases (by omega : j = 0 ∨ j = 1) with rfl | rfl
    · exact ⟨by decide, by decide, by decide, by decide, .inr (.inr (.inr (.inl ⟨.inl rfl, by decide, by decide, rfl, rfl, rfl⟩)))⟩
    · exact ⟨by decide, by decide, by decide, by decide, .inl ⟨.inl rfl, by decide, by decide, rfl, rfl, rfl⟩⟩
  · have hj : j + 1 < 2 := hj
    obtain rfl : j = 0 := by omega
    decide
set_option maxRecDepth 100000 in
set_option maxHeartbeats 400000 in
theorem right_yes (a : Es) (v : Ve) (c : Int) (w : World) (h : VaY a v w) (hc : 0 ≤ c ∧ c < 64) :
    Calls Tryz.prog 70 #[.agg (ge a v), .int .i64 c] w fun e w' => e = .returned (.bool true) ∧ Below w.heap.size w w' := by
  have HB0 := Lib.hid (box_below w (.cells (ge a v) 28))
  have HR0 := heap_alloc_new w (.cells (ge a v) 28)
  obtain ⟨c0, c1⟩ := geCells HR0
  have HCK := Lib.hid (h _ HB0.out)
  have d1 : decide ((0 : Int) ≤ c) = true := decide_eq_true hc.1
  have d2 : decide (c ≤ 63) = true := decide_eq_true (by omega)
  have HF := Lib.hid (show (#[.int .i64 a.n, .slice v.A a.e.length v.c] : Array Value) = ge a v from rfl)
  clear h hc HR0
  go_enter Tryz.func70, Tryz.ntmps70
  go_wp2_with (go_at_call 47; rw [HF.out]; refine HCK.out.mono ?_; rintro e w1 ⟨rfl, hb1⟩; have HB1 := Lib.hid (HB0.out.trans (hb1.mono HB0.out.size)); clear hb1 c0 c1)
  go_ret
  exact ⟨by first | rfl | simp, HB1.out⟩
set_option maxRecDepth 100000 in
set_option maxHeartbeats 1000000 in
theorem happened_all (a : Es) (v : Ve) (t : Int) (w : World) (h : EL w 0 a v) (hm : a.e.length ≤ 120) (ht : ∀ j, j < a.e.length → (ag a.e j).t ≤ t) :
    Calls Tryz.prog 72 #[.agg (ge a v), .int .i64 t] w fun e w' => e = .returned (.int .i64 (a.e.length : Int)) ∧ Below w.heap.size w w' := by
  obtain ⟨A, vc⟩ := v
  have HE := Lib.hid h
  have HT := Lib.hid ht
  have hb := box_below w (.cells (ge a ⟨A, vc⟩) 28)
  have HB0 := Lib.hid hb
  have R0 := heap_alloc_new w (.cells (ge a ⟨A, vc⟩) 28)
  obtain ⟨g0, g1⟩ := geCells R0
  have HEX := Lib.hid (Row.below h hb)
  clear h ht hb R0
  go_enter Tryz.func72, Tryz.ntmps72
  go_wp2_with fail
  go_loopw [5] (fun ii wr => ∃ k : Nat, k ≤ a.e.length ∧ ii = .int .i64 (k : Int) ∧ wr = w.alloc (.cells (ge a ⟨A, vc⟩) 28)) (fun ii _ => a.e.length - (intOf ii).toNat)
  case atStart => exact ⟨0, by omega, rfl, rfl⟩
  case round =>
    obtain ⟨k, hk, rfl, rfl⟩ := hrel
    by_cases hlt : k < a.e.length
    · obtain ⟨b, off, hA, -, hbk, hac⟩ := HEX.out.ac hlt
      have hA : A = some ⟨b, off, none⟩ := hA
      subst hA
      obtain ⟨y0, -⟩ := hac
      have dk : decide ((k : Int) < (a.e.length : Int)) = true := decide_eq_true (by omega)
      have dt : decide ((ag a.e k).t ≤ t) = true := decide_eq_true (HT.out k hlt)
      have i0 : (0 : Int) ≤ (k : Int) := by omega
      have i1 : (k : Int) < (a.e.length : Int) := by omega
      generalize ag a.e k = x at *
      go_wp2_with fail
      exact ⟨⟨k + 1, by omega, by go_num, by first | rfl | trivial⟩, by simp [intOf]; omega⟩
    · obtain rfl : k = a.e.length := by omega
      have dk : decide ((a.e.length : Int) < (a.e.length : Int)) = false := decide_eq_false (by omega)
      go_wp2_with fail
      go_ret
      exact ⟨by first | rfl | simp, HB0.out⟩
set_option maxRecDepth 100000 in
set_option maxHeartbeats 8000000 in
/-- The reference's Proves of the example's way. -/
theorem proves_exE (v : Ve) (W : Option Addr) (cc : Nat) (w : World) (h : EL w 0 exE v) (hvc : 2 ≤ v.c) (hr : Row w 0 1 W 1 (iv [0])) :
    Calls Tryz.prog 112 #[.agg (ge exE v), .int .i64 2, .int .i64 0, .int .i64 7, .slice W 1 cc] w fun e w' => e = .returned (.bool true) ∧ Below w.heap.size w w' := by
  obtain ⟨A, vc⟩ := v
  obtain ⟨b, off, hA, -, hbk, -⟩ := Row.ac h (i := 0) (by decide)
  have hA : A = some ⟨b, off, none⟩ := hA
  subst hA
  have HEV := Lib.hid (fun w' (hb : Below w.heap.size w w') => (by
    obtain ⟨b0, o0, e0, -, -, a0⟩ := (Row.below h hb).ac (i := 0) (by decide)
    obtain ⟨b1, o1, e1, -, -, a1⟩ := (Row.below h hb).ac (i := 1) (by decide)
    cases e0; cases e1
    exact ⟨a0, a1⟩ : AcAt w' b (off + 0 * 7) ⟨3, 5, 0, 0, 0, 2, 0⟩ ∧ AcAt w' b (off + 1 * 7) ⟨7, 1, 0, 0, 0, 0, 0⟩))
  obtain ⟨bw, ow, hW, -, -, -⟩ := hr.int (i := 0) (by decide)
  subst hW
  have HWV := Lib.hid (fun w' (hb : Below w.heap.size w w') => (by
    obtain ⟨b0, o0, e0, -, -, a0⟩ := (hr.below hb).int (i := 0) (by decide)
    cases e0
    exact a0 : w'.cell? ⟨bw, ow, none⟩ = some (.int .i64 0)))
  have HB0 := Lib.hid (box_below w (.cells (ge exE ⟨some ⟨b, off, none⟩, vc⟩) 28))
  have HR0 := Lib.hid (heap_alloc_new w (.cells (ge exE ⟨some ⟨b, off, none⟩, vc⟩) 28))
  obtain ⟨c0, c1⟩ := geCells HR0.out
  have HF := Lib.hid (show (#[.int .i64 1, .slice (some ⟨b, off, none⟩) 2 vc] : Array Value) = ge exE ⟨some ⟨b, off, none⟩, vc⟩ from rfl)
  replace c0 : World.cell? _ _ = some (.int .i64 1) := c0
  replace c1 : World.cell? _ _ = some (.slice (some ⟨b, off, none⟩) 2 vc) := c1
  have hv := vay_of h exE_ok
  have HRI := Lib.hid (fun w' (hb : Below w.heap.size w w') => right_yes exE _ 2 w' (hv.below hb) (by decide))
  have HPL := Lib.hid (fun w' (hb : Below w.heap.size w w') => place_yes exE _ 0 w' (hv.below hb) (by decide) (by decide))
  have HHA := Lib.hid (fun w' (hb : Below w.heap.size w w') => (show Calls Tryz.prog 72 #[.agg (ge exE ⟨some ⟨b, off, none⟩, vc⟩), .int .i64 7] w' (fun e w2 => e = .returned (.int .i64 2) ∧ Below w'.heap.size w' w2) from happened_all exE ⟨some ⟨b, off, none⟩, vc⟩ 7 w' (Row.below h hb) (by decide) (fun j hj => by
    have hj : j < 2 := hj
    rcases (by omega : j = 0 ∨ j = 1) with rfl | rfl <;> decide)))
  clear h hv hr
  go_enter Tryz.func112, Tryz.ntmps112
  go_wp2_with (first
    | (go_at_call 70; rw [HF.out]; refine (HRI.out _ HB0.out).mono ?_; rintro e w1 ⟨rfl, hb1⟩; have HB1 := Lib.hid (HB0.out.trans (hb1.mono HB0.out.size)); have M1 := Lib.hid ((hb1.block _ (row_lt HR0.out)).trans HR0.out); clear hb1 c0 c1; obtain ⟨c0, c1⟩ := geCells M1.out; replace c0 : World.cell? _ _ = some (.int .i64 1) := c0; replace c1 : World.cell? _ _ = some (.slice (some ⟨b, off, none⟩) 2 vc) := c1)
    | (go_at_call 42; rw [HF.out]; refine (HPL.out _ HB1.out).mono ?_; rintro e w2 ⟨rfl, hb2⟩; have HB2 := Lib.hid (HB1.out.trans (hb2.mono HB1.out.size)); have M2 := Lib.hid ((hb2.block _ (row_lt M1.out)).trans M1.out); clear hb2 c0 c1))
  go_loopw [34] (fun ii wr => ∃ k : Nat, k ≤ 1 ∧ ii = .int .i64 (k : Int) ∧ Below w2.heap.size w2 wr) (fun ii _ => 1 - (intOf ii).toNat)
  case atStart => exact ⟨0, by omega, rfl, Below.refl _ _⟩
  case round =>
    obtain ⟨k, hk, rfl, hbl⟩ := hrel
    have HBL := Lib.hid (HB2.out.trans (hbl.mono HB2.out.size))
    have HRL := Lib.hid hbl
    have MR := Lib.hid ((hbl.block _ (row_lt M2.out)).trans M2.out)
    clear hbl
    have v0 := HWV.out _ HBL.out
    obtain ⟨⟨p0, p1, p2, p3, p4, p5, p6⟩, ⟨q0, q1, q2, q3, q4, q5, q6⟩⟩ := HEV.out _ HBL.out
    simp only [Nat.zero_mul, Nat.add_zero, Nat.one_mul] at p0 p1 p2 p3 p4 p5 p6 q0 q1 q2 q3 q4 q5 q6
    obtain ⟨c0, c1⟩ := geCells MR.out
    replace c0 : World.cell? _ _ = some (.int .i64 1) := c0
    replace c1 : World.cell? _ _ = some (.slice (some ⟨b, off, none⟩) 2 vc) := c1
    rcases (by omega : k = 0 ∨ k = 1) with rfl | rfl
    · have hbx := box_below wr (.cells #[.int .i64 3, .int .i64 5, .int .i64 0, .int .i64 0, .int .i64 0, .int .i64 2, .int .i64 0] 76)
      have BX := Lib.hid (HBL.out.trans (hbx.mono HBL.out.size))
      have RX := Lib.hid (HRL.out.trans (hbx.mono HRL.out.size))
      have MX := Lib.hid ((hbx.block _ (row_lt MR.out)).trans MR.out)
      have XN := Lib.hid (heap_alloc_new wr (.cells #[.int .i64 3, .int .i64 5, .int .i64 0, .int .i64 0, .int .i64 0, .int .i64 2, .int .i64 0] 76))
      obtain ⟨n0, n1, n2, n3, n4, n5, n6⟩ := accCells (x := ⟨3, 5, 0, 0, 0, 2, 0⟩) XN.out
      simp only at n0 n1 n2 n3 n4 n5 n6
      clear hbx
      have xv0 := HWV.out _ BX.out
      obtain ⟨⟨xp0, xp1, xp2, xp3, xp4, xp5, xp6⟩, ⟨xq0, xq1, xq2, xq3, xq4, xq5, xq6⟩⟩ := HEV.out _ BX.out
      simp only [Nat.zero_mul, Nat.add_zero, Nat.one_mul] at xp0 xp1 xp2 xp3 xp4 xp5 xp6 xq0 xq1 xq2 xq3 xq4 xq5 xq6
      obtain ⟨xc0, xc1⟩ := geCells MX.out
      replace xc0 : World.cell? _ _ = some (.int .i64 1) := xc0
      replace xc1 : World.cell? _ _ = some (.slice (some ⟨b, off, none⟩) 2 vc) := xc1
      have hv1 : ¬ vc = 1 := by omega
      go_wp2_with fail
      go_quiet (fail)
      go_wp2_with (go_at_call 72; rw [HF.out]; refine (HHA.out _ (below_dn3 BX.out _)).mono ?_; rintro e w8 ⟨rfl, hb8⟩; have B8 := Lib.hid ((below_dn3 RX.out _).trans (hb8.mono RX.out.size)); have A8 := Lib.hid ((below_dn3 BX.out _).trans (hb8.mono BX.out.size)); have M8 := Lib.hid (show w8.heap[w.heap.size]? = _ from (hb8.block _ (row_lt MX.out)).trans MX.out); have N8 := Lib.hid (show w8.heap[wr.heap.size]? = _ from (hb8.block _ (row_lt XN.out)).trans XN.out); clear hb8; have yv0 := HWV.out _ A8.out; obtain ⟨⟨yp0, yp1, yp2, yp3, yp4, yp5, yp6⟩, ⟨yq0, yq1, yq2, yq3, yq4, yq5, yq6⟩⟩ := HEV.out _ A8.out; simp only [Nat.zero_mul, Nat.add_zero, Nat.one_mul] at yp0 yp1 yp2 yp3 yp4 yp5 yp6 yq0 yq1 yq2 yq3 yq4 yq5 yq6; obtain ⟨yc0, yc1⟩ := geCells M8.out; replace yc0 : World.cell? _ _ = some (.int .i64 1) := yc0; replace yc1 : World.cell? _ _ = some (.slice (some ⟨b, off, none⟩) 2 vc) := yc1; obtain ⟨m0, m1, m2, m3, m4, m5, m6⟩ := accCells (x := ⟨3, 5, 0, 0, 0, 2, 0⟩) N8.out; simp only at m0 m1 m2 m3 m4 m5 m6)
      go_loopw [141] (fun jj wx => ∃ j : Nat, j ≤ 1 ∧ jj = .int .i64 (j : Int) ∧ Below w8.heap.size w8 wx) (fun jj _ => 1 - (intOf jj).toNat)
      case atStart => exact ⟨0, by omega, rfl, Below.refl _ _⟩
      case round =>
        obtain ⟨j, hj, rfl, hbl⟩ := hrel
        rename World => wy
        have HBI := Lib.hid (B8.out.trans (hbl.mono B8.out.size))
        rcases (by omega : j = 0 ∨ j = 1) with rfl | rfl
        · have HB8 := Lib.hid (A8.out.trans (hbl.mono A8.out.size))
          have N9 := Lib.hid ((hbl.block _ (row_lt N8.out)).trans N8.out)
          obtain ⟨-, -, s2, -⟩ := accCells (x := ⟨3, 5, 0, 0, 0, 2, 0⟩) N9.out
          simp only at s2
          have s2' := fun o => (World.cell?_alloc_lt wy o _ (row_lt N9.out)).trans s2
          obtain ⟨-, t0, t1, t2, t3, t4, t5, t6⟩ := HEV.out _ HB8.out
          simp only at t0 t1 t2 t3 t4 t5 t6
          rw [show off + 1 * 7 = off + 7 by omega] at t0 t1 t2 t3 t4 t5 t6
          obtain ⟨n0, n1, n2, n3, n4, n5, n6⟩ := accCells (x := ⟨7, 1, 0, 0, 0, 0, 0⟩) (heap_alloc_new wy (.cells #[.int .i64 7, .int .i64 1, .int .i64 0, .int .i64 0, .int .i64 0, .int .i64 0, .int .i64 0] 76))
          simp only at n0 n1 n2 n3 n4 n5 n6
          have BY := Lib.hid (hbl.trans ((box_below wy (.cells #[.int .i64 7, .int .i64 1, .int .i64 0, .int .i64 0, .int .i64 0, .int .i64 0, .int .i64 0] 76)).mono hbl.size))
          clear hbl
          go_wp2_with fail
          exact ⟨⟨1, by omega, rfl, BY.out⟩, by simp [intOf]⟩
        · clear hbl
          go_wp2_with fail
          exact ⟨⟨1, by omega, rfl, HBI.out⟩, by simp [intOf]⟩
    · go_wp2_with fail
      go_quiet (fail)
      go_wp2_with fail
      go_ret
      exact ⟨by first | rfl | simp, below_dn3 HBL.out _⟩

end Go.Proofs.YtgknfkmojhganaaGreat.Di

namespace Go.Proofs.YtgknfkmojhganaaGreat.Di
open Go.RowKit
open Go.Proofs.YtgknfkmojhganaaGreat.Tp
set_option linter.unusedVariables false
set_option linter.unusedSimpArgs false

set_option maxRecDepth 100000 in
set_option maxHeartbeats 1000000 in
/-- The reference's right, for a reader. -/
theorem xright_one (d : Dy) (v : Vd) (a : Es) (u : Ve) (c : Int) (q : Nat) (w : World) (h : DL w 0 d v) (hok : Ok d) (he : EL w 0 a u) (hea : Eok a) (hc : 0 ≤ c ∧ c < 64) (hr : rB d q = true) (hq : q ≤ 1000) :
    Calls Tryz.prog 111 #[.agg (gd d v), .agg (ge a u), .int .i64 c, .int .i64 (q : Int)] w fun e w' => e = .returned (.bool true) ∧ Below w.heap.size w w' := by
  have hbx := (box_below w (.cells (gd d v) 25)).trans ((box_below (w.alloc (.cells (gd d v) 25)) (.cells (ge a u) 28)).mono (by simp))
  have HBX := Lib.hid hbx
  have D1 := Lib.hid (heap_alloc2_old w (.cells (gd d v) 25) (.cells (ge a u) 28))
  have E1 := Lib.hid (heap_alloc2_new w (.cells (gd d v) 25) (.cells (ge a u) 28))
  obtain ⟨g0, g1⟩ := gdCells D1.out
  obtain ⟨c0, c1⟩ := geCells E1.out
  have HVA := Lib.hid (rvalid_any d v _ (h.below hbx) hok)
  have HVE := Lib.hid (vay_of (Row.below he hbx) hea)
  have hrd := fun w' (hb : Below w.heap.size w w') => reader_any 0 d v q w' (h.below hb) (by have := hok.n; omega)
  rw [hr] at hrd
  have HRD := Lib.hid hrd
  have HFD := Lib.hid (show (#[.slice v.A1 d.k.length v.c1, .slice v.A2 d.e.length v.c2] : Array Value) = gd d v from rfl)
  have HFE := Lib.hid (show (#[.int .i64 a.n, .slice u.A a.e.length u.c] : Array Value) = ge a u from rfl)
  have lD := row_lt D1.out
  have lE := row_lt E1.out
  have d1 : decide ((0 : Int) ≤ c) = true := decide_eq_true hc.1
  have d2 : decide (c ≤ 63) = true := decide_eq_true (by omega)
  have e1 : ((q : Int) == -1) = false := beq_eq_false_iff_ne.2 (by omega)
  clear h hok he hea hc hbx hrd hr
  go_enter Tryz.func111, Tryz.ntmps111
  go_wp2_with (first
    | (go_at_call 41; rw [HFD.out]; refine HVA.out.mono ?_; rintro e w1 ⟨rfl, hb1⟩; have K1 := Lib.hid hb1; have B1 := Lib.hid (HBX.out.trans (hb1.mono HBX.out.size)); have D2 := Lib.hid ((hb1.block _ lD).trans D1.out); have E2 := Lib.hid ((hb1.block _ lE).trans E1.out); clear hb1 g0 g1 c0 c1; obtain ⟨c0, c1⟩ := geCells E2.out)
    | (go_at_call 47; rw [HFE.out]; refine (HVE.out _ K1.out).mono ?_; rintro e w2 ⟨rfl, hb2⟩; have B2 := Lib.hid (B1.out.trans (hb2.mono B1.out.size)); have D3 := Lib.hid ((hb2.block _ (row_lt D2.out)).trans D2.out); clear hb2 c0 c1; obtain ⟨g0, g1⟩ := gdCells D3.out)
    | (go_at_call 33; rw [HFD.out]; refine (HRD.out _ B2.out).mono ?_; rintro e w3 ⟨rfl, hb3⟩; have B3 := Lib.hid (B2.out.trans (hb3.mono B2.out.size)); clear hb3))
  go_ret
  exact ⟨by first | rfl | simp, B3.out⟩
set_option maxRecDepth 100000 in
set_option maxHeartbeats 4000000 in
/-- The reference's Proves of a leak of a reader, from its parts. -/
theorem xproves_yes (d : Dy) (v : Vd) (a : Es) (u : Ve) (c : Int) (q T P : Nat) (lk gk : Int) (W : Option Addr) (nw cw : Nat) (A : Option Addr) (m k : Nat) (w : World) (hT : T ≤ 1099511627776)
    (h1 : ∀ w', Below w.heap.size w w' → Calls Tryz.prog 111 #[.agg (gd d v), .agg (ge a u), .int .i64 c, .int .i64 (q : Int)] w' fun e w2 => e = .returned (.bool true) ∧ Below w'.heap.size w' w2)
    (h2 : ∀ w', Below w.heap.size w w' → Calls Tryz.prog 112 #[.agg (ge a u), .int .i64 c, .int .i64 (P : Int), .int .i64 (T : Int), .slice W nw cw] w' fun e w2 => e = .returned (.bool true) ∧ Below w'.heap.size w' w2)
    (h3 : ∀ w', Below w.heap.size w w' → Calls Tryz.prog 20 #[.agg (gd d v), .agg (ge a u), .int .i64 (q : Int), .agg (rc (P : Int) (T : Int) lk gk A m k)] w' fun e w2 => e = .returned (.bool true) ∧ Below w'.heap.size w' w2) :
    Calls Tryz.prog 67 #[.agg (gd d v), .agg (ge a u), .int .i64 c, .agg #[.int .i64 (q : Int), .int .i64 (T : Int)], .agg (lkc W nw cw (P : Int) (T : Int) lk gk A m k)] w fun e w' => e = .returned (.bool true) ∧ Below w.heap.size w w' := by
  obtain ⟨W4, hW4⟩ : ∃ W4, (((w.alloc (.cells (gd d v) 25)).alloc (.cells (ge a u) 28)).alloc (.cells #[.int .i64 (q : Int), .int .i64 (T : Int)] 70)).alloc (.cells (lkc W nw cw (P : Int) (T : Int) lk gk A m k) 66) = W4 := ⟨_, rfl⟩
  have hs1 : (w.alloc (.cells (gd d v) 25)).heap.size = w.heap.size + 1 := by simp
  have hs2 : ((w.alloc (.cells (gd d v) 25)).alloc (.cells (ge a u) 28)).heap.size = w.heap.size + 1 + 1 := by simp
  have hs3 : (((w.alloc (.cells (gd d v) 25)).alloc (.cells (ge a u) 28)).alloc (.cells #[.int .i64 (q : Int), .int .i64 (T : Int)] 70)).heap.size = w.heap.size + 1 + 1 + 1 := by simp
  have hb1 := box_below w (.cells (gd d v) 25)
  have hb2 := hb1.trans ((box_below _ (.cells (ge a u) 28)).mono hb1.size)
  have hb3 := hb2.trans ((box_below _ (.cells #[.int .i64 (q : Int), .int .i64 (T : Int)] 70)).mono hb2.size)
  have hb4 := hb3.trans ((box_below _ (.cells (lkc W nw cw (P : Int) (T : Int) lk gk A m k) 66)).mono hb3.size)
  have r0 := (heap_alloc_old _ (.cells (lkc W nw cw (P : Int) (T : Int) lk gk A m k) 66) (by rw [hs3]; omega)).trans ((heap_alloc_old _ (.cells #[.int .i64 (q : Int), .int .i64 (T : Int)] 70) (by rw [hs2]; omega)).trans ((heap_alloc_old _ (.cells (ge a u) 28) (by rw [hs1]; omega)).trans (heap_alloc_new w (.cells (gd d v) 25))))
  have r1 := (heap_alloc_old _ (.cells (lkc W nw cw (P : Int) (T : Int) lk gk A m k) 66) (by rw [hs3, hs1]; omega)).trans ((heap_alloc_old _ (.cells #[.int .i64 (q : Int), .int .i64 (T : Int)] 70) (by rw [hs2, hs1]; omega)).trans (heap_alloc_new (w.alloc (.cells (gd d v) 25)) (.cells (ge a u) 28)))
  have r2 := (heap_alloc_old _ (.cells (lkc W nw cw (P : Int) (T : Int) lk gk A m k) 66) (by rw [hs3, hs2]; omega)).trans (heap_alloc_new ((w.alloc (.cells (gd d v) 25)).alloc (.cells (ge a u) 28)) (.cells #[.int .i64 (q : Int), .int .i64 (T : Int)] 70))
  have r3 := heap_alloc_new (((w.alloc (.cells (gd d v) 25)).alloc (.cells (ge a u) 28)).alloc (.cells #[.int .i64 (q : Int), .int .i64 (T : Int)] 70)) (.cells (lkc W nw cw (P : Int) (T : Int) lk gk A m k) 66)
  rw [hs1] at r1
  rw [hs2] at r2
  rw [hs3] at r3
  rw [hW4] at hb4 r0 r1 r2 r3
  have hbz := box_below W4 (.cells (rc (P : Int) (T : Int) lk gk A m k) 30)
  have hb5 := hb4.trans (hbz.mono hb4.size)
  have HB := Lib.hid hb5
  have R0 := Lib.hid ((hbz.block _ (row_lt r0)).trans r0)
  have R1 := Lib.hid ((hbz.block _ (row_lt r1)).trans r1)
  have R2 := Lib.hid ((hbz.block _ (row_lt r2)).trans r2)
  have R3 := Lib.hid ((hbz.block _ (row_lt r3)).trans r3)
  have R4 := Lib.hid (heap_alloc_new W4 (.cells (rc (P : Int) (T : Int) lk gk A m k) 30))
  have XC := Lib.hid (fun w' (hb : Below (W4.alloc (.cells (rc (P : Int) (T : Int) lk gk A m k) 30)).heap.size (W4.alloc (.cells (rc (P : Int) (T : Int) lk gk A m k) 30)) w') => (by
    have x2 := (hb.block _ (row_lt R2.out)).trans R2.out
    refine ⟨gdCells ((hb.block _ (row_lt R0.out)).trans R0.out), geCells ((hb.block _ (row_lt R1.out)).trans R1.out), ?_, ?_, lkcCells ((hb.block _ (row_lt R3.out)).trans R3.out), rcCells ((hb.block _ (row_lt R4.out)).trans R4.out), HB.out.trans (hb.mono HB.out.size)⟩
    · rw [cell_of_row _ _ 0 _ _ _ x2]; rfl
    · rw [cell_of_row _ _ 1 _ _ _ x2]; rfl :
    (w'.cell? ⟨w.heap.size, 0, none⟩ = some (.slice v.A1 d.k.length v.c1) ∧ w'.cell? ⟨w.heap.size, 1, none⟩ = some (.slice v.A2 d.e.length v.c2)) ∧ (w'.cell? ⟨w.heap.size + 1, 0, none⟩ = some (.int .i64 a.n) ∧ w'.cell? ⟨w.heap.size + 1, 1, none⟩ = some (.slice u.A a.e.length u.c)) ∧ w'.cell? ⟨w.heap.size + 1 + 1, 0, none⟩ = some (.int .i64 (q : Int)) ∧ w'.cell? ⟨w.heap.size + 1 + 1, 1, none⟩ = some (.int .i64 (T : Int)) ∧
    (w'.cell? ⟨w.heap.size + 1 + 1 + 1, 0, none⟩ = some (.slice W nw cw) ∧ w'.cell? ⟨w.heap.size + 1 + 1 + 1, 1, none⟩ = some (.int .i64 (P : Int)) ∧ w'.cell? ⟨w.heap.size + 1 + 1 + 1, 2, none⟩ = some (.int .i64 (T : Int)) ∧ w'.cell? ⟨w.heap.size + 1 + 1 + 1, 3, none⟩ = some (.int .i64 lk) ∧ w'.cell? ⟨w.heap.size + 1 + 1 + 1, 4, none⟩ = some (.int .i64 gk) ∧ w'.cell? ⟨w.heap.size + 1 + 1 + 1, 5, none⟩ = some (.slice A m k)) ∧
    (w'.cell? ⟨W4.heap.size, 0, none⟩ = some (.int .i64 (P : Int)) ∧ w'.cell? ⟨W4.heap.size, 1, none⟩ = some (.int .i64 (T : Int)) ∧ w'.cell? ⟨W4.heap.size, 2, none⟩ = some (.int .i64 lk) ∧ w'.cell? ⟨W4.heap.size, 3, none⟩ = some (.int .i64 gk) ∧ w'.cell? ⟨W4.heap.size, 4, none⟩ = some (.slice A m k)) ∧ Below w.heap.size w w'))
  obtain ⟨l0, l1, l2, l3, l4, l5⟩ := lkcCells r3
  have H1 := Lib.hid h1
  have H2 := Lib.hid h2
  have H3 := Lib.hid h3
  have HFD := Lib.hid (show (#[.slice v.A1 d.k.length v.c1, .slice v.A2 d.e.length v.c2] : Array Value) = gd d v from rfl)
  have HFE := Lib.hid (show (#[.int .i64 a.n, .slice u.A a.e.length u.c] : Array Value) = ge a u from rfl)
  have HFR := Lib.hid (show (#[.int .i64 (P : Int), .int .i64 (T : Int), .int .i64 lk, .int .i64 gk, .slice A m k] : Array Value) = rc (P : Int) (T : Int) lk gk A m k from rfl)
  have d1 : decide ((T : Int) < 0) = false := decide_eq_false (by omega)
  have d2 : decide ((1099511627776 : Int) < (T : Int)) = false := decide_eq_false (by omega)
  have e1 : ((q : Int) == -1) = false := beq_eq_false_iff_ne.2 (by omega)
  have e2 : ((T : Int) != (T : Int)) = false := by simp
  clear h1 h2 h3 hb1 hb2 hb3 hb4 hbz hb5 r0 r1 r2 r3 hs1 hs2 hs3
  go_enter Tryz.func67, Tryz.ntmps67
  go_upto_region 1 with fail
  (try rw [hW4])
  go_upto_region 2 with (with_reducible (show wpList _ _ _ (⟨none, .store 30 (.tmp 11) (.tmp 13), _, _, _, _⟩ :: _) _ _); refine wpList_store_row (o := ⟨none, .store 30 (.tmp 11) (.tmp 13), _, _, _, _⟩) rfl 30 (.tmp 11) (.tmp 13) rfl W4.heap.size (rc (P : Int) (T : Int) lk gk A m k) rfl rfl 30 #[.int .i64 0, .int .i64 0, .int .i64 0, .int .i64 0, .slice none 0 0] (heap_alloc_new _ _) (info37 _ _ _ _ _ _ _) rfl (rc_one _ _ _ _ _ _ _) ?_; rw [new_set])
  clear l0 l1 l2 l3 l4 l5
  generalize hW5 : W4.alloc (.cells (rc (P : Int) (T : Int) lk gk A m k) 30) = W5 at *
  obtain ⟨⟨g0, g1⟩, ⟨c0, c1⟩, x0, x1, ⟨l0, l1, l2, l3, l4, l5⟩, ⟨n0, n1, n2, n3, n4⟩, -⟩ := XC.out W5 (Below.refl _ _)
  go_wp2_with (first
    | (go_at_call 111; rw [HFD.out, HFE.out]; refine (H1.out _ HB.out).mono ?_; rintro e w1 ⟨rfl, hb1⟩; have B1 := Lib.hid hb1; clear hb1 g0 g1 c0 c1 x0 x1 l0 l1 l2 l3 l4 l5 n0 n1 n2 n3 n4; obtain ⟨⟨g0, g1⟩, ⟨c0, c1⟩, x0, x1, ⟨l0, l1, l2, l3, l4, l5⟩, ⟨n0, n1, n2, n3, n4⟩, bw⟩ := XC.out w1 B1.out; have BW := Lib.hid bw; clear bw)
    | (go_at_call 112; rw [HFE.out]; refine (H2.out _ BW.out).mono ?_; rintro e w2 ⟨rfl, hb2⟩; have B2 := Lib.hid (B1.out.trans (hb2.mono B1.out.size)); clear hb2 g0 g1 c0 c1 x0 x1 l0 l1 l2 l3 l4 l5 n0 n1 n2 n3 n4; obtain ⟨⟨g0, g1⟩, ⟨c0, c1⟩, x0, x1, ⟨l0, l1, l2, l3, l4, l5⟩, ⟨n0, n1, n2, n3, n4⟩, bw⟩ := XC.out w2 B2.out; have BX := Lib.hid bw; clear bw)
    | (go_at_call 20; rw [HFD.out, HFE.out, HFR.out]; refine (H3.out _ BX.out).mono ?_; rintro e w3 ⟨rfl, hb3⟩; have B3 := Lib.hid (BX.out.trans (hb3.mono BX.out.size)); clear hb3))
  go_ret
  exact ⟨by first | rfl | simp, B3.out⟩

end Go.Proofs.YtgknfkmojhganaaGreat.Di

namespace Go.Proofs.YtgknfkmojhganaaGreat.Di
open Go.RowKit
open Go.Proofs.YtgknfkmojhganaaGreat.Tp
set_option linter.unusedVariables false
set_option linter.unusedSimpArgs false

theorem exE_lk3 : lkA exE.e ((0 : Nat) : Int) ((3 : Nat) : Int) = none := by decide
theorem exE_lk7 : lkA exE.e ((0 : Nat) : Int) ((7 : Nat) : Int) = none := by decide
theorem exE_gr3 : grA exE.e ((0 : Nat) : Int) ((3 : Nat) : Int) ((0 : Nat) : Int) = none := by decide
theorem exE_gr7 : grA exE.e ((0 : Nat) : Int) ((7 : Nat) : Int) ((0 : Nat) : Int) = some 1 := by decide
theorem exE_wy : wyA exE.e 2 ((7 : Nat) : Int) ((0 : Nat) : Int) = [0] := by decide
theorem exE_wB : wB exE 2 ((7 : Nat) : Int) 0 = true := by decide
theorem exK_up (t : Nat) : upB exK t 0 0 = true := (upB_iff _ _ _ _).2 ⟨by decide, .here⟩
theorem exE_may3 : mayB exK exE 0 0 3 = false := by
  rw [may_is, exE_lk3]
  have : anyB (keyB exK exE 0 0 3) exK.k.length = false := by
    rw [← Bool.not_eq_true, any_iff]
    rintro ⟨i, hi, h⟩
    have hi : i < 1 := hi
    obtain rfl : i = 0 := by omega
    unfold keyB at h
    rw [gdB_yes ⟨exE_ok, by decide, by decide⟩, exE_gr3, Bool.and_eq_true] at h
    cases h.2
  rw [this]
  simp
theorem exE_may7 : mayB exK exE 0 0 7 = true := by
  rw [may_is, show rB exK 0 = true from by decide, Bool.true_and, (any_iff _ _).2 ⟨0, by decide, ?_⟩, Bool.or_true]
  unfold keyB
  rw [exK_up, gdB_yes ⟨exE_ok, by decide, by decide⟩, Bool.true_and, exE_gr7]
  rfl
theorem exE_ti {r : Nat} (h : TiM exK exE r) : r = 3 ∨ r = 7 := by
  rcases h with ⟨j, h1, h2⟩ | ⟨j, h1, -⟩
  · have h1 : j < 2 := h1
    rcases (by omega : j = 0 ∨ j = 1) with rfl | rfl
    · left
      have h2 : (3 : Int) = (r : Int) := h2
      omega
    · right
      have h2 : (7 : Int) = (r : Int) := h2
      omega
  · exact absurd h1 (by show ¬ j < 0; omega)
theorem exE_all : siF exK exE 1 2 (-1) = none := siF_no fun r hr => by
  rw [← Bool.not_eq_true]
  intro h
  unfold xwB at h
  rw [any_iff] at h
  obtain ⟨P, hP, h⟩ := h
  obtain rfl : P = 0 := by omega
  rw [Bool.and_eq_true] at h
  have h2 := h.2
  unfold xB at h2
  rw [if_pos rfl] at h2
  rcases exE_ti hr with rfl | rfl
  · rw [exE_lk3] at h2; cases h2
  · rw [exE_lk7] at h2; cases h2
theorem exE_one : siF exK exE 1 2 0 = some 7 := siF_yes ⟨.inl ⟨1, by decide, rfl⟩, by
  unfold xwB
  rw [any_iff]
  refine ⟨0, by decide, ?_⟩
  rw [Bool.and_eq_true]
  refine ⟨exE_wB, ?_⟩
  unfold xB
  rw [if_neg (by decide)]
  exact exE_may7, fun r hr h => by
  rcases exE_ti hr with rfl | rfl
  · unfold xwB at h
    rw [any_iff] at h
    obtain ⟨P, hP, h⟩ := h
    obtain rfl : P = 0 := by omega
    rw [Bool.and_eq_true] at h
    have h2 := h.2
    unfold xB at h2
    rw [if_neg (by decide)] at h2
    have h3 : mayB exK exE 0 0 3 = true := h2
    rw [exE_may3] at h3
    cases h3
  · exact Nat.le_refl _⟩
theorem exE_exL : exL exK exE 1 2 (exK.k.length + 1) = [(0, 7)] := by
  have e2 : exL exK exE 1 2 (1 + 1) = exL exK exE 1 2 1 ++ [(((1 : Nat) : Int) - 1, 7)] := exL_some (show siF exK exE 1 2 (((1 : Nat) : Int) - 1) = some 7 from exE_one)
  have e1 : exL exK exE 1 2 (0 + 1) = exL exK exE 1 2 0 := exL_none (show siF exK exE 1 2 (((0 : Nat) : Int) - 1) = none from exE_all)
  show exL exK exE 1 2 (1 + 1) = _
  rw [e2, e1]
  rfl
theorem exE_rdg {lk gk : Int} {L : List Nat} (h : Rdg exK exE 0 0 7 lk gk L) : lk = -1 ∧ gk = 1 ∧ L = [0] := by
  rcases h with ⟨h1, -⟩ | ⟨-, h2, q, g, h3, h4, h5, h6⟩
  · rw [exE_lk7] at h1; cases h1
  · have h4 : q < 1 := h4
    obtain rfl : q = 0 := by omega
    have hg : g = 1 := (Option.some.inj (exE_gr7.symm.trans h5)).symm
    subst hg
    refine ⟨h2, h3, ?_⟩
    rcases h6 with ⟨-, h7⟩ | ⟨h7, -⟩
    · exact h7
    · exact absurd rfl h7
theorem exE_lkp {T P : Nat} {lk gk : Int} {L : List Nat} (h : Lkp exK exE 1 2 0 T P lk gk L) : T = 7 ∧ P = 0 ∧ lk = -1 ∧ gk = 1 ∧ L = [0] := by
  have h1 := Option.some.inj (exE_one.symm.trans h.si)
  subst h1
  have h2 := h.pn
  obtain rfl : P = 0 := by omega
  have h3 := h.one (by decide)
  exact ⟨rfl, rfl, exE_rdg h3⟩
def vK (s : Nat) : Vd := ⟨some ⟨s, 0, none⟩, 1, none, 0⟩
def vE (s : Nat) : Ve := ⟨some ⟨s + 1 + 1, 0, none⟩, 2⟩
theorem boxes4 (w : World) (X1 X2 X3 X4 : Obj) :
    let W := (((w.alloc X1).alloc X2).alloc X3).alloc X4
    W.heap[w.heap.size]? = some X1 ∧ W.heap[w.heap.size + 1]? = some X2 ∧ W.heap[w.heap.size + 1 + 1]? = some X3 ∧ W.heap[w.heap.size + 1 + 1 + 1]? = some X4 ∧ Below w.heap.size w W := by
  obtain ⟨-, b0, b1, b2, bb⟩ := boxes3 w X1 X2 X3
  have z3 : (((w.alloc X1).alloc X2).alloc X3).heap.size = w.heap.size + 1 + 1 + 1 := by simp
  have a4 := heap_alloc_new (((w.alloc X1).alloc X2).alloc X3) X4
  rw [z3] at a4
  refine ⟨?_, ?_, ?_, a4, bb.trans ((box_below _ _).mono bb.size)⟩
  · exact (heap_alloc_old _ _ (by simp; omega)).trans b0
  · exact (heap_alloc_old _ _ (by simp)).trans b1
  · exact (heap_alloc_old _ _ (by simp)).trans b2
set_option maxRecDepth 100000 in
set_option maxHeartbeats 8000000 in
theorem xawake_any (w : World) : Calls Tryz.prog 26 #[] w fun e w' => e = .returned (.bool true) ∧ Below w.heap.size w w' := by
  obtain ⟨b0, b1, b2, b3, b4⟩ := boxes4 w (.cells #[.int .i64 1] 3) (.cells (gd exK (vK w.heap.size)) 25) (.cells #[.int .i64 3, .int .i64 5, .int .i64 0, .int .i64 0, .int .i64 0, .int .i64 2, .int .i64 0, .int .i64 7, .int .i64 1, .int .i64 0, .int .i64 0, .int .i64 0, .int .i64 0, .int .i64 0] 76) (.cells (ge exE (vE w.heap.size)) 28)
  have B4 := Lib.hid b4
  have HDB := Lib.hid b1
  have HEB := Lib.hid b3
  have HDL := Lib.hid (show DL _ 0 exK (vK w.heap.size) from ⟨row_blk b0 rfl, row_none _ _ _⟩)
  have HEL := Lib.hid (show EL _ 0 exE (vE w.heap.size) from row_blk b2 rfl)
  clear b0 b1 b2 b3 b4
  have HFD := Lib.hid (show (#[.slice (some ⟨w.heap.size, 0, none⟩) 1 1, .slice none 0 0] : Array Value) = gd exK (vK w.heap.size) from rfl)
  have HFE := Lib.hid (show (#[.int .i64 1, .slice (some ⟨w.heap.size + 1 + 1, 0, none⟩) 2 2] : Array Value) = ge exE (vE w.heap.size) from rfl)
  go_enter Tryz.func26, Tryz.ntmps26
  go_wp2_with fail
  rw [HFD.out, HFE.out]
  have hall := xall_any exK (vK w.heap.size) exE (vE w.heap.size) 1 2 _ HDL.out exK_ok HEL.out exE_ok rfl (by decide)
  rw [exE_exL] at hall
  refine hall.mono ?_
  rintro e w1 ⟨X, xc, rfl, hown, hb1⟩
  replace hown : World.ownsRow w1 _ 70 2 (.slice X 1 xc) 1 (xv [(0, 7)]) := hown
  have hr1 := (row_of_own hown).base (Nat.zero_le _)
  show _
  clear hall hown
  have HKB := Lib.hid (fun w' (hb : Below ((((w.alloc (.cells #[.int .i64 1] 3)).alloc (.cells (gd exK (vK w.heap.size)) 25)).alloc (.cells #[.int .i64 3, .int .i64 5, .int .i64 0, .int .i64 0, .int .i64 0, .int .i64 2, .int .i64 0, .int .i64 7, .int .i64 1, .int .i64 0, .int .i64 0, .int .i64 0, .int .i64 0, .int .i64 0] 76)).alloc (.cells (ge exE (vE w.heap.size)) 28)).heap.size ((((w.alloc (.cells #[.int .i64 1] 3)).alloc (.cells (gd exK (vK w.heap.size)) 25)).alloc (.cells #[.int .i64 3, .int .i64 5, .int .i64 0, .int .i64 0, .int .i64 0, .int .i64 2, .int .i64 0, .int .i64 7, .int .i64 1, .int .i64 0, .int .i64 0, .int .i64 0, .int .i64 0, .int .i64 0] 76)).alloc (.cells (ge exE (vE w.heap.size)) 28)) w') => (by
    obtain ⟨k0, k1⟩ := gdCells ((hb.block _ (row_lt HDB.out)).trans HDB.out)
    obtain ⟨k2, k3⟩ := geCells ((hb.block _ (row_lt HEB.out)).trans HEB.out)
    exact ⟨k0, k1, k2, k3, HDL.out.below hb, Row.below HEL.out hb, B4.out.trans (hb.mono B4.out.size)⟩ : w'.cell? ⟨w.heap.size + 1, 0, none⟩ = some (.slice (some ⟨w.heap.size, 0, none⟩) 1 1) ∧ w'.cell? ⟨w.heap.size + 1, 1, none⟩ = some (.slice none 0 0) ∧ w'.cell? ⟨w.heap.size + 1 + 1 + 1, 0, none⟩ = some (.int .i64 1) ∧ w'.cell? ⟨w.heap.size + 1 + 1 + 1, 1, none⟩ = some (.slice (some ⟨w.heap.size + 1 + 1, 0, none⟩) 2 2) ∧ DL w' 0 exK (vK w.heap.size) ∧ EL w' 0 exE (vE w.heap.size) ∧ Below w.heap.size w w'))
  generalize hW4 : ((((w.alloc (.cells #[.int .i64 1] 3)).alloc (.cells (gd exK (vK w.heap.size)) 25)).alloc (.cells #[.int .i64 3, .int .i64 5, .int .i64 0, .int .i64 0, .int .i64 0, .int .i64 2, .int .i64 0, .int .i64 7, .int .i64 1, .int .i64 0, .int .i64 0, .int .i64 0, .int .i64 0, .int .i64 0] 76)).alloc (.cells (ge exE (vE w.heap.size)) 28)) = W4 at *
  have HB4 := Lib.hid (show Below w.heap.size w W4 from B4.out)
  clear hW4
  have B1 := Lib.hid hb1
  have R1 := Lib.hid hr1
  obtain ⟨k0, k1, k2, k3, hdl, hel, -⟩ := HKB.out _ hb1
  have hwhy := xwhy_any exK (vK w.heap.size) exE (vE w.heap.size) 1 2 0 _ hdl exK_ok hel exE_ok rfl (by decide) (by decide)
  have HWY := Lib.hid (show Calls Tryz.prog 30 #[.agg (gd exK (vK w.heap.size)), .agg (ge exE (vE w.heap.size)), .int .i64 2, .int .i64 0] w1 fun e w' => ∃ (W : Option Addr) (cc : Nat) (A : Option Addr) (k : Nat), e = .returned (.tuple #[.agg (lkc W 1 cc 0 7 (-1) 1 A 1 k), .bool true]) ∧ 1 ≤ k ∧ Row w' 0 1 W 1 (iv [0]) ∧ Row w' 0 1 A 1 (iv [0]) ∧ Below w1.heap.size w1 w' from hwhy.mono fun e w' h => by
    rcases h with ⟨h1, -⟩ | ⟨T, P, lk, gk, L, W, cc, A, k, h1, h2, h3, h4, h5, h6⟩
    · exact absurd (exE_one.symm.trans h1) (by simp)
    · obtain ⟨q1, q2, q3, q4, q5⟩ := exE_lkp h2
      subst q1 q2 q3 q4 q5
      rw [exE_wy] at h1 h3
      exact ⟨W, cc, A, k, h1, h4, h3, h5, h6⟩)
  clear hwhy hdl hel hb1 hr1
  go_wp2_with (first
    | (go_at_call 30; rw [HFD.out, HFE.out]; refine HWY.out.mono ?_; rintro e w2 ⟨W, cc, A, k, rfl, hk, hrw, hra, hb2⟩; have K := Lib.hid hk; have RW := Lib.hid hrw; have RA := Lib.hid hra; have B2 := Lib.hid (B1.out.trans (hb2.mono B1.out.size)); have R2 := Lib.hid (R1.out.below hb2); clear hk hrw hra hb2 k0 k1 k2 k3)
    | (with_reducible (show wpList _ _ _ (⟨none, .store 66 (.tmp 5) (.tmp 23), _, _, _, _⟩ :: _) _ _); refine wpList_store_row (o := ⟨none, .store 66 (.tmp 5) (.tmp 23), _, _, _, _⟩) rfl 66 (.tmp 5) (.tmp 23) rfl w2.heap.size (lkc W 1 cc 0 7 (-1) 1 A 1 k) rfl rfl 66 #[.slice none 0 0, .int .i64 0, .int .i64 0, .int .i64 0, .int .i64 0, .slice none 0 0] (heap_alloc_new _ _) (info66 _ _ _ _ _ _ _ _ _ _) rfl (lkc_one _ _ _ _ _ _ _ _ _ _) ?_; rw [new_set]))
  have hbn := box_below w2 (.cells (lkc W 1 cc 0 7 (-1) 1 A 1 k) 66)
  have N2 := heap_alloc_new w2 (.cells (lkc W 1 cc 0 7 (-1) 1 A 1 k) 66)
  have hsz2 : (w2.alloc (.cells (lkc W 1 cc 0 7 (-1) 1 A 1 k) 66)).heap.size = w2.heap.size + 1 := by simp
  have hbm := box_below (w2.alloc (.cells (lkc W 1 cc 0 7 (-1) 1 A 1 k) 66)) (.cells #[.int .i64 0, .int .i64 7] 70)
  have hbb := hbn.trans (hbm.mono hbn.size)
  have M2 := heap_alloc_new (w2.alloc (.cells (lkc W 1 cc 0 7 (-1) 1 A 1 k) 66)) (.cells #[.int .i64 0, .int .i64 7] 70)
  rw [hsz2] at M2
  have hsm := xsame_any X (some ⟨w2.heap.size + 1, 0, none⟩) 1 xc 1 [(0, 7)] _ (R2.out.below hbb) (row_blk M2 rfl) (by omega)
  refine hsm.mono ?_
  rintro e w6 ⟨rfl, hb6⟩
  have hb26 := hbb.trans (hb6.mono hbb.size)
  have B6 := Lib.hid (B2.out.trans (hb26.mono B2.out.size))
  have N6 := ((hbm.trans (hb6.mono hbm.size)).block _ (row_lt N2)).trans N2
  have RW6 := Lib.hid (RW.out.below hb26)
  have RA6 := Lib.hid (RA.out.below hb26)
  obtain ⟨l0, l1, l2, l3, l4, l5⟩ := lkcCells N6
  obtain ⟨k0, k1, k2, k3, hdl, hel, -⟩ := HKB.out _ B6.out
  have hpr := xproves_yes exK (vK w.heap.size) exE (vE w.heap.size) 2 0 7 0 (-1) 1 W 1 cc A 1 k w6 (by decide)
    (fun w' hb => xright_one exK _ exE _ 2 0 w' (hdl.below hb) exK_ok (Row.below hel hb) exE_ok (by decide) (by decide) (by decide))
    (fun w' hb => proves_exE _ W cc w' (Row.below hel hb) (Nat.le_refl _) (RW6.out.below hb))
    (fun w' hb => rread_one exK _ exE _ 0 0 7 1 k A w' (hdl.below hb) exK_ok (Row.below hel hb) exE_ok (by decide) (by decide) exE_gr7 (RA6.out.below hb) K.out)
  have HPR := Lib.hid (show Calls Tryz.prog 67 #[.agg (gd exK (vK w.heap.size)), .agg (ge exE (vE w.heap.size)), .int .i64 2, .agg #[.int .i64 0, .int .i64 7], .agg #[.slice W 1 cc, .int .i64 0, .int .i64 7, .int .i64 (-1), .int .i64 1, .slice A 1 k]] w6 fun e w' => e = .returned (.bool true) ∧ Below w6.heap.size w6 w' from hpr)
  clear hpr hdl hel hsm hb6 hb26 hbb hbm hbn N2 M2 N6 hsz2
  go_wp2_with (go_at_call 67; rw [HFD.out, HFE.out]; refine HPR.out.mono ?_; rintro e w7 ⟨rfl, hb7⟩; have B7 := Lib.hid (HB4.out.trans ((B6.out.trans (hb7.mono B6.out.size)).mono HB4.out.size)); clear hb7)
  go_ret
  exact ⟨by first | rfl | simp, B7.out⟩

end Go.Proofs.YtgknfkmojhganaaGreat.Di

namespace Go.Proofs.YtgknfkmojhganaaGreat.Di
open Go.RowKit
open Go.Proofs.YtgknfkmojhganaaGreat.Tp
set_option linter.unusedVariables false

/-- While events are gathered: L lie in the estate in box C. -/
def CRel (B C : Nat) (n : Int) (L : List Ac) (W : World) : Prop := ∃ (A' : Option Addr) (c' : Nat), W.heap[C]? = some (.cells (ge ⟨n, L⟩ ⟨A', c'⟩) 28 (0, 0)) ∧ W.ownsRow B 76 7 (.slice A' L.length c') L.length (av L)
theorem crel_below {B C : Nat} {n : Int} {L : List Ac} {W W' : World} (h : CRel B C n L W) (hb : Below W.heap.size W W') : CRel B C n L W' := by
  obtain ⟨A', c', h1, h2⟩ := h
  exact ⟨A', c', (hb.block _ (row_lt h1)).trans h1, own_below h2 hb⟩
theorem crel_q {B C : Nat} {n : Int} {L : List Ac} {A' : Option Addr} {c' : Nat} {W w12 : World} {o : Obj} (hq : W.heap[C]? = some (.cells (ge ⟨n, L⟩ ⟨A', c'⟩) 28 (0, 0))) (ho : W.ownsRow B 76 7 (.slice A' L.length c') L.length (av L)) (hgr : (W.alloc o).grownBy w12 (Value.slice A' L.length c').ownBlock) : w12.heap[C]? = some (.cells (ge ⟨n, L⟩ ⟨A', c'⟩) 28 (0, 0)) := by
  have h1 := (heap_alloc_old W o (row_lt hq)).trans hq
  exact (hgr.block C (by have := row_lt hq; simp; omega) (fun e => own_not (own_below ho (box_below W o)) h1 (by decide) e.symm)).trans h1
theorem crel_add {B C : Nat} {n : Int} {L : List Ac} {x : Ac} {A' A2 : Option Addr} {c' c2 : Nat} {W w12 : World} {o : Obj} (hq : W.heap[C]? = some (.cells (ge ⟨n, L⟩ ⟨A', c'⟩) 28 (0, 0))) (ho : W.ownsRow B 76 7 (.slice A' L.length c') L.length (av L)) (hgr : (W.alloc o).grownBy w12 (Value.slice A' L.length c').ownBlock)
    (ho2 : w12.ownsRow B 76 7 (.slice A2 (L.length + 1) c2) (L.length + 1) (av L ++ [.int .i64 x.t, .int .i64 x.k, .int .i64 x.p, .int .i64 x.r, .int .i64 x.u, .int .i64 x.c, .int .i64 x.f])) : CRel B C n (L ++ [x]) (w12.setRow C ((ge ⟨n, L⟩ ⟨A', c'⟩).setIfInBounds 1 (.slice A2 (L.length + 1) c2))) := by
  have hlen : (L ++ [x]).length = L.length + 1 := by simp
  have hq2 := crel_q hq ho hgr
  refine ⟨A2, c2, ?_, ?_⟩
  · rw [setRow_heap _ _ _ _ _ _ hq2]
    unfold ge
    rw [hlen]
    rfl
  · rw [hlen, av_snoc]
    exact kept_ne ho2 (gb_setRow _ _ _) (fun g e => by cases e; exact own_not ho2 hq2 (by decide))

theorem crel_el {B C : Nat} {n : Int} {L : List Ac} {W : World} (h : CRel B C n L W) : ∃ v, W.heap[C]? = some (.cells (ge ⟨n, L⟩ v) 28 (0, 0)) ∧ EL W 0 ⟨n, L⟩ v := by
  obtain ⟨A', c', h1, h2⟩ := h
  exact ⟨⟨A', c'⟩, h1, Row.base (row_of_own h2) (Nat.zero_le _)⟩
/-- Events of one place, among the first k. -/
structure PRel (a : Es) (p t : Int) (k : Nat) (L : List Ac) : Prop where
  len : L.length ≤ k
  ok : Eok ⟨a.n, L⟩
  tm : ∀ j, j < L.length → ∀ i, k ≤ i → i < a.e.length → (ag L j).t ≤ (ag a.e i).t
  lk : (lkA L p t).isSome = (lk a.e p t k).isSome
  gr : ∀ r, (grA L p t r).isSome = (gr a.e p t r k).isSome
theorem PRel.start {a : Es} (h : Eok a) (p t : Int) : PRel a p t 0 [] := ⟨by simp, Eok.nil h.n1 h.n16, fun j h => absurd h (by simp), rfl, fun r => rfl⟩
theorem PRel.keep {a : Es} (h : Eok a) {p t : Int} {k : Nat} {L : List Ac} (hr : PRel a p t k L) (hk : k < a.e.length) : PRel a p t (k + 1) (L ++ [ag a.e k]) := by
  have hm := h.m
  refine ⟨by have := hr.len; simp; omega, hr.ok.add (by have := hr.len; omega) (h.e k hk) (fun j hj => hr.tm j hj k (Nat.le_refl _) hk), fun j hj i h1 h2 => ?_, ?_, fun r => ?_⟩
  · simp at hj
    by_cases e : j = L.length
    · rw [e, ag_end]
      have := h.mono (i - k) k (by omega)
      rwa [show k + (i - k) = i by omega] at this
    · rw [ag_left (by omega)]; exact hr.tm j (by omega) i (by omega) h2
  · rw [lkA_snoc, Di.lk]
    have := hr.lk
    split
    · exact this
    · split
      · rfl
      · split
        · rfl
        · exact this
  · rw [grA_snoc, Di.gr]
    have := hr.gr r
    split
    · exact this
    · split
      · split
        · rfl
        · exact this
      · split
        · split
          · rfl
          · exact this
        · exact this
theorem PRel.skip {a : Es} {p t : Int} {k : Nat} {L : List Ac} (hr : PRel a p t k L) (hne : (ag a.e k).p ≠ p) : PRel a p t (k + 1) L := by
  refine ⟨by have := hr.len; omega, hr.ok, fun j hj i h1 h2 => hr.tm j hj i (by omega) h2, ?_, fun r => ?_⟩
  · rw [Di.lk, if_pos (.inr hne)]; exact hr.lk
  · rw [Di.gr, if_pos (.inr hne)]; exact hr.gr r

end Go.Proofs.YtgknfkmojhganaaGreat.Di

namespace Go.Proofs.YtgknfkmojhganaaGreat.Di
open Go.RowKit
open Go.Proofs.YtgknfkmojhganaaGreat.Tp
set_option linter.unusedVariables false

theorem cp_q {B C : Nat} {n : Int} {L : List Ac} {v : Ve} {A' : Option Addr} {c' : Nat} {W w12 : World} {o : Obj} (hq : W.heap[C]? = some (.cells (ge ⟨n, L⟩ v) 28 (0, 0))) (ho : W.ownsRow B 76 7 (.slice A' L.length c') L.length (av L)) (hgr : (W.alloc o).grownBy w12 (Value.slice A' L.length c').ownBlock) : w12.heap[C]? = some (.cells (ge ⟨n, L⟩ v) 28 (0, 0)) := by
  have h1 := (heap_alloc_old W o (row_lt hq)).trans hq
  exact (hgr.block C (by have := row_lt hq; simp; omega) (fun e => own_not (own_below ho (box_below W o)) h1 (by decide) e.symm)).trans h1
theorem cp_add {B C : Nat} {n : Int} {L : List Ac} {v : Ve} {x : Ac} {A' A2 : Option Addr} {c' c2 : Nat} {W w12 : World} {o : Obj} (hq : W.heap[C]? = some (.cells (ge ⟨n, L⟩ v) 28 (0, 0))) (ho : W.ownsRow B 76 7 (.slice A' L.length c') L.length (av L)) (hgr : (W.alloc o).grownBy w12 (Value.slice A' L.length c').ownBlock)
    (ho2 : w12.ownsRow B 76 7 (.slice A2 (L.length + 1) c2) (L.length + 1) (av L ++ [.int .i64 x.t, .int .i64 x.k, .int .i64 x.p, .int .i64 x.r, .int .i64 x.u, .int .i64 x.c, .int .i64 x.f])) : CRel B C n (L ++ [x]) (w12.setCell ⟨C, 1, none⟩ (.slice A2 (L.length + 1) c2)) := by
  have hlen : (L ++ [x]).length = L.length + 1 := by simp
  have hq2 := cp_q hq ho hgr
  rw [setCell_eq_setRow w12 C 1 _ _ _ _ hq2]
  refine ⟨A2, c2, ?_, ?_⟩
  · rw [setRow_heap _ _ _ _ _ _ hq2]
    unfold ge
    rw [hlen]
    rfl
  · rw [hlen, av_snoc]
    exact kept_ne ho2 (gb_setRow _ _ _) (fun g e => by cases e; exact own_not ho2 hq2 (by decide))
theorem Eok.last29 {a : Es} (h : MkE a) : ∃ lt : Nat, lastA a.e = (lt : Int) ∧ lt ≤ 1000 ∧ ∀ j, j < a.e.length → (ag a.e j).t ≤ (lt : Int) := by
  have key : 0 ≤ lastA a.e ∧ lastA a.e ≤ 1000 := by
    unfold lastA
    by_cases e : a.e.length = 0
    · rw [if_pos e]; omega
    · rw [if_neg e]
      exact ⟨(h.ok.e _ (by omega)).1, h.t _ (by omega)⟩
  refine ⟨(lastA a.e).toNat, by omega, by omega, fun j hj => ?_⟩
  have := h.ok.le_last hj
  omega

end Go.Proofs.YtgknfkmojhganaaGreat.Di

namespace Go.Proofs.YtgknfkmojhganaaGreat.Di
open Go.RowKit
open Go.Proofs.YtgknfkmojhganaaGreat.Tp
set_option linter.unusedVariables false

/-- An event more in a copy of an estate: behind the second append and the store. -/
theorem more_close {WD W' w6 : World} {C B : Nat} {a : Es} {x : Ac} {A A2 A3 : Option Addr} {vc c2 c3 : Nat} (hC : WD.heap.size ≤ C) (hbw : Below WD.heap.size WD W') (hB : WD.heap.size ≤ B) (hq : W'.heap[C]? = some (.cells (ge a ⟨A, vc⟩) 28 (0, 0)))
    (ho : W'.ownsRow B 76 7 (.slice A2 a.e.length c2) a.e.length (av a.e)) (hgr : W'.grownBy w6 (Value.slice A2 a.e.length c2).ownBlock)
    (ho2 : w6.ownsRow B 76 7 (.slice A3 (a.e.length + 1) c3) (a.e.length + 1) (av a.e ++ [.int .i64 x.t, .int .i64 x.k, .int .i64 x.p, .int .i64 x.r, .int .i64 x.u, .int .i64 x.c, .int .i64 x.f])) :
    w6.heap[C]? = some (.cells (ge a ⟨A, vc⟩) 28 (0, 0)) ∧ (w6.setCell ⟨C, 1, none⟩ (.slice A3 (a.e.length + 1) c3)).heap[C]? = some (.cells (ge ⟨a.n, a.e ++ [x]⟩ ⟨A3, c3⟩) 28 (0, 0)) ∧ EL (w6.setCell ⟨C, 1, none⟩ (.slice A3 (a.e.length + 1) c3)) 0 ⟨a.n, a.e ++ [x]⟩ ⟨A3, c3⟩ ∧ Below WD.heap.size WD (w6.setCell ⟨C, 1, none⟩ (.slice A3 (a.e.length + 1) c3)) := by
  have hlen : (a.e ++ [x]).length = a.e.length + 1 := by simp
  have hq2 : w6.heap[C]? = some (.cells (ge a ⟨A, vc⟩) 28 (0, 0)) := (hgr.block C (row_lt hq) (fun e => own_not ho hq (by decide) e.symm)).trans hq
  have hb6 : Below WD.heap.size WD w6 := hbw.grown hgr hbw.size (fun g e => by have := (ho.lt g e).1; omega)
  refine ⟨hq2, ?_⟩
  rw [setCell_eq_setRow w6 C 1 _ _ _ _ hq2]
  refine ⟨?_, ?_, below_setRow hb6 hC _⟩
  · rw [setRow_heap _ _ _ _ _ _ hq2]
    unfold ge
    rw [hlen]
    rfl
  · have h3 : (w6.setRow C ((ge a ⟨A, vc⟩).setIfInBounds 1 (.slice A3 (a.e.length + 1) c3))).ownsRow B 76 7 (.slice A3 (a.e.length + 1) c3) (a.e.length + 1) (av (a.e ++ [x])) := by
      rw [av_snoc]
      exact kept_ne ho2 (gb_setRow _ _ _) (fun g e => by cases e; exact own_not ho2 hq2 (by decide))
    have h4 := Row.base (B' := 0) (row_of_own h3) (Nat.zero_le _)
    show Row _ 0 7 A3 (a.e ++ [x]).length (av (a.e ++ [x]))
    rw [hlen]
    exact h4

end Go.Proofs.YtgknfkmojhganaaGreat.Di
