import Derived.Test.YtablgpcgfogfoaaRgB
namespace Go.Proofs.Ytablgpcgfogfoaa.Rg
open Go.RowKit
open Go.Proofs.Ytablgpcgfogfoaa.Tp
set_option linter.unusedVariables false

def HdPost (r : Rg) (i h t : Nat) (w : World) (e : Ending) (w' : World) : Prop := ∃ A cc, e = .returned (.slice A (hc r i h t) cc) ∧ Row w' w.heap.size 1 A (hc r i h t) (iv (held r i h t)) ∧ Below w.heap.size w w'

theorem boxes4 (w : World) (X Y Z U : Obj) : ((((w.alloc X).alloc Y).alloc Z).alloc U).heap[w.heap.size]? = some X ∧ ((((w.alloc X).alloc Y).alloc Z).alloc U).heap[w.heap.size + 1]? = some Y ∧ ((((w.alloc X).alloc Y).alloc Z).alloc U).heap[w.heap.size + 2]? = some Z ∧ ((((w.alloc X).alloc Y).alloc Z).alloc U).heap[w.heap.size + 3]? = some U ∧ Below w.heap.size w ((((w.alloc X).alloc Y).alloc Z).alloc U) := by
  obtain ⟨-, h1, h2, h3, h4⟩ := boxes3 w X Y Z
  have h5 := heap_alloc_new (((w.alloc X).alloc Y).alloc Z) U
  rw [show (((w.alloc X).alloc Y).alloc Z).heap.size = w.heap.size + 3 by simp] at h5
  exact ⟨(heap_alloc_old _ U (row_lt h1)).trans h1, (heap_alloc_old _ U (row_lt h2)).trans h2, (heap_alloc_old _ U (row_lt h3)).trans h3, h5, h4.trans ((box_below _ U).mono h4.size)⟩

set_option maxRecDepth 100000 in
set_option maxHeartbeats 1000000 in
theorem held_any (B : Nat) (nm : ByteArray) (r : Rg) (v : Vr) (i h t : Nat) (w : World) (hr : RL w B nm r v) (hn : r.c.length ≤ 100) :
    Calls Try.prog 41 #[.agg (gv r v), .int .i64 (i : Int), .int .i64 (h : Int), .int .i64 (t : Int)] w (HdPost r i h t w) := by
  obtain ⟨b0, b1, b2, b3, hb⟩ := boxes4 w (.cells (gv r v) 26) (.cells #[.int .i64 (i : Int)] 3) (.cells #[.int .i64 (h : Int)] 3) (.cells #[.int .i64 (t : Int)] 3)
  have HB := Lib.hid hb
  obtain ⟨g0, g1⟩ := gvCells b0
  have hs : Calls Try.prog 47 #[.agg #[.slice v.A1 r.s.length v.c1, .slice v.A2 r.c.length v.c2], .func (.func 52) #[] #[.pointer (some ⟨w.heap.size + 1, 0, none⟩), .pointer (some ⟨w.heap.size + 2, 0, none⟩), .pointer (some ⟨w.heap.size + 3, 0, none⟩)]] ((((w.alloc (.cells (gv r v) 26)).alloc (.cells #[.int .i64 (i : Int)] 3)).alloc (.cells #[.int .i64 (h : Int)] 3)).alloc (.cells #[.int .i64 (t : Int)] 3)) (SmPost (fun j => hit (cg r j) i h t) r.c.length _) :=
    hit_some (w.heap.size + 1) (w.heap.size + 2) (w.heap.size + 3) B nm r v _ _ (hr.below hb) hn (fun j hj w' hw =>
      hit_call (cg r j) i h t _ _ _ w' ((cell_of_row _ _ 0 _ _ _ ((hw.block _ (row_lt b1)).trans b1)).trans rfl) ((cell_of_row _ _ 0 _ _ _ ((hw.block _ (row_lt b2)).trans b2)).trans rfl) ((cell_of_row _ _ 0 _ _ _ ((hw.block _ (row_lt b3)).trans b3)).trans rfl) (Nat.lt_of_lt_of_le (row_lt b1) hw.size) (Nat.lt_of_lt_of_le (row_lt b2) hw.size) (Nat.lt_of_lt_of_le (row_lt b3) hw.size))
  have HS := Lib.hid hs
  clear hs b0 b1 b2 b3 hb hr
  go_enter Try.func41, Try.ntmps41
  go_wp2_with fail
  refine HS.out.mono ?_
  rintro e w1 ⟨A, cc, rfl, hrow, hb1⟩
  have HR := Lib.hid (hrow.base HB.out.size)
  have HB1 := Lib.hid (HB.out.trans (hb1.mono HB.out.size))
  clear hb1 hrow
  go_wp2_with fail
  go_ret
  exact ⟨A, cc, rfl, HR.out, HB1.out⟩

set_option maxRecDepth 100000 in
set_option maxHeartbeats 1000000 in
theorem crow_call (B : Nat) (nm : ByteArray) (r : Rg) (v : Vr) (x : Cr) (g : Nat) (w : World) (hr : RL w B nm r v) (hn : r.c.length ≤ 24) (hx : x.i < r.s.length) (hs2 : sl r x.i ≤ 2) (h8 : r.s.length ≤ 8) (hg : w.heap[g]? = some (.cells (gv r v) 26 (0, 0))) :
    Calls Try.prog 40 #[.agg #[.int .i64 (x.i : Int), .int .u64 (x.p : Int), .int .i64 (x.h : Int), .int .i64 (x.f : Int), .int .i64 (x.u : Int)], .pointer (some ⟨g, 0, none⟩)] w fun e w' => e = .returned (.bool (decide (sl r x.i < hc r x.i x.h x.f))) ∧ Below w.heap.size w w' := by
  have hcl := cnt_le (fun j => hit (cg r j) x.i x.h x.f) r.c.length
  have hcl2 : hc r x.i x.h x.f ≤ 24 := Nat.le_trans hcl hn
  obtain ⟨b, off, hA, -, lb, z0, z1⟩ := hr.r1.iss hx
  have R0 := Lib.hid (heap_alloc_new w (.cells (kc x) 29))
  have HB0 := Lib.hid (box_below w (.cells (kc x) 29))
  have HRL := Lib.hid hr
  have HHD := Lib.hid (fun w' (hw : Below w.heap.size w w') => held_any B nm r v x.i x.h x.f w' (hr.below hw) (by omega))
  have hk : ∀ w', Below (w.alloc (.cells (kc x) 29)).heap.size (w.alloc (.cells (kc x) 29)) w' → (w'.cell? ⟨g, 0, none⟩ = some (.slice (some ⟨b, off, none⟩) r.s.length v.c1) ∧ w'.cell? ⟨g, 1, none⟩ = some (.slice v.A2 r.c.length v.c2) ∧ w'.cell? ⟨w.heap.size, 0, none⟩ = some (.int .i64 (x.i : Int)) ∧ w'.cell? ⟨w.heap.size, 2, none⟩ = some (.int .i64 (x.h : Int)) ∧ w'.cell? ⟨w.heap.size, 3, none⟩ = some (.int .i64 (x.f : Int)) ∧ w'.cell? ⟨b, off + x.i * 2 + 1, none⟩ = some (.int .i64 ((sl r x.i : Nat) : Int)) ∧ Below w.heap.size w w' ∧ Below (w.alloc (.cells (kc x) 29)).heap.size (w.alloc (.cells (kc x) 29)) w') := fun w' hw => by
    have hbw := HB0.out.trans (hw.mono HB0.out.size)
    obtain ⟨g0, g1⟩ := gvCells ((hbw.block _ (row_lt hg)).trans hg)
    obtain ⟨y0, y1, y2, y3, y4⟩ := kcCells ((hw.block _ (row_lt R0.out)).trans R0.out)
    rw [hA] at g0
    exact ⟨g0, g1, y0, y2, y3, (hbw.cell (p := ⟨b, off + x.i * 2 + 1, none⟩) lb).trans z1, hbw, hw⟩
  have HK := Lib.hid hk
  simp only [gv, hA] at HHD
  clear hk hr hg hA z0 z1 hcl
  show Calls Try.prog 40 #[.agg (kc x), .pointer (some ⟨g, 0, none⟩)] w _
  have i0 : (0 : Int) ≤ (x.i : Int) := by omega
  have i1 : (x.i : Int) < (r.s.length : Int) := by omega
  have j0 : decide ((x.i : Int) < 0) = false := decide_eq_false (by omega)
  have j1 : decide ((r.s.length : Int) ≤ (x.i : Int)) = false := decide_eq_false (by omega)
  unfold HdPost at HHD
  have hdd : decide (((sl r x.i : Nat) : Int) < ((hc r x.i x.h x.f : Nat) : Int)) = decide (sl r x.i < hc r x.i x.h x.f) := by
    by_cases h : sl r x.i < hc r x.i x.h x.f
    · rw [decide_eq_true h, decide_eq_true (by omega)]
    · rw [decide_eq_false h, decide_eq_false (by omega)]
  generalize hans : decide (sl r x.i < hc r x.i x.h x.f) = ans at *
  generalize sl r x.i = s at *
  generalize hc r x.i x.h x.f = n at *
  go_enter Try.func40, Try.ntmps40
  go_wp2_with fail
  generalize w.alloc (.cells (kc x) 29) = W0 at *
  have hbr : Below W0.heap.size W0 W0 := Below.refl _ _
  have hbd : Below W0.heap.size W0 W0.drew := hbr.drew
  go_region_held3 (fun w' => w'.cell? ⟨g, 0, none⟩ = some (.slice (some ⟨b, off, none⟩) r.s.length v.c1) ∧ w'.cell? ⟨g, 1, none⟩ = some (.slice v.A2 r.c.length v.c2) ∧ w'.cell? ⟨w.heap.size, 0, none⟩ = some (.int .i64 (x.i : Int)) ∧ w'.cell? ⟨w.heap.size, 2, none⟩ = some (.int .i64 (x.h : Int)) ∧ w'.cell? ⟨w.heap.size, 3, none⟩ = some (.int .i64 (x.f : Int)) ∧ w'.cell? ⟨b, off + x.i * 2 + 1, none⟩ = some (.int .i64 ((s : Nat) : Int)) ∧ Below w.heap.size w w' ∧ Below W0.heap.size W0 w')
    (first | (with_reducible assumption) | (with_reducible exact HK.out _ hbr) | (with_reducible exact HK.out _ hbd) | (go_split_ands; exact HK.out _ (Below.trans (by with_reducible assumption) (hb2.mono (Below.size (by with_reducible assumption))))))
    (first
      | (go_at_call 41; (with_reducible refine (HHD.out _ ?_).mono ?_); (go_split_ands; with_reducible assumption); rintro e w2 ⟨A, cc, rfl, hrow, hb2⟩; clear hrow))
  go_wp2_with fail
  go_ret
  go_split_ands
  exact ⟨by first | rfl | simp [hdd] | simp [hans], by assumption⟩

set_option maxRecDepth 100000 in
set_option maxHeartbeats 400000 in
theorem crow_idx (l : List Cr) (g : Nat) (A : Option Addr) (n c : Nat) (p : Nat → Bool) (w : World) (hn : n ≤ 1000) (h : Row w 0 5 A n (kv l))
    (hp : ∀ i, i < n → ∀ w', Below w.heap.size w w' → Calls Try.prog 40 (#[.agg #[.int .i64 (((l.getD i c0).i : Nat) : Int), .int .u64 (((l.getD i c0).p : Nat) : Int), .int .i64 (((l.getD i c0).h : Nat) : Int), .int .i64 (((l.getD i c0).f : Nat) : Int), .int .i64 (((l.getD i c0).u : Nat) : Int)]] ++ #[.pointer (some ⟨g, 0, none⟩)]) w' fun e w'' => e = .returned (.bool (p i)) ∧ Below w'.heap.size w' w'') :
    Calls Try.prog 51 #[.slice A n c, .func (.func 40) #[] #[.pointer (some ⟨g, 0, none⟩)]] w fun e w' => e = .returned (.int .i64 (fi p n 0)) ∧ Below w.heap.size w w' := by
  have H := Lib.hid h
  have HP := Lib.hid hp
  clear h hp
  go_enter Try.func51, Try.ntmps51
  go_wp2
  go_loopw [8] (fun i wr => ∃ k : Nat, k ≤ n ∧ i = .int .i64 k ∧ fi p n 0 = fi p (n - k) k ∧ Below w.heap.size w wr) (fun i _ => n - (intOf i).toNat)
  case atStart => exact ⟨0, by omega, rfl, rfl, Below.refl _ _⟩
  case round =>
    obtain ⟨k, hk, rfl, hfi, hbl⟩ := hrel
    have HBL := Lib.hid hbl
    have HF := Lib.hid hfi
    clear hfi
    by_cases hlt : k < n
    · obtain ⟨b, off, rfl, hB, hbk, y0, y1, y2, y3, y4⟩ := (H.out.below hbl).crd hlt
      have HC := Lib.hid (HP.out k hlt wr hbl)
      have HFI := Lib.hid (fi_step p n k hlt)
      clear hbl
      cases hpk : p k with
      | true =>
        rw [hpk] at HC
        have HPK := Lib.hid hpk
        clear hpk
        go_wp2_with (go_at_call 40; refine HC.out.mono ?_; rintro e w2 ⟨rfl, hb2⟩; have HB2 := Lib.hid (HBL.out.trans (hb2.mono HBL.out.size)); clear hb2)
        go_ret
        refine ⟨?_, HB2.out⟩
        rw [HF.out, HFI.out.1 HPK.out]
        rfl
      | false =>
        rw [hpk] at HC
        have HPK := Lib.hid hpk
        clear hpk
        go_wp2_with (go_at_call 40; refine HC.out.mono ?_; rintro e w2 ⟨rfl, hb2⟩; have HB2 := Lib.hid (HBL.out.trans (hb2.mono HBL.out.size)); clear hb2)
        exact ⟨⟨k + 1, by omega, by go_num, by rw [HF.out, HFI.out.2 HPK.out], HB2.out⟩, by simp [intOf]; omega⟩
    · obtain rfl : n = k := by omega
      go_wp2
      go_ret
      exact ⟨by rw [HF.out, Nat.sub_self]; rfl, HBL.out⟩

set_option maxRecDepth 100000 in
set_option maxHeartbeats 400000 in
theorem crow_any (l : List Cr) (g : Nat) (A : Option Addr) (n c : Nat) (p : Nat → Bool) (w : World) (hn : n ≤ 1000) (h : Row w 0 5 A n (kv l))
    (hp : ∀ i, i < n → ∀ w', Below w.heap.size w w' → Calls Try.prog 40 (#[.agg #[.int .i64 (((l.getD i c0).i : Nat) : Int), .int .u64 (((l.getD i c0).p : Nat) : Int), .int .i64 (((l.getD i c0).h : Nat) : Int), .int .i64 (((l.getD i c0).f : Nat) : Int), .int .i64 (((l.getD i c0).u : Nat) : Int)]] ++ #[.pointer (some ⟨g, 0, none⟩)]) w' fun e w'' => e = .returned (.bool (p i)) ∧ Below w'.heap.size w' w'') :
    Calls Try.prog 39 #[.slice A n c, .func (.func 40) #[] #[.pointer (some ⟨g, 0, none⟩)]] w fun e w' => e = .returned (.bool (anyB p n)) ∧ Below w.heap.size w w' := by
  have HC := Lib.hid (crow_idx l g A n c p w hn h hp)
  clear h hp
  cases ha : anyB p n with
  | false =>
    rw [fi_none p n ha] at HC
    clear ha
    go_enter Try.func39, Try.ntmps39
    go_wp2_with (go_at_call 51; refine HC.out.mono ?_; rintro e w' ⟨rfl, hb⟩; have HB := Lib.hid hb; clear hb)
    go_ret
    exact ⟨rfl, HB.out⟩
  | true =>
    obtain ⟨q, hq⟩ := fi_some p n ha
    rw [hq] at HC
    clear ha hq
    have hd : decide ((0 : Int) ≤ (q : Int)) = true := decide_eq_true (by omega)
    go_enter Try.func39, Try.ntmps39
    go_wp2_with (go_at_call 51; refine HC.out.mono ?_; rintro e w' ⟨rfl, hb⟩; have HB := Lib.hid hb; clear hb)
    go_ret
    exact ⟨by first | rfl | simp, HB.out⟩

set_option maxRecDepth 100000 in
set_option maxHeartbeats 1000000 in
theorem check_any (B : Nat) (nm : ByteArray) (r : Rg) (v : Vr) (w : World) (hr : RL w B nm r v) (hn : Nm nm) (hw : Wf r) :
    Calls Try.prog 14 #[.agg (gv r v)] w fun e w' => e = .returned (.int .i64 (if crowd r then 31 else 0)) ∧ Below w.heap.size w w' := by
  obtain ⟨n1, n2, ws, wc⟩ := hw
  have HB0 := Lib.hid (box_below w (.cells (gv r v) 26))
  have R0 := Lib.hid (heap_alloc_new w (.cells (gv r v) 26))
  have h0 := hr.base (Nat.zero_le B)
  have k1 := fun w' (hw : Below w.heap.size w w') => wiss_any nm r.s v.A1 r.s.length v.c1 (fun _ => false) w' (by omega) (h0.r1.below hw) (fun i hi w2 _ => wiss_call nm _ w2 hn (ws i hi).1 (ws i hi).2)
  have k2 := fun w' (hw : Below w.heap.size w w') (hg : w'.heap[w.heap.size]? = some (.cells (gv r v) 26 (0, 0))) => wrong_any r.c w.heap.size v.A2 r.c.length v.c2 (fun _ => false) w' (by omega) (h0.r2.below hw) (fun i hi w2 hb2 => wrong_call r v (cg r i) w.heap.size w2 (wc i hi) n1 ((hb2.block _ (row_lt hg)).trans hg))
  have k3 := fun w' (hw : Below w.heap.size w w') (hg : w'.heap[w.heap.size]? = some (.cells (gv r v) 26 (0, 0))) => crow_any r.c w.heap.size v.A2 r.c.length v.c2 (crow r) w' (by omega) (h0.r2.below hw) (fun i hi w2 hb2 => crow_call B nm r v (cg r i) w.heap.size w2 (hr.below (hw.trans (hb2.mono hw.size))) n2 (wc i hi).i (ws _ (wc i hi).i).2 n1 ((hb2.block _ (row_lt hg)).trans hg))
  rw [any_no (fun _ _ => rfl)] at k1 k2
  have hcr : anyB (crow r) r.c.length = crowd r := rfl
  rw [hcr] at k3
  have K1 := Lib.hid k1
  have K2 := Lib.hid k2
  have K3 := Lib.hid k3
  clear hr h0 k1 k2 k3 ws wc hcr
  have e1 : decide ((8 : Int) < (r.s.length : Int)) = false := decide_eq_false (by omega)
  have e2 : decide ((24 : Int) < (r.c.length : Int)) = false := decide_eq_false (by omega)
  obtain ⟨g0, g1⟩ := gvCells R0.out
  go_enter Try.func14, Try.ntmps14
  go_wp2_with fail
  refine (K1.out _ HB0.out).mono ?_
  rintro e w1 ⟨rfl, hb1⟩
  have R1 := Lib.hid ((hb1.block _ (row_lt R0.out)).trans R0.out)
  have HB1 := Lib.hid (HB0.out.trans (hb1.mono HB0.out.size))
  clear hb1 g0 g1
  obtain ⟨g0, g1⟩ := gvCells R1.out
  go_wp2_with fail
  refine (K2.out _ HB1.out R1.out).mono ?_
  rintro e w2 ⟨rfl, hb2⟩
  have R2 := Lib.hid ((hb2.block _ (row_lt R1.out)).trans R1.out)
  have HB2 := Lib.hid (HB1.out.trans (hb2.mono HB1.out.size))
  clear hb2 g0 g1
  obtain ⟨g0, g1⟩ := gvCells R2.out
  go_wp2_with fail
  refine (K3.out _ HB2.out R2.out).mono ?_
  rintro e w3 ⟨rfl, hb3⟩
  have HB3 := Lib.hid (HB2.out.trans (hb3.mono HB2.out.size))
  clear hb3 g0 g1
  go_wp2_with fail
  all_goals (go_ret; refine ⟨?_, HB3.out⟩; first | (simp_all; done) | (split <;> simp_all))

end Go.Proofs.Ytablgpcgfogfoaa.Rg
