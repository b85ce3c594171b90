import Derived.Test.YtgknfkmojhganaaGreatDjB
namespace Go.Proofs.YtgknfkmojhganaaGreat.Di
open Go.RowKit
open Go.Proofs.YtgknfkmojhganaaGreat.Tp
set_option linter.unusedVariables false

/-- Is q in the list? -/
def inl (l : List Nat) (q : Nat) : Bool := anyB (fun j => l.getD j 0 == q) l.length

set_option maxRecDepth 100000 in
set_option maxHeartbeats 1000000 in
theorem cl59_call (q p gm gp gs n cs : Nat) (A As : Option Addr) (l : List Nat) (M : Nat → Nat → Bool) (w : World) (hm : w.cell? ⟨gm, 0, none⟩ = some (.slice A n n)) (hp : w.cell? ⟨gp, 0, none⟩ = some (.int .i64 (p : Int))) (hs : w.cell? ⟨gs, 0, none⟩ = some (.slice As l.length cs)) (hr : MM w 0 n A M) (hl : Row w 0 1 As l.length (iv l)) (hln : l.length ≤ 1000) (hpn : p < n) (hqn : q < n) :
    Calls Tryz.prog 107 (#[.int .i64 (q : Int)] ++ #[.pointer (some ⟨gm, 0, none⟩), .pointer (some ⟨gp, 0, none⟩), .pointer (some ⟨gs, 0, none⟩)]) w fun e w' => e = .returned (.bool (M p q && !inl l q)) ∧ Below w.heap.size w w' := by
  obtain ⟨G, off, g, rfl, -, -, -, -, y0, y1⟩ := hr.row p hpn
  have y2 := y1 q hqn
  have p0 : (0 : Int) ≤ (p : Int) := by omega
  have p1 : (p : Int) < (n : Int) := by omega
  have q0 : (0 : Int) ≤ (q : Int) := by omega
  have q1 : (q : Int) < (n : Int) := by omega
  have HCT := Lib.hid (fun w' (h : Row w' 0 1 As l.length (iv l)) => contains_any l q As l.length cs w' h hln)
  have HL := Lib.hid hl
  have HBR := Lib.hid (Below.refl w.heap.size w)
  have HV := Lib.hid (show (M p q && !inl l q) = (M p q && !anyB (fun j => l.getD j 0 == q) l.length) from rfl)
  clear hr y1 hl
  show Calls Tryz.prog 107 #[.int .i64 (q : Int), .pointer (some ⟨gm, 0, none⟩), .pointer (some ⟨gp, 0, none⟩), .pointer (some ⟨gs, 0, none⟩)] w _
  generalize anyB (fun j => l.getD j 0 == q) l.length = ib at *
  generalize M p q = b at *
  cases b with
  | false =>
    go_enter Tryz.func107, Tryz.ntmps107
    go_wp2_with fail
    go_ret
    exact ⟨by rw [HV.out]; first | rfl | simp, HBR.out⟩
  | true =>
    go_enter Tryz.func107, Tryz.ntmps107
    go_wp2_with (go_at_call 60; refine (HCT.out _ ?_).mono ?_; (exact HL.out); rintro e w1 ⟨rfl, rfl⟩)
    go_ret
    exact ⟨by rw [HV.out]; first | rfl | simp, HBR.out⟩

set_option maxRecDepth 100000 in
set_option maxHeartbeats 400000 in
/-- IndexFunc over the test of Closed. -/
theorem idx58_any (l : List Nat) (ca : Array Value) (A : Option Addr) (n c : Nat) (p : Nat → Bool) (w : World) (hn : n ≤ 1000) (h : Row w 0 1 A n (iv l))
    (hp : ∀ i, i < n → ∀ w', Below w.heap.size w w' → Calls Tryz.prog 105 (#[.int .i64 ((l.getD i 0 : Nat) : Int)] ++ ca) w' fun e w'' => e = .returned (.bool (p i)) ∧ Below w'.heap.size w' w'') :
    Calls Tryz.prog 92 #[.slice A n c, .func (.func 105) #[] ca] w fun e w' => e = .returned (.int .i64 (fi p n 0)) ∧ Below w.heap.size w w' := by
  have H := Lib.hid h
  have HP := Lib.hid hp
  clear h hp
  go_enter Tryz.func92, Tryz.ntmps92
  go_wp2
  go_loopw [8] (fun i wr => ∃ k : Nat, k ≤ n ∧ i = .int .i64 k ∧ fi p n 0 = fi p (n - k) k ∧ Below w.heap.size w wr) (fun i _ => n - (intOf i).toNat)
  case atStart => exact ⟨0, by omega, rfl, rfl, Below.refl _ _⟩
  case round =>
    obtain ⟨k, hk, rfl, hfi, hbl⟩ := hrel
    have HBL := Lib.hid hbl
    have HF := Lib.hid hfi
    clear hfi
    by_cases hlt : k < n
    · obtain ⟨b, off, rfl, hB, hbk, y0⟩ := (H.out.below hbl).int hlt
      have HC := Lib.hid (HP.out k hlt wr hbl)
      have HFI := Lib.hid (fi_step p n k hlt)
      have j0 : (0 : Int) ≤ (k : Int) := by omega
      have j1 : (k : Int) < (n : Int) := by omega
      clear hbl
      generalize l.getD k 0 = x at *
      cases hpk : p k with
      | true =>
        rw [hpk] at HC
        have HPK := Lib.hid hpk
        clear hpk
        go_wp2_with (go_at_call 105; refine HC.out.mono ?_; rintro e w2 ⟨rfl, hb2⟩; have HB2 := Lib.hid (HBL.out.trans (hb2.mono HBL.out.size)); clear hb2)
        go_ret
        refine ⟨?_, HB2.out⟩
        rw [HF.out, HFI.out.1 HPK.out]
        rfl
      | false =>
        rw [hpk] at HC
        have HPK := Lib.hid hpk
        clear hpk
        go_wp2_with (go_at_call 105; refine HC.out.mono ?_; rintro e w2 ⟨rfl, hb2⟩; have HB2 := Lib.hid (HBL.out.trans (hb2.mono HBL.out.size)); clear hb2)
        exact ⟨⟨k + 1, by omega, by go_num, by rw [HF.out, HFI.out.2 HPK.out], HB2.out⟩, by simp [intOf]; omega⟩
    · obtain rfl : n = k := by omega
      go_wp2
      go_ret
      exact ⟨by rw [HF.out, Nat.sub_self]; rfl, HBL.out⟩

set_option maxRecDepth 100000 in
set_option maxHeartbeats 1000000 in
theorem cont58_any (l : List Nat) (ca : Array Value) (A : Option Addr) (n c : Nat) (p : Nat → Bool) (w : World) (hn : n ≤ 1000) (h : Row w 0 1 A n (iv l))
    (hp : ∀ i, i < n → ∀ w', Below w.heap.size w w' → Calls Tryz.prog 105 (#[.int .i64 ((l.getD i 0 : Nat) : Int)] ++ ca) w' fun e w'' => e = .returned (.bool (p i)) ∧ Below w'.heap.size w' w'') :
    Calls Tryz.prog 62 #[.slice A n c, .func (.func 105) #[] ca] w fun e w' => e = .returned (.bool (anyB p n)) ∧ Below w.heap.size w w' := by
  have HC := Lib.hid (idx58_any l ca A n c p w hn h hp)
  clear h hp
  cases ha : anyB p n with
  | false =>
    rw [fi_none p n ha] at HC
    clear ha
    go_enter Tryz.func62, Tryz.ntmps62
    go_wp2_with (go_at_call 92; refine HC.out.mono ?_; rintro e w' ⟨rfl, hb⟩; have HB := Lib.hid hb; clear hb)
    go_ret
    exact ⟨rfl, HB.out⟩
  | true =>
    obtain ⟨q, hq⟩ := fi_some p n ha
    rw [hq] at HC
    clear ha hq
    have hd : decide ((0 : Int) ≤ (q : Int)) = true := decide_eq_true (by omega)
    go_enter Tryz.func62, Tryz.ntmps62
    go_wp2_with (go_at_call 92; refine HC.out.mono ?_; rintro e w' ⟨rfl, hb⟩; have HB := Lib.hid hb; clear hb)
    go_ret
    exact ⟨by first | rfl | simp, HB.out⟩

/-- Does p lead out of the list? -/
noncomputable def outB (M : Nat → Nat → Bool) (n : Nat) (l : List Nat) (p : Nat) : Bool := decide (0 < cnt (fun q => M p q && !inl l q) n)

set_option maxRecDepth 100000 in
set_option maxHeartbeats 1000000 in
theorem cl58_call (B : Nat) (d : Dy) (v : Vd) (p gd' gm gs cs : Nat) (A As : Option Addr) (l : List Nat) (M : Nat → Nat → Bool) (w : World) (h : DL w B d v) (hd : w.heap[gd']? = some (.cells (gd d v) 25 (0, 0))) (hm : w.heap[gm]? = some (.cells #[.slice A d.k.length d.k.length] 118 (0, 0))) (hs : w.heap[gs]? = some (.cells #[.slice As l.length cs] 22 (0, 0))) (hr : MM w 0 d.k.length A M) (hl : Row w 0 1 As l.length (iv l)) (hln : l.length ≤ 1000) (hpn : p < d.k.length) (hn : d.k.length ≤ 100) :
    Calls Tryz.prog 105 (#[.int .i64 (p : Int)] ++ #[.pointer (some ⟨gd', 0, none⟩), .pointer (some ⟨gm, 0, none⟩), .pointer (some ⟨gs, 0, none⟩)]) w fun e w' => e = .returned (.bool (outB M d.k.length l p)) ∧ Below w.heap.size w w' := by
  have hb := box_below w (.cells #[.int .i64 (p : Int)] 3)
  have hx := heap_alloc_new w (.cells #[.int .i64 (p : Int)] 3)
  have c1 : ∀ {W : World} {g : Nat} {x : Value} {t : TypeId}, W.heap[g]? = some (.cells #[x] t (0, 0)) → W.cell? ⟨g, 0, none⟩ = some x := fun hh => by rw [cell_of_row _ _ _ _ _ _ hh]; rfl
  have hso := some59_any B d v (fun q => M p q && !inl l q) #[.pointer (some ⟨gm, 0, none⟩), .pointer (some ⟨w.heap.size, 0, none⟩), .pointer (some ⟨gs, 0, none⟩)] (w.alloc (.cells #[.int .i64 (p : Int)] 3)) (h.below hb) hn (fun q hq w' hw =>
    have hw2 := hb.trans (hw.mono hb.size)
    cl59_call q p gm w.heap.size gs d.k.length cs A As l M w' (c1 ((hw2.block _ (row_lt hm)).trans hm)) (c1 ((hw.block _ (row_lt hx)).trans hx)) (c1 ((hw2.block _ (row_lt hs)).trans hs)) (hr.below hw2) (hl.below hw2) hln hpn hq)
  unfold SmPost at hso
  have hcn := cnt_le (fun q => M p q && !inl l q) d.k.length
  have hV : outB M d.k.length l p = decide (0 < cnt (fun q => M p q && !inl l q) d.k.length) := rfl
  generalize cnt (fun q => M p q && !inl l q) d.k.length = nc at *
  generalize idx (fun q => M p q && !inl l q) d.k.length = Lc at *
  simp only [gd] at hso
  have HSO := Lib.hid hso
  have HB := Lib.hid hb
  have HV := Lib.hid hV
  obtain ⟨g0, g1⟩ := gdCells ((hb.block _ (row_lt hd)).trans hd)
  clear hso hb hx h hd hm hs hr hl hV c1
  show Calls Tryz.prog 105 #[.int .i64 (p : Int), .pointer (some ⟨gd', 0, none⟩), .pointer (some ⟨gm, 0, none⟩), .pointer (some ⟨gs, 0, none⟩)] w _
  go_enter Tryz.func105, Tryz.ntmps105
  go_wp2_with (go_at_call 106; (with_reducible refine HSO.out.mono ?_); rintro e w1 ⟨X, x, rfl, -, hb1⟩; have HB1 := Lib.hid (HB.out.trans (hb1.mono HB.out.size)); clear hb1)
  go_ret
  refine ⟨?_, HB1.out⟩
  rw [HV.out]
  first | rfl | simp

end Go.Proofs.YtgknfkmojhganaaGreat.Di
