import Derived.Test.YtamcjhibdcbdnaaCApA
namespace Go.Proofs.Ytamcjhibdcbdnaa.Cl
open Go.RowKit
open Go.Proofs.Ytamcjhibdcbdnaa.Tp
set_option linter.unusedVariables false

/-- A list of events of which the first k fit, and the next one, if there is one, does not. -/
structure RunK (c : Cl) (l : List Ev) (k : Nat) : Prop where
  le : k ≤ l.length
  fit : ∀ j, j < k → Good (rn c l j) (l.getD j v0) ∧ fitB (rn c l j) (l.getD j v0) = true
  stop : k < l.length → Good (rn c l k) (l.getD k v0) ∧ fitB (rn c l k) (l.getD k v0) = false

theorem RunK.of_fits {c : Cl} {l : List Ev} (h : Fits c l) : RunK c l l.length := ⟨Nat.le_refl _, h, fun h => absurd h (Nat.lt_irrefl _)⟩

theorem ok_rnk {m : Nat} {c : Cl} {l : List Ev} {K : Nat} (h : Ok m c) (hf : RunK c l K) : ∀ k, k ≤ K → Ok (m + k) (rn c l k)
  | 0, _ => h
  | k + 1, hk => ok_ap (ok_rnk h hf k (by omega)) (hf.fit k (by omega)).1 (hf.fit k (by omega)).2

def rne (l : List Ev) (k : Nat) : Int := if k = l.length then 0 else 39

def RunP (c : Cl) (l : List Ev) (k : Nat) (w : World) (e : Ending) (w' : World) : Prop := ∃ v', e = .returned (.tuple #[.agg (cv (rn c l k) v'), .int .i64 ((k : Nat) : Int), .int .i64 (rne l k)]) ∧ CL w' w.heap.size (rn c l k) v' ∧ Below w.heap.size w w'

theorem zc_one2 : zC.all (·.oneCell') = true := by simp [zC, Value.oneCell']

structure RpRel (w : World) (c : Cl) (l : List Ev) (k : Nat) (v : Vl) (wr : World) : Prop where
  row : wr.heap[w.heap.size]? = some (.cells (cv (rn c l k) v) 25 (0, 0))
  cl : CL wr (w.heap.size + 2) (rn c l k) v
  z : wr.heap[w.heap.size + 1]? = some (.cells zC 25 (0, 0))
  bl : Below w.heap.size w wr

set_option maxRecDepth 100000 in
set_option maxHeartbeats 2000000 in
theorem run_any (m B n cc K : Nat) (A : Option Addr) (c : Cl) (v : Vl) (l : List Ev) (w : World) (h : CL w B c v) (hok : Ok m c) (hm : m + n ≤ 90) (hl : Row w 0 4 A n (el l)) (hf : RunK c l K) :
    Calls Try.prog 27 #[.agg (cv c v), .slice A n cc] w (RunP c l K w) := by
  have hln : l.length = n := by have := hl.len; rw [el_len] at this; omega
  have HB0 := Lib.hid (box_below w (.cells (cv c v) 25))
  have HR0 := Lib.hid (heap_alloc_new w (.cells (cv c v) 25))
  have hbz := (box_below w (.cells (cv c v) 25)).trans ((box_below (w.alloc (.cells (cv c v) 25)) (.cells zC 25)).mono (by simp))
  have HZB := Lib.hid hbz
  have HZR := Lib.hid (heap_alloc2_new w (.cells (cv c v) 25) (.cells zC 25))
  have HZ0 := Lib.hid (heap_alloc2_old w (.cells (cv c v) 25) (.cells zC 25))
  have hch : ∀ w', Below w.heap.size w w' → Calls Try.prog 21 #[.agg #[.bool c.f, .slice v.A1 c.s.length v.c1, .slice v.A2 c.r.length v.c2, .slice v.A3 c.p.length v.c3]] w' fun e w'' => e = .returned (.int .i64 0) ∧ Below w'.heap.size w' w'' := fun w' hw => check_any m B c v w' (h.below hw) hok (by omega)
  have hco : ∀ w', Below w.heap.size w w' → Calls Try.prog 65 #[.agg #[.bool c.f, .slice v.A1 c.s.length v.c1, .slice v.A2 c.r.length v.c2, .slice v.A3 c.p.length v.c3]] w' fun e w'' => ∃ v', e = .returned (.agg (cv c v')) ∧ Own w'' w'.heap.size c v' ∧ Below w'.heap.size w' w'' := fun w' hw => copyOf_any m B c v w' (h.below hw) hok (by omega)
  have HCH := Lib.hid hch
  have HCO := Lib.hid hco
  have HF := Lib.hid hf
  have HOK := Lib.hid hok
  have HL := Lib.hid hl
  have HLN := Lib.hid hln
  have HKL := Lib.hid hf.le
  have hall := fun o => cvCells _ _ _ _ _ _ ((heap_alloc_old (w.alloc (.cells (cv c v) 25)) o (row_lt HR0.out)).trans HR0.out)
  have c0 := fun o => (hall o).1
  have c1 := fun o => (hall o).2.1
  have c2 := fun o => (hall o).2.2.1
  have c3 := fun o => (hall o).2.2.2
  have e120 : decide ((120 : Int) < (n : Int)) = false := decide_eq_false (by omega)
  have hn90 : n ≤ 90 := by omega
  clear h hch hco hok hl hf hln hall hbz
  go_enter Try.func27, Try.ntmps27
  go_wp2_with fail
  refine (HCH.out _ HZB.out).mono ?_
  rintro e w1 ⟨rfl, hb1⟩
  have R1 := Lib.hid ((hb1.block w.heap.size (row_lt HZ0.out)).trans HZ0.out)
  have Z1 := Lib.hid ((hb1.block (w.heap.size + 1) (row_lt HZR.out)).trans HZR.out)
  have HB1 := Lib.hid (HZB.out.trans (hb1.mono HZB.out.size))
  have hs1 := hb1.size
  simp at hs1
  clear hb1 c0 c1 c2 c3
  obtain ⟨c0, c1, c2, c3⟩ := cvCells _ _ _ _ _ _ R1.out
  go_wp2_with fail
  refine (HCO.out _ HB1.out).mono ?_
  rintro e w2 ⟨u, rfl, hown, hb2⟩
  have R2 := Lib.hid ((hb2.block w.heap.size (row_lt R1.out)).trans R1.out)
  have Z2 := Lib.hid ((hb2.block (w.heap.size + 1) (row_lt Z1.out)).trans Z1.out)
  have HB2 := Lib.hid (HB1.out.trans (hb2.mono HB1.out.size))
  have HC2 := Lib.hid (hown.cl.base (show w.heap.size + 2 ≤ w1.heap.size by omega))
  clear hb2 hown c0 c1 c2 c3
  go_wp2_with (with_reducible (show wpList _ _ _ (⟨none, .store 25 (.tmp 2) (.tmp 23), _, _, _, _⟩ :: _) _ _); refine wpList_store_row (o := ⟨none, .store 25 (.tmp 2) (.tmp 23), _, _, _, _⟩) rfl 25 (.tmp 2) (.tmp 23) rfl w.heap.size (cv c u) rfl rfl 25 (cv c v) R2.out (info25 _ _) rfl (cv_one _ _) ?_)
  go_loopw [26] (fun ii wr => ∃ k : Nat, k ≤ K ∧ ii = .int .i64 k ∧ ∃ v, RpRel w c l k v wr) (fun ii _ => n - (intOf ii).toNat)
  case atStart => exact ⟨0, by omega, rfl, u, setRow_heap _ _ _ _ _ _ R2.out, HC2.out.set (by omega) _, (setRow_other _ _ _ _ (by omega)).trans Z2.out, below_setRow HB2.out (Nat.le_refl _) _⟩
  case round =>
    obtain ⟨k, hk, rfl, vk, hrow, hcl, hz, hbl⟩ := hrel
    have HLL := Lib.hid (HL.out.below hbl)
    have hok := ok_rnk HOK.out HF.out k hk
    have HROW := Lib.hid hrow
    have HCL := Lib.hid hcl
    have HZ := Lib.hid hz
    have HBL := Lib.hid hbl
    have HOKK := Lib.hid hok
    have lz : w.heap.size + 1 < wr.heap.size := row_lt hz
    have hkn : K ≤ n := by have := HKL.out; have := HLN.out; omega
    by_cases hlt : k < n
    · obtain ⟨b, off, hA, -, hbk, d0, d1, d2, d3⟩ := HLL.out.evt hlt
      have hall := fun o => cvCells _ _ _ _ _ _ ((heap_alloc_old wr o (row_lt hrow)).trans hrow)
      have c0 := fun o => (hall o).1
      have c1 := fun o => (hall o).2.1
      have c2 := fun o => (hall o).2.2.1
      have c3 := fun o => (hall o).2.2.2
      have i0 : (0 : Int) ≤ (k : Int) := by omega
      have i1 : (k : Int) < (n : Int) := by omega
      subst hA
      by_cases hkK : k < K
      · obtain ⟨hgood, hfit⟩ := HF.out.fit k hkK
        have HNX := Lib.hid (show rn c l (k + 1) = ap (rn c l k) (l.getD k v0) from rfl)
        generalize rn c l k = C at *
        generalize l.getD k v0 = x at *
        have hx : ∀ w', CL w' (w.heap.size + 2) C vk → Calls Try.prog 24 #[.agg #[.bool C.f, .slice vk.A1 C.s.length vk.c1, .slice vk.A2 C.r.length vk.c2, .slice vk.A3 C.p.length vk.c3], .agg #[.int .i64 (x.k : Int), .int .i64 (x.i : Int), .int .i64 (x.q : Int), .int .i64 (x.b : Int)]] w' (RPost (ap C x) w') := fun w' hc => (apply_any (m + k) _ C vk x w' hc HOKK.out (by omega) hgood).mono fun e w'' hp => by
          rcases hp with ⟨_, hp⟩ | ⟨h2, _⟩
          · exact hp
          · rw [hfit] at h2
            cases h2
        have HX := Lib.hid hx
        clear hrow hcl hz hbl hok hall hx hgood hfit
        go_wp2_with fail
        refine (HX.out _ (HCL.out.below (box_below _ _))).mono ?_
        rintro e w2 ⟨v2, rfl, hc2, hb2⟩
        have hl2 := hb2.size
        simp at hl2
        have T0 := Lib.hid ((hb2.block w.heap.size (by simp; omega)).trans ((heap_alloc_old _ _ (row_lt HROW.out)).trans HROW.out))
        have T1 := Lib.hid ((hb2.block (w.heap.size + 1) (by simp; omega)).trans ((heap_alloc_old _ _ lz).trans HZ.out))
        have HB2 := Lib.hid (HBL.out.trans (((box_below wr _).trans (hb2.mono (by simp))).mono HBL.out.size))
        have HC2 := Lib.hid (hc2.base (show wr.heap.size ≤ _ by simp))
        clear hb2 hc2 c0 c1 c2 c3 d0 d1 d2 d3
        generalize ap C x = C2 at *
        have U0 := Lib.hid ((heap_alloc_old w2 (.cells (cv C2 v2) 25) (row_lt T0.out)).trans T0.out)
        have U1 := Lib.hid ((heap_alloc_old w2 (.cells (cv C2 v2) 25) (row_lt T1.out)).trans T1.out)
        have UN := Lib.hid (heap_alloc_new w2 (.cells (cv C2 v2) 25))
        go_wp2_with (first
          | (with_reducible (show wpList _ _ _ (⟨none, .store 25 (.tmp 10) (.tmp 35), _, _, _, _⟩ :: _) _ _); refine wpList_store_row (o := ⟨none, .store 25 (.tmp 10) (.tmp 35), _, _, _, _⟩) rfl 25 (.tmp 10) (.tmp 35) rfl w2.heap.size (cv C2 v2) rfl rfl 25 zC (heap_alloc_new _ _) (info25 _ _) rfl (cv_one _ _) ?_; rw [new_set])
          | (refine wpList_load_row rfl 25 (.tmp 10) rfl w2.heap.size rfl 25 (cv C2 v2) (0, 0) _ UN.out Try.underlying25 rfl (info25 _ _) ?_)
          | (with_reducible (show wpList _ _ _ (⟨none, .store 25 (.tmp 2) (.tmp 42), _, _, _, _⟩ :: _) _ _); refine wpList_store_row (o := ⟨none, .store 25 (.tmp 2) (.tmp 42), _, _, _, _⟩) rfl 25 (.tmp 2) (.tmp 42) rfl w.heap.size (cv C2 v2) rfl rfl 25 (cv C vk) U0.out (info25 _ _) rfl (cv_one _ _) ?_))
        refine ⟨⟨k + 1, by omega, by go_num, v2, ?_⟩, by simp [intOf]; omega⟩
        refine ⟨?_, ?_, ?_, ?_⟩
        · rw [HNX.out]; exact setRow_heap _ _ _ _ _ _ U0.out
        · rw [HNX.out]; exact (((HC2.out.below (box_below _ _)).set (by omega) _).base (by omega))
        · exact (setRow_other _ _ _ _ (by omega)).trans U1.out
        · exact below_setRow (HB2.out.trans ((box_below w2 _).mono HB2.out.size)) (Nat.le_refl _) _
      · obtain rfl : k = K := by omega
        obtain ⟨hgood, hfit⟩ := HF.out.stop (by have := HLN.out; omega)
        have hre : rne l k = 39 := if_neg (by have := HLN.out; omega)
        generalize hC : rn c l k = C at *
        generalize l.getD k v0 = x at *
        have hx : ∀ w', CL w' (w.heap.size + 2) C vk → Calls Try.prog 24 #[.agg #[.bool C.f, .slice vk.A1 C.s.length vk.c1, .slice vk.A2 C.r.length vk.c2, .slice vk.A3 C.p.length vk.c3], .agg #[.int .i64 (x.k : Int), .int .i64 (x.i : Int), .int .i64 (x.q : Int), .int .i64 (x.b : Int)]] w' (BPost w') := fun w' hc => (apply_any (m + k) _ C vk x w' hc HOKK.out (by omega) hgood).mono fun e w'' hp => by
          rcases hp with ⟨h2, _⟩ | ⟨_, hp⟩
          · rw [hfit] at h2
            cases h2
          · exact hp
        have HX := Lib.hid hx
        have HRE := Lib.hid hre
        have HCC := Lib.hid hC
        clear hrow hcl hz hbl hok hall hx hgood hfit hre hC
        go_wp2_with fail
        refine (HX.out _ (HCL.out.below (box_below _ _))).mono ?_
        rintro e w2 ⟨rfl, hb2⟩
        have hl2 := hb2.size
        simp at hl2
        have T0 := Lib.hid ((hb2.block w.heap.size (by simp; omega)).trans ((heap_alloc_old _ _ (row_lt HROW.out)).trans HROW.out))
        have T1 := Lib.hid ((hb2.block (w.heap.size + 1) (by simp; omega)).trans ((heap_alloc_old _ _ lz).trans HZ.out))
        have HB2 := Lib.hid (HBL.out.trans (((box_below wr _).trans (hb2.mono (by simp))).mono HBL.out.size))
        have HC2 := Lib.hid (HCL.out.below ((box_below wr _).trans (hb2.mono (by simp))))
        clear hb2 c0 c1 c2 c3 d0 d1 d2 d3
        have U0 := Lib.hid ((heap_alloc_old w2 (.cells zC 25) (row_lt T0.out)).trans T0.out)
        have U1 := Lib.hid ((heap_alloc_old w2 (.cells zC 25) (row_lt T1.out)).trans T1.out)
        have HC3 := Lib.hid (HC2.out.below (box_below w2 (.cells zC 25)))
        have HB3 := Lib.hid (HB2.out.trans ((box_below w2 (.cells zC 25)).mono HB2.out.size))
        obtain ⟨c0, c1, c2, c3⟩ := cvCells _ _ _ _ _ _ U0.out
        obtain ⟨j0, j1, j2, j3, j4, j5, j6, j7⟩ := zCells U1.out
        go_wp2_with (with_reducible (show wpList _ _ _ (⟨none, .store 25 (.tmp 10) (.tmp 35), _, _, _, _⟩ :: _) _ _); refine wpList_store_row (o := ⟨none, .store 25 (.tmp 10) (.tmp 35), _, _, _, _⟩) rfl 25 (.tmp 10) (.tmp 35) rfl w2.heap.size zC rfl rfl 25 zC (heap_alloc_new _ _) infoz rfl zc_one2 ?_; rw [new_set])
        rw [set4row U1.out rfl]
        refine bodyPost_ret (v := .tuple #[.agg (cv C vk), .int .i64 ((k : Nat) : Int), .int .i64 39]) (results_cell_row3 (fn := Try.f27) (p := 4) (u := 5) (u2 := 6) rfl _ _ (w.heap.size + 1) 25 (cv C vk) (0, 0) _ rfl (setRow_heap _ _ _ _ _ _ U1.out) Try.underlying25 rfl (info25 _ _)) rfl ⟨vk, by rw [HCC.out, HRE.out], ?_, below_setRow HB3.out (Nat.le_succ _) _⟩
        rw [HCC.out]
        exact (HC3.out.set (by omega) _).base (by omega)
    · obtain rfl : n = k := by omega
      obtain rfl : K = n := by omega
      have hre : rne l K = 0 := if_pos HLN.out.symm
      have HRE := Lib.hid hre
      obtain ⟨k0, k1, k2, k3⟩ := cvCells _ _ _ _ _ _ hrow
      obtain ⟨j0, j1, j2, j3, j4, j5, j6, j7⟩ := zCells hz
      clear hrow hcl hz hbl hok hre
      generalize hC : rn c l K = C at *
      have HCC := Lib.hid hC
      clear hC
      go_wp2_with fail
      rw [set4row HZ.out rfl]
      refine bodyPost_ret (v := .tuple #[.agg (cv C vk), .int .i64 ((K : Nat) : Int), .int .i64 0]) (results_cell_row3 (fn := Try.f27) (p := 4) (u := 5) (u2 := 6) rfl _ _ (w.heap.size + 1) 25 (cv C vk) (0, 0) _ rfl (setRow_heap _ _ _ _ _ _ HZ.out) Try.underlying25 rfl (info25 _ _)) rfl ⟨vk, by rw [HCC.out, HRE.out], ?_, below_setRow HBL.out (Nat.le_succ _) _⟩
      rw [HCC.out]
      exact (HCL.out.set (by omega) _).base (by omega)

end Go.Proofs.Ytamcjhibdcbdnaa.Cl
