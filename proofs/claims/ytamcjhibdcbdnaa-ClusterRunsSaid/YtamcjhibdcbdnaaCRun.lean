import Derived.Test.YtamcjhibdcbdnaaCMk
import Derived.Test.YtamcjhibdcbdnaaCAsk
namespace Go.Proofs.Ytamcjhibdcbdnaa.Cl
open Go.RowKit
open Go.Proofs.Ytamcjhibdcbdnaa.Tp
set_option linter.unusedVariables false

def v0 : Ev := ⟨0, 0, 0, 0⟩
def el : List Ev → List Value
  | [] => []
  | x :: l => [.int .i64 (x.k : Int), .int .i64 (x.i : Int), .int .i64 (x.q : Int), .int .i64 (x.b : Int)] ++ el l
theorem el_len : ∀ l, (el l).length = l.length * 4
  | [] => rfl
  | x :: l => by
    have := el_len l
    simp [el, this]
    omega
theorem el_at : ∀ (l : List Ev) (i : Nat), i < l.length → (el l)[i * 4]? = some (.int .i64 (((l.getD i v0).k : Nat) : Int)) ∧ (el l)[i * 4 + 1]? = some (.int .i64 (((l.getD i v0).i : Nat) : Int)) ∧ (el l)[i * 4 + 2]? = some (.int .i64 (((l.getD i v0).q : Nat) : Int)) ∧ (el l)[i * 4 + 3]? = some (.int .i64 (((l.getD i v0).b : Nat) : Int))
  | [], i, h => absurd h (by simp)
  | x :: l, 0, h => ⟨rfl, rfl, rfl, rfl⟩
  | x :: l, i + 1, h => by
    have ih := el_at l i (by simpa using h)
    have e1 : (i + 1) * 4 = (i * 4) + 1 + 1 + 1 + 1 := by omega
    simp only [el, e1]
    exact ih
theorem Row.evt {w : World} {B n : Nat} {A : Option Addr} {l : List Ev} (h : Row w B 4 A n (el l)) {i : Nat} (hi : i < n) : ∃ b off, A = some ⟨b, off, none⟩ ∧ B ≤ b ∧ b < w.heap.size ∧ w.cell? ⟨b, off + i * 4, none⟩ = some (.int .i64 (((l.getD i v0).k : Nat) : Int)) ∧ w.cell? ⟨b, off + i * 4 + 1, none⟩ = some (.int .i64 (((l.getD i v0).i : Nat) : Int)) ∧ w.cell? ⟨b, off + i * 4 + 2, none⟩ = some (.int .i64 (((l.getD i v0).q : Nat) : Int)) ∧ w.cell? ⟨b, off + i * 4 + 3, none⟩ = some (.int .i64 (((l.getD i v0).b : Nat) : Int)) := by
  obtain ⟨b, off, e, hB, hlt, hc⟩ := h.mem (by omega)
  have hl := h.len
  rw [el_len] at hl
  obtain ⟨a1, a2, a3, a4⟩ := el_at l i (by omega)
  exact ⟨b, off, e, hB, hlt, hc _ _ a1, hc _ _ a2, hc _ _ a3, hc _ _ a4⟩

/-- The cluster behind the first k events. -/
def rn (c : Cl) (l : List Ev) : Nat → Cl
  | 0 => c
  | k + 1 => ap (rn c l k) (l.getD k v0)

/-- All events fit. -/
def Fits (c : Cl) (l : List Ev) : Prop := ∀ k, k < l.length → Good (rn c l k) (l.getD k v0) ∧ fitB (rn c l k) (l.getD k v0) = true

theorem ok_rn {m : Nat} {c : Cl} {l : List Ev} (h : Ok m c) (hf : Fits c l) : ∀ k, k ≤ l.length → Ok (m + k) (rn c l k)
  | 0, _ => h
  | k + 1, hk => ok_ap (ok_rn h hf k (by omega)) (hf k (by omega)).1 (hf k (by omega)).2

def RunPost (c : Cl) (l : List Ev) (w : World) (e : Ending) (w' : World) : Prop := ∃ v', e = .returned (.tuple #[.agg (cv (rn c l l.length) v'), .int .i64 ((l.length : Nat) : Int), .int .i64 0]) ∧ CL w' 0 (rn c l l.length) v' ∧ Below w.heap.size w w' ∧ (0 < l.length → CL w' w.heap.size (rn c l l.length) v')

theorem results_cell_row3 {P : Program} {fn : Func} {p u u2 : Tmp} {ty : TypeId} (h : fn.results = #[.cell p ty, .tmp u, .tmp u2]) (tmps : Array Value) (w : World) (g : Nat) (t : TypeId) (cs : Array Value) (fr : Nat × Nat) (d : TypeDesc)
    (hp : tmps.getD p undef = .pointer (some ⟨g, 0, none⟩)) (hg : w.heap[g]? = some (.cells cs t fr))
    (hu : P.underlying ty = some d) (hd : (match d with | .struct _ | .array _ _ => true | _ => false) = true) (hi : (P.info? ty).map (·.size) = some cs.size) :
    (results fn tmps).run P w = .ok (.tuple #[.agg cs, tmps.getD u undef, tmps.getD u2 undef]) w := by
  have hp' : tmps[p]?.getD undef = .pointer (some ⟨g, 0, none⟩) := by simpa using hp
  simp [results, h, hp', asAddr, run_loadVar_row w g t ty cs fr d hg hu hd hi]

structure RnRel (w : World) (c : Cl) (l : List Ev) (k : Nat) (v : Vl) (wr : World) : Prop where
  row : wr.heap[w.heap.size]? = some (.cells (cv (rn c l k) v) 25 (0, 0))
  cl : CL wr 0 (rn c l k) v
  q0 : NQ w.heap.size (rn c l k) v
  q1 : NQ (w.heap.size + 1) (rn c l k) v
  z : wr.heap[w.heap.size + 1]? = some (.cells zC 25 (0, 0))
  bl : Below w.heap.size w wr
  hb : 0 < k → CL wr w.heap.size (rn c l k) v

set_option maxRecDepth 100000 in
set_option maxHeartbeats 1000000 in
theorem refrun_any (m B n cc : Nat) (A : Option Addr) (c : Cl) (v : Vl) (l : List Ev) (w : World) (h : CL w B c v) (hok : Ok m c) (hm : m + n ≤ 90) (hl : Row w 0 4 A n (el l)) (hf : Fits c l) :
    Calls Try.prog 28 #[.agg (cv c v), .slice A n cc] w (RunPost c l w) := by
  have hln : l.length = n := by have := hl.len; rw [el_len] at this; omega
  have HB0 := Lib.hid (box_below w (.cells (cv c v) 25))
  have HR0 := Lib.hid (heap_alloc_new w (.cells (cv c v) 25))
  have hbz := (box_below w (.cells (cv c v) 25)).trans ((box_below (w.alloc (.cells (cv c v) 25)) (.cells zC 25)).mono (by simp))
  have HZB := Lib.hid hbz
  have HZR := Lib.hid (heap_alloc2_new w (.cells (cv c v) 25) (.cells zC 25))
  have HZ0 := Lib.hid (heap_alloc2_old w (.cells (cv c v) 25) (.cells zC 25))
  have hch : ∀ w', Below w.heap.size w w' → Calls Try.prog 63 #[.agg #[.bool c.f, .slice v.A1 c.s.length v.c1, .slice v.A2 c.r.length v.c2, .slice v.A3 c.p.length v.c3]] w' fun e w'' => e = .returned (.bool true) ∧ Below w'.heap.size w' w'' := fun w' hw => valid_any m B c v w' (h.below hw) hok (by omega)
  have HCH := Lib.hid hch
  have HF := Lib.hid hf
  have HOK := Lib.hid hok
  have HL := Lib.hid hl
  have HLN := Lib.hid hln
  have HC := Lib.hid h
  have hall := fun o => cvCells _ _ _ _ _ _ ((heap_alloc_old (w.alloc (.cells (cv c v) 25)) o (row_lt HR0.out)).trans HR0.out)
  have c0 := fun o => (hall o).1
  have c1 := fun o => (hall o).2.1
  have c2 := fun o => (hall o).2.2.1
  have c3 := fun o => (hall o).2.2.2
  have e120 : decide ((120 : Int) < (n : Int)) = false := decide_eq_false (by omega)
  clear h hch hok hl hf hln hall hbz
  go_enter Try.func28, Try.ntmps28
  go_wp2_with fail
  refine (HCH.out _ HZB.out).mono ?_
  rintro e w1 ⟨rfl, hb1⟩
  have R1 := Lib.hid ((hb1.block w.heap.size (row_lt HZ0.out)).trans HZ0.out)
  have Z1 := Lib.hid ((hb1.block (w.heap.size + 1) (row_lt HZR.out)).trans HZR.out)
  have HB1 := Lib.hid (HZB.out.trans (hb1.mono HZB.out.size))
  clear hb1 c0 c1 c2 c3
  go_wp2_with fail
  go_loopw [21] (fun ii wr => ∃ k : Nat, k ≤ n ∧ ii = .int .i64 k ∧ ∃ v, RnRel w c l k v wr) (fun ii _ => n - (intOf ii).toNat)
  case atStart => exact ⟨0, by omega, rfl, v, R1.out, (HC.out.below HB1.out).base (Nat.zero_le _), NQ.of_size HC.out (Nat.le_refl _), NQ.of_size HC.out (Nat.le_succ _), Z1.out, HB1.out, fun h => absurd h (by omega)⟩
  case round =>
    obtain ⟨k, hk, rfl, vk, hrow, hcl, hq0, hq1, hz, hbl, hbb⟩ := hrel
    have HBB := Lib.hid hbb
    clear hbb
    have HLL := Lib.hid (HL.out.below hbl)
    have hok := ok_rn HOK.out HF.out k (by have := HLN.out; omega)
    have HROW := Lib.hid hrow
    have HCL := Lib.hid hcl
    have HQ0 := Lib.hid hq0
    have HQ1 := Lib.hid hq1
    have HZ := Lib.hid hz
    have HBL := Lib.hid hbl
    have HOKK := Lib.hid hok
    have lz : w.heap.size + 1 < wr.heap.size := row_lt hz
    by_cases hlt : k < n
    · obtain ⟨hgood, hfit⟩ := HF.out k (by have := HLN.out; omega)
      obtain ⟨b, off, hA, -, hbk, d0, d1, d2, d3⟩ := HLL.out.evt hlt
      have hall := fun o => cvCells _ _ _ _ _ _ ((heap_alloc_old wr o (row_lt hrow)).trans hrow)
      have c0 := fun o => (hall o).1
      have c1 := fun o => (hall o).2.1
      have c2 := fun o => (hall o).2.2.1
      have c3 := fun o => (hall o).2.2.2
      have HNX := Lib.hid (show rn c l (k + 1) = ap (rn c l k) (l.getD k v0) from rfl)
      generalize rn c l k = C at *
      generalize l.getD k v0 = x at *
      have hx : ∀ w', CL w' 0 C vk → Calls Try.prog 25 #[.agg #[.bool C.f, .slice vk.A1 C.s.length vk.c1, .slice vk.A2 C.r.length vk.c2, .slice vk.A3 C.p.length vk.c3], .agg #[.int .i64 (x.k : Int), .int .i64 (x.i : Int), .int .i64 (x.q : Int), .int .i64 (x.b : Int)]] w' (RPost (ap C x) w') := fun w' hc => (refapply_any (m + k) 0 C vk x w' hc HOKK.out (by omega) hgood).mono fun e w'' hp => by
        rcases hp with ⟨_, hp⟩ | ⟨h2, _⟩
        · exact hp
        · rw [hfit] at h2
          cases h2
      have HX := Lib.hid hx
      have i0 : (0 : Int) ≤ (k : Int) := by omega
      have i1 : (k : Int) < (n : Int) := by omega
      clear hrow hcl hq0 hq1 hz hbl hok hall hx hgood hfit
      subst hA
      go_wp2_with fail
      refine (HX.out _ (HCL.out.below (box_below _ _))).mono ?_
      rintro e w2 ⟨v2, rfl, hc2, hb2⟩
      have hl2 := hb2.size
      simp at hl2
      have T0 := Lib.hid ((hb2.block w.heap.size (by simp; omega)).trans ((heap_alloc_old _ _ (row_lt HROW.out)).trans HROW.out))
      have T1 := Lib.hid ((hb2.block (w.heap.size + 1) (by simp; omega)).trans ((heap_alloc_old _ _ lz).trans HZ.out))
      have HB2 := Lib.hid (HBL.out.trans (((box_below wr _).trans (hb2.mono (by simp))).mono HBL.out.size))
      have HC2 := Lib.hid (hc2.base (show wr.heap.size ≤ _ by simp))
      clear hb2 hc2 c0 c1 c2 c3 d0 d1 d2 d3
      generalize ap C x = C2 at *
      have U0 := Lib.hid ((heap_alloc_old w2 (.cells (cv C2 v2) 25) (row_lt T0.out)).trans T0.out)
      have U1 := Lib.hid ((heap_alloc_old w2 (.cells (cv C2 v2) 25) (row_lt T1.out)).trans T1.out)
      have UN := Lib.hid (heap_alloc_new w2 (.cells (cv C2 v2) 25))
      go_wp2_with (first
        | (refine wpList_store_row rfl 25 (.tmp 9) (.tmp 30) rfl w2.heap.size (cv C2 v2) rfl rfl 25 zC (heap_alloc_new _ _) (info25 _ _) rfl (cv_one _ _) ?_; rw [new_set])
        | (refine wpList_load_row rfl 25 (.tmp 9) rfl w2.heap.size rfl 25 (cv C2 v2) (0, 0) _ UN.out Try.underlying25 rfl (info25 _ _) ?_)
        | (refine wpList_store_row rfl 25 (.tmp 2) (.tmp 37) rfl w.heap.size (cv C2 v2) rfl rfl 25 (cv C vk) U0.out (info25 _ _) rfl (cv_one _ _) ?_))
      refine ⟨⟨k + 1, by omega, by go_num, v2, ?_⟩, by simp [intOf]; omega⟩
      have hfin : (w2.alloc (.cells (cv C2 v2) 25)).setRow w.heap.size (cv C2 v2) = (w2.alloc (.cells (cv C2 v2) 25)).setRow w.heap.size (cv C2 v2) := rfl
      refine ⟨?_, ?_, ?_, ?_, ?_, ?_, fun _ => ?_⟩
      · rw [HNX.out]; exact setRow_heap _ _ _ _ _ _ U0.out
      · rw [HNX.out]; exact (((HC2.out.below (box_below _ _)).set (by omega) _).base (Nat.zero_le _))
      · rw [HNX.out]; exact NQ.of_base HC2.out (by omega)
      · rw [HNX.out]; exact NQ.of_base HC2.out (by omega)
      · exact (setRow_other _ _ _ _ (by omega)).trans U1.out
      · exact below_setRow (HB2.out.trans ((box_below w2 _).mono HB2.out.size)) (Nat.le_refl _) _
      · rw [HNX.out]; exact (((HC2.out.below (box_below _ _)).set (by omega) _).base (by omega))
    · obtain rfl : n = k := by omega
      have HNX := HLN.out
      obtain ⟨k0, k1, k2, k3⟩ := cvCells _ _ _ _ _ _ hrow
      obtain ⟨j0, j1, j2, j3, j4, j5, j6, j7⟩ := zCells hz
      clear hrow hcl hq0 hq1 hz hbl hok
      subst HNX
      generalize hC : rn c l l.length = C at *
      go_wp2_with fail
      rw [set4row HZ.out rfl]
      refine bodyPost_ret (v := .tuple #[.agg (cv C vk), .int .i64 ((l.length : Nat) : Int), .int .i64 0]) (results_cell_row3 (fn := Try.f28) (p := 4) (u := 5) (u2 := 6) rfl _ _ (w.heap.size + 1) 25 (cv C vk) (0, 0) _ rfl (setRow_heap _ _ _ _ _ _ HZ.out) Try.underlying25 rfl (info25 _ _)) rfl ⟨vk, by rw [hC], ?_, below_setRow HBL.out (Nat.le_succ _) _, fun h => ?_⟩
      · rw [hC]
        exact HCL.out.setq HQ1.out _
      · rw [hC]
        exact (HBB.out h).setq HQ1.out _

end Go.Proofs.Ytamcjhibdcbdnaa.Cl
