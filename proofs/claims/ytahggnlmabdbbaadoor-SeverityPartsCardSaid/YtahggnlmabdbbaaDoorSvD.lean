import Derived.Test.YtahggnlmabdbbaaDoorSvC
namespace Go.Proofs.YtahggnlmabdbbaaDoor.Di
open Go.RowKit Go.Shelf Go.Maps
open Go.Proofs.YtahggnlmabdbbaaDoor.Tp
open Go.Proofs.YtahggnlmabdbbaaDoor.Sx
set_option linter.unusedVariables false
set_option maxRecDepth 100000 in
set_option maxHeartbeats 4000000 in
theorem rlevel_any (s : Int) (w : World) : Calls Tryd.prog 13 #[.int .i64 s] w fun e w' => e = .returned (.int .i64 (lvl s)) ∧ w = w' := by
  refine Sx.enter Tryd.func13 rfl Tryd.ntmps13 rfl (fun fr => ?_)
  refine Sx.seq ?_
  refine Sx.reg ?_
  refine Sx.sv (r_as rfl) rfl (wnt0 rfl) ?_
  refine wnil ?_
  refine Sx.nT ?_
  refine Sx.seq ?_
  refine Sx.reg ?_
  refine Sx.sv (r_as rfl) rfl (wnt0 rfl) ?_
  refine wnil ?_
  refine Sx.nT ?_
  refine Sx.seq ?_
  refine Sx.seq ?_
  refine Sx.reg ?_
  refine Sx.sv (r_bld rfl (bd57 _ _ _ _)) rfl (wnt0 rfl) ?_
  refine Sx.sv (r_mv rfl) rfl (wnt0 rfl) ?_
  refine wnil ?_
  refine Sx.nT ?_
  refine Sx.blk ?_
  refine Sx.lp (Nat) (fun i => [(7, .int .i64 (i : Int)), (6, .agg (List.toArray [.int .i64 1, .int .i64 100, .int .i64 1000, .int .i64 10000])), (3, .int .i64 (lvN s i)), (0, .int .i64 s)]) (fun i wr => i ≤ 4 ∧ w = wr) (fun i => 4 - i) 0 ⟨rfl, rfl, rfl, rfl, trivial⟩ ⟨Nat.zero_le _, rfl⟩ ?_
  rintro i fr w1 ⟨hi, rfl⟩
  show Code.wp _ _ _ (Fa fr [(7, .int .i64 (i : Int)), (6, .agg (List.toArray [.int .i64 1, .int .i64 100, .int .i64 1000, .int .i64 10000])), (3, .int .i64 (lvN s i)), (0, .int .i64 s)]) _
  refine Sx.seq ?_
  refine Sx.reg ?_
  refine Sx.sv (r_lt rfl rfl) rfl (wnt0 rfl) ?_
  refine wnil ?_
  refine Sx.nT ?_
  refine Sx.seq ?_
  by_cases hlt : i < 4
  · refine Sx.ct rfl (decide_eq_true (by omega)) ?_
    have hb := lvN_b s i
    refine wp_skip ?_
    refine Sx.nT ?_
    refine Sx.seq ?_
    refine Sx.blk ?_
    refine Sx.seq ?_
    refine Sx.reg ?_
    refine Sx.sv (r_tb rfl rfl hlt) rfl (wnt0 rfl) ?_
    refine Sx.sv (r_as rfl) rfl (wnt0 rfl) ?_
    refine wnil ?_
    refine Sx.nT ?_
    refine Sx.seq ?_
    refine Sx.reg ?_
    refine Sx.sv (r_mv rfl) rfl (wnt0 rfl) ?_
    refine Sx.sv (r_mv rfl) rfl (wnt0 rfl) ?_
    refine Sx.sv (r_ge rfl rfl) rfl (wnt0 rfl) ?_
    refine wnil ?_
    refine Sx.nT ?_
    by_cases hle : tb i ≤ s
    · refine Sx.ct rfl (decide_eq_true hle) ?_
      refine Sx.reg ?_
      refine Sx.sv (r_mv rfl) rfl (wnt0 rfl) ?_
      refine Sx.sv (r_add rfl rfl (by omega) (by omega)) rfl (wnt0 rfl) ?_
      refine Sx.sv (r_as rfl) rfl (wnt0 rfl) ?_
      refine wnil ?_
      refine Sx.nB ?_
      refine Sx.nT ?_
      refine Sx.reg ?_
      refine Sx.sv (r_add rfl rfl (by omega) (by omega)) rfl (wnt0 rfl) ?_
      refine Sx.sv (r_mv rfl) rfl (wnt0 rfl) ?_
      refine wnil ?_
      refine Sx.nT ?_
      have hs : lvN s (i + 1) = lvN s i + 1 := by rw [lvN, if_pos hle]
      exact Sx.lpe (i + 1) ⟨rfl, rfl, congrArg (fun q => some (Value.int .i64 q)) hs.symm, rfl, trivial⟩ ⟨hlt, rfl⟩ (show 4 - (i + 1) < 4 - i by omega)
    · refine Sx.cf rfl (decide_eq_false hle) ?_
      refine wp_skip ?_
      refine Sx.nB ?_
      refine Sx.nT ?_
      refine Sx.reg ?_
      refine Sx.sv (r_add rfl rfl (by omega) (by omega)) rfl (wnt0 rfl) ?_
      refine Sx.sv (r_mv rfl) rfl (wnt0 rfl) ?_
      refine wnil ?_
      refine Sx.nT ?_
      have hs : lvN s (i + 1) = lvN s i := by rw [lvN, if_neg hle]
      exact Sx.lpe (i + 1) ⟨rfl, rfl, congrArg (fun q => some (Value.int .i64 q)) hs.symm, rfl, trivial⟩ ⟨hlt, rfl⟩ (show 4 - (i + 1) < 4 - i by omega)
  · refine Sx.cf rfl (decide_eq_false (by omega)) ?_
    refine wp_exit ?_
    refine Sx.eT ?_
    refine Sx.eT ?_
    refine Sx.eB ?_
    refine Sx.nT ?_
    refine Sx.seq ?_
    refine Sx.reg ?_
    refine Sx.sv (r_mv rfl) rfl (wnt0 rfl) ?_
    refine Sx.sv (r_as rfl) rfl (wnt0 rfl) ?_
    refine wnil ?_
    refine Sx.nT ?_
    refine wp_ret ?_
    obtain rfl : i = 4 := by omega
    exact Sx.ret1 Tryd.results13 rfl ⟨rfl, rfl⟩
/-- The first severity of the greatest score, among the first k. -/
def wsN (l : List T4) : Nat → Nat
  | 0 => 0
  | k + 1 => if (e4 l (wsN l k)).d < (e4 l k).d then k else wsN l k
theorem wsN_lt (l : List T4) : ∀ {k n : Nat}, k ≤ n → 0 < n → wsN l k < n
  | 0, _, _, h => h
  | k + 1, n, h, h0 => by
    rw [wsN]
    split
    · omega
    · exact wsN_lt l (by omega) h0
theorem wsN_max (l : List T4) : ∀ {k j : Nat}, j < k → (e4 l j).d ≤ (e4 l (wsN l k)).d
  | k + 1, j, h => by
    rw [wsN]
    by_cases hj : j = k
    · subst hj
      split
      · exact Int.le_refl _
      · omega
    · have := wsN_max l (show j < k by omega)
      split <;> omega
theorem wsN_first (l : List T4) : ∀ {k j : Nat}, j < wsN l k → (e4 l j).d < (e4 l (wsN l k)).d
  | 0, j, h => absurd h (by simp [wsN])
  | k + 1, j, h => by
    rw [wsN] at h ⊢
    by_cases hc : (e4 l (wsN l k)).d < (e4 l k).d
    · rw [if_pos hc] at h ⊢
      have := wsN_max l h
      omega
    · rw [if_neg hc] at h ⊢
      exact wsN_first l h
set_option maxRecDepth 100000 in
set_option maxHeartbeats 4000000 in
theorem worst_any (l : List T4) (A : Option Addr) (c : Nat) (w : World) (hl : Row w 0 4 A l.length (v4 l)) (hn : l.length ≤ 1000) :
    Calls Tryd.prog 20 #[.slice A l.length c] w fun e w' => e = .returned (.tuple #[.int .i64 (wsN l l.length : Nat), .bool (decide ((0 : Int) < (l.length : Int)))]) ∧ Below w.heap.size w w' := by
  have HL := Has.row hl
  have E : Rel (fun x => w.heap.size ≤ x) w w := Rel.refl _ _
  refine Sx.enter Tryd.func20 rfl Tryd.ntmps20 rfl (fun fr => ?_)
  refine Sx.seq ?_
  refine Sx.reg ?_
  refine Sx.sv (r_as rfl) rfl (wnt0 rfl) ?_
  refine Sx.sv (r_as rfl) rfl (wnt0 rfl) ?_
  refine wnil ?_
  refine Sx.nT ?_
  refine Sx.seq ?_
  refine Sx.reg ?_
  refine Sx.sv (r_as rfl) rfl (wnt0 rfl) ?_
  refine wnil ?_
  refine Sx.nT ?_
  refine Sx.seq ?_
  refine Sx.seq ?_
  refine Sx.reg ?_
  refine Sx.sv (r_mv rfl) rfl (wnt0 rfl) ?_
  refine Sx.sv (r_ln Tryd.underlying28 rfl) rfl (wnt0 rfl) ?_
  refine Sx.sv (r_mv rfl) rfl (wnt0 rfl) ?_
  refine wnil ?_
  refine Sx.nT ?_
  refine Sx.blk ?_
  have t1_HL := HL.le
  refine Sx.lp (Nat) (fun i => [(9, .int .i64 (i : Int)), (7, .slice A l.length c), (8, .int .i64 (l.length : Int)), (4, .int .i64 (wsN l i : Nat)), (0, .slice A l.length c)]) (fun i wr => Rel (fun x => w.heap.size ≤ x) w wr ∧ i ≤ l.length) (fun i => l.length - i) 0 ⟨rfl, rfl, rfl, rfl, rfl, trivial⟩ ⟨Rel.refl _ _, Nat.zero_le _⟩ ?_
  rintro i fr w1 ⟨E1, hi⟩
  show Code.wp _ _ _ (Fa fr [(9, .int .i64 (i : Int)), (7, .slice A l.length c), (8, .int .i64 (l.length : Int)), (4, .int .i64 (wsN l i : Nat)), (0, .slice A l.length c)]) _
  replace HL := HL.rel E1 (fun x h1 h2 => show ¬ (w.heap.size ≤ x) by omega)
  have s1_E := E.size
  replace E := E.then E1 (fun x hx (e : w.heap.size ≤ x) => show w.heap.size ≤ x by omega)
  refine Sx.seq ?_
  refine Sx.reg ?_
  refine Sx.sv (r_lt rfl rfl) rfl (wnt0 rfl) ?_
  refine wnil ?_
  refine Sx.nT ?_
  refine Sx.seq ?_
  by_cases hlt : i < l.length
  · refine Sx.ct rfl (decide_eq_true (by omega)) ?_
    have hws := wsN_lt l hi (show 0 < l.length by omega)
    obtain ⟨ba, oa, hA1, -, hba, hca⟩ := HL.ok.t4 hlt
    obtain ⟨bp, op, hA2, -, hbp, hcp⟩ := HL.ok.t4 hws
    have e12 := hA1.symm.trans hA2
    simp only [Option.some.injEq, Addr.mk.injEq] at e12
    obtain ⟨rfl, rfl, -⟩ := e12
    have m1 : Me _ ba (oa + i * 4) [_, _, _, _] := ⟨hba, hca.seg⟩
    have m2 : Me _ ba (oa + wsN l i * 4) [_, _, _, _] := ⟨hbp, hcp.seg⟩
    refine wp_skip ?_
    refine Sx.nT ?_
    refine Sx.seq ?_
    refine Sx.blk ?_
    refine Sx.seq ?_
    refine Sx.reg ?_
    refine Sx.sv (r_mv rfl) rfl (wnt0 rfl) ?_
    refine Sx.sv (r_ixi ix28 rfl (by first | rfl | assumption) rfl (by first | rfl | assumption) (by omega)) rfl (wnt0 rfl) ?_
    refine Sx.sv (r_ldr ty47 rfl (m1.seg) rfl) rfl (wnt0 rfl) ?_
    refine Sx.sy (y_all zi47 rfl) rfl (wnt0 rfl) ?_
    rintro _ w2 ⟨b2, rfl, n2, x2⟩
    have l2_HL : w.heap.size ≤ b2 := Nat.le_trans HL.le n2.ge
    have l2_m1 : ba < b2 := Nat.lt_of_lt_of_le m1.lt n2.ge
    have l2_m2 : ba < b2 := Nat.lt_of_lt_of_le m2.lt n2.ge
    have g2 : w.heap.size ≤ b2 := Nat.le_trans E.size n2.ge
    have g2_E1 : w.heap.size ≤ b2 := Nat.le_trans E1.size n2.ge
    replace HL := HL.nw n2.r
    replace m1 := m1.nw n2.r
    replace m2 := m2.nw n2.r
    replace E := E.then n2.r (fun _ _ h => h.elim)
    replace E1 := E1.then n2.r (fun _ _ h => h.elim)
    refine Sx.sv (r_as rfl) rfl (wnt0 rfl) ?_
    refine Sx.syu (u_stR ty47 rfl rfl rfl x2 rfl rfl) rfl (wnt0 rfl) ?_
    rintro w3 ⟨r3, z3, x3n⟩
    replace HL := HL.ch r3 (by omega)
    replace m1 := m1.ch r3 (by omega)
    replace m2 := m2.ch r3 (by omega)
    replace E := E.then r3 (fun x hx (e : x = b2) => show w.heap.size ≤ x by omega)
    replace E1 := E1.then r3 (fun x hx (e : x = b2) => show w.heap.size ≤ x by omega)
    replace x2 := x3n; clear x3n
    refine wnil ?_
    refine Sx.nT ?_
    refine Sx.seq ?_
    refine Sx.drg 8 (fun w4 wv => Rel (fun x => False) w4 wv) mx (fun w4 hd => ?_)
    replace HL := HL.nw hd
    replace m1 := m1.nw hd
    replace m2 := m2.nw hd
    replace x2 := x2.nw hd
    replace E := E.then hd (fun _ _ h => h.elim)
    replace E1 := E1.then hd (fun _ _ h => h.elim)
    have sd4_E := E.size
    have sd4_E1 := E1.size
    have q_HL := HL.le
    have q_m1 := m1.lt
    have q_m2 := m2.lt
    have q_x2 := x2.lt
    have d_HL := HL
    have d_m1 := m1
    have d_m2 := m2
    have d_x2 := x2
    have hS : Rel (fun x => False) w4 w4 := Rel.refl _ _
    refine Sx.dt (i := 0) rfl (by kernel_rfl) (by kernel_rfl) (by kernel_rfl) (by kernel_rfl) (fun _ _ _ _ h => h) rfl (wnt0 rfl) (fun wv h2 => r_fa fo47_3 rfl) hS ?_
    refine Sx.dt (i := 2) rfl (by kernel_rfl) (by kernel_rfl) (by kernel_rfl) (by kernel_rfl) (fun _ _ _ _ h => h) rfl (wnt0 rfl) (fun wv h2 => r_mv rfl) hS ?_
    refine Sx.dt (i := 3) rfl (by kernel_rfl) (by kernel_rfl) (by kernel_rfl) (by kernel_rfl) (fun _ _ _ _ h => h) rfl (wnt0 rfl) (fun wv h2 => r_mv rfl) hS ?_
    refine Sx.dt (i := 1) rfl (by kernel_rfl) (by kernel_rfl) (by kernel_rfl) (by kernel_rfl) (fun _ _ _ _ h => h) rfl (wnt0 rfl) (fun wv h2 => r_ld ty3 rfl ((d_x2.rel h2 (show ¬ (False) from id)).seg) rfl) hS ?_
    refine Sx.dt (i := 4) rfl (by kernel_rfl) (by kernel_rfl) (by kernel_rfl) (by kernel_rfl) (fun _ _ _ _ h => h) rfl (wnt0 rfl) (fun wv h2 => r_ixi ix28 rfl (by first | rfl | assumption) rfl (by first | rfl | assumption) (by omega)) hS ?_
    refine Sx.dt (i := 5) rfl (by kernel_rfl) (by kernel_rfl) (by kernel_rfl) (by kernel_rfl) (fun _ _ _ _ h => h) rfl (wnt0 rfl) (fun wv h2 => r_fa fo47_3 rfl) hS ?_
    refine Sx.dt (i := 6) rfl (by kernel_rfl) (by kernel_rfl) (by kernel_rfl) (by kernel_rfl) (fun _ _ _ _ h => h) rfl (wnt0 rfl) (fun wv h2 => r_ld ty3 rfl ((d_m2.rel h2 (show ¬ (False) from id)).seg) rfl) hS ?_
    refine Sx.dt (i := 7) rfl (by kernel_rfl) (by kernel_rfl) (by kernel_rfl) (by kernel_rfl) (fun _ _ _ _ h => h) rfl (wnt0 rfl) (fun wv h2 => r_gt rfl rfl) hS ?_
    refine Sx.dz (by kernel_rfl) ?_
    clear hS d_HL d_m1 d_m2 d_x2
    refine Sx.nT ?_
    by_cases hgt : (e4 l (wsN l i)).d < (e4 l i).d
    · refine Sx.ct rfl (decide_eq_true hgt) ?_
      refine Sx.reg ?_
      refine Sx.sv (r_mv rfl) rfl (wnt0 rfl) ?_
      refine Sx.sv (r_as rfl) rfl (wnt0 rfl) ?_
      refine wnil ?_
      refine Sx.nB ?_
      refine Sx.nT ?_
      refine Sx.reg ?_
      refine Sx.sv (r_add rfl rfl (by omega) (by omega)) rfl (wnt0 rfl) ?_
      refine Sx.sv (r_mv rfl) rfl (wnt0 rfl) ?_
      refine wnil ?_
      refine Sx.nT ?_
      have hs : wsN l (i + 1) = i := by rw [wsN, if_pos hgt]
      exact Sx.lpe (i + 1) ⟨rfl, rfl, rfl, congrArg (fun q : Nat => some (Value.int .i64 (q : Int))) hs.symm, rfl, trivial⟩ ⟨E1, hlt⟩ (show _ - (i + 1) < _ - i by omega)
    · refine Sx.cf rfl (decide_eq_false hgt) ?_
      refine wp_skip ?_
      refine Sx.nB ?_
      refine Sx.nT ?_
      refine Sx.reg ?_
      refine Sx.sv (r_add rfl rfl (by omega) (by omega)) rfl (wnt0 rfl) ?_
      refine Sx.sv (r_mv rfl) rfl (wnt0 rfl) ?_
      refine wnil ?_
      refine Sx.nT ?_
      have hs : wsN l (i + 1) = wsN l i := by rw [wsN, if_neg hgt]
      exact Sx.lpe (i + 1) ⟨rfl, rfl, rfl, congrArg (fun q : Nat => some (Value.int .i64 (q : Int))) hs.symm, rfl, trivial⟩ ⟨E1, hlt⟩ (show _ - (i + 1) < _ - i by omega)
  · refine Sx.cf rfl (decide_eq_false (by omega)) ?_
    refine wp_exit ?_
    refine Sx.eT ?_
    refine Sx.eT ?_
    refine Sx.eB ?_
    refine Sx.nT ?_
    refine Sx.seq ?_
    refine Sx.reg ?_
    refine Sx.sv (r_mv rfl) rfl (wnt0 rfl) ?_
    refine Sx.sv (r_mv rfl) rfl (wnt0 rfl) ?_
    refine Sx.sv (r_ln Tryd.underlying28 rfl) rfl (wnt0 rfl) ?_
    refine Sx.sv (r_gt rfl rfl) rfl (wnt0 rfl) ?_
    refine Sx.sv (r_as rfl) rfl (wnt0 rfl) ?_
    refine Sx.sv (r_as rfl) rfl (wnt0 rfl) ?_
    refine wnil ?_
    refine Sx.nT ?_
    refine wp_ret ?_
    obtain rfl : i = l.length := by omega
    exact Sx.ret2 Tryd.results20 rfl rfl ⟨rfl, E.toB0⟩
theorem row_bxb {w : World} {b n s B : Nat} {l : List Value} {t : TypeId} (h : Bx w b l t) (hB : B ≤ b) (hl : l.length = n * s) : Row w B s (some ⟨b, 0, none⟩) n l :=
  ⟨hl, fun _ => ⟨b, 0, rfl, hB, h.lt, fun j u hj => h.seg j u hj⟩⟩
set_option maxRecDepth 100000 in
set_option maxHeartbeats 4000000 in
theorem pick_any (T : Nat) (l : List Int) (A : Option Addr) (c : Nat) (w : World) (ht : TapeOk w T) (lT : T < w.heap.size) (hl : Row w (T + 1) 1 A l.length (zv l)) (h0 : 1 ≤ l.length) (hn : l.length ≤ 1000) :
    Calls Tryd.prog 23 #[.pointer (some ⟨T, 0, none⟩), .slice A l.length c] w fun e w' => ∃ j, j < l.length ∧ e = .returned (.int .i64 (e0 l j)) ∧ w.grownBy w' (some T) ∧ TapeOk w' T := by
  have HL := Has.row hl
  have E : Rel (fun x => x = T ∨ w.heap.size ≤ x) w w := Rel.refl _ _
  refine Sx.enter Tryd.func23 rfl Tryd.ntmps23 rfl (fun fr => ?_)
  refine Sx.seq ?_
  refine Sx.reg ?_
  refine Sx.sv (r_as rfl) rfl (wnt0 rfl) ?_
  refine wnil ?_
  refine Sx.nT ?_
  refine Sx.seq ?_
  refine Sx.reg ?_
  refine Sx.sv (r_mv rfl) rfl (wnt0 rfl) ?_
  refine Sx.sv (r_mv rfl) rfl (wnt0 rfl) ?_
  refine Sx.sv (r_mv rfl) rfl (wnt0 rfl) ?_
  refine Sx.sv (r_ln Tryd.underlying22 rfl) rfl (wnt0 rfl) ?_
  have tq1_ht := tape_lt ht
  refine Sx.sc (r_call en11 rfl) rfl (wnt0 rfl) (next_any T (l.length : Int) _ ht (by omega) (by omega)) ?_
  rintro e w1 ⟨z1, p1, q1, rfl, hg1, ht1⟩
  refine ⟨_, rfl, ?_⟩
  have r1 := Rel.ofT hg1
  replace HL := HL.ch r1 (by omega)
  replace E := E.then r1 (fun x hx (e : x = T) => show x = T ∨ w.heap.size ≤ x by omega)
  replace ht := ht1
  obtain ⟨j, hj⟩ : ∃ j : Nat, z1 = (j : Int) := ⟨z1.toNat, by omega⟩
  have hjl : j < l.length := by omega
  obtain ⟨b, off, hA, -, hb, hc⟩ := HL.ok.z hjl
  have m1 : Me _ b (off + j) [_] := .one hb hc
  refine Sx.sv (r_ix1i ix22 rfl (by first | rfl | assumption) rfl (by first | rfl | assumption) (by omega)) rfl (wnt0 rfl) ?_
  refine Sx.sv (r_ld0 ty3 rfl (m1.seg) rfl) rfl (wnt0 rfl) ?_
  refine Sx.sv (r_as rfl) rfl (wnt0 rfl) ?_
  refine wnil ?_
  refine Sx.nT ?_
  refine wp_ret ?_
  exact Sx.ret1 Tryd.results23 rfl ⟨j, hjl, rfl, E.toT, ht⟩
def WoPost (T n : Nat) (w : World) (e : Ending) (w' : World) : Prop := ∃ (l : List Int) (A : Option Addr) (c : Nat), e = .returned (.slice A l.length c) ∧ l.length = n ∧ (∀ y ∈ l, 0 ≤ y ∧ y ≤ 100) ∧ w'.ownsRow w.heap.size 3 1 (.slice A l.length c) l.length (zv l) ∧ w.grownBy w' (some T) ∧ TapeOk w' T
theorem pk5 {j : Nat} (h : j < ([0, 1, 10, 50, 100] : List Int).length) : 0 ≤ e0 [0, 1, 10, 50, 100] j ∧ e0 [0, 1, 10, 50, 100] j ≤ 100 := by
  have : j < 5 := h
  rcases (show j = 0 ∨ j = 1 ∨ j = 2 ∨ j = 3 ∨ j = 4 by omega) with rfl | rfl | rfl | rfl | rfl <;> decide
set_option maxRecDepth 100000 in
set_option maxHeartbeats 4000000 in
theorem worths_any (T n : Nat) (w : World) (ht : TapeOk w T) (lT : T < w.heap.size) (hn : n ≤ 1000) :
    Calls Tryd.prog 10 #[.pointer (some ⟨T, 0, none⟩), .int .i64 (n : Int)] w (WoPost T n w) := by
  have E : Rel (fun x => x = T ∨ w.heap.size ≤ x) w w := Rel.refl _ _
  refine Sx.enter Tryd.func10 rfl Tryd.ntmps10 rfl (fun fr => ?_)
  refine Sx.seq ?_
  refine Sx.reg ?_
  refine Sx.sv (r_as rfl) rfl (wnt0 rfl) ?_
  refine wnil ?_
  refine Sx.nT ?_
  refine Sx.seq ?_
  refine Sx.reg ?_
  refine Sx.sv (r_as rfl) rfl (wnt0 rfl) ?_
  refine wnil ?_
  refine Sx.nT ?_
  refine Sx.seq ?_
  refine Sx.seq ?_
  refine Sx.reg ?_
  refine Sx.sv (r_as rfl) rfl (wnt0 rfl) ?_
  refine wnil ?_
  refine Sx.nT ?_
  refine Sx.blk ?_
  refine Sx.lp (Nat × List Int × Option Addr × Nat) (fun ⟨k, l, A, c⟩ => [(6, .int .i64 (k : Int)), (5, .slice A l.length c), (0, .pointer (some ⟨T, 0, none⟩)), (1, .int .i64 (n : Int))]) (fun ⟨k, l, A, c⟩ wr => k ≤ n ∧ l.length = k ∧ (∀ y ∈ l, 0 ≤ y ∧ y ≤ 100) ∧ wr.ownsRow w.heap.size 3 1 (.slice A l.length c) l.length (zv l) ∧ Rel (fun x => x = T ∨ w.heap.size ≤ x) w wr ∧ TapeOk wr T) (fun ⟨k, l, A, c⟩ => n - k) ⟨0, [], none, 0⟩ ⟨rfl, rfl, rfl, rfl, trivial⟩ ⟨Nat.zero_le _, rfl, fun y hy => (by cases hy), own_nil _ _ _ _, E, ht⟩ ?_
  rintro ⟨k, l, A, c⟩ fr w1 ⟨hk, hll, hF, own, E, ht⟩
  show Code.wp _ _ _ (Fa fr [(6, .int .i64 (k : Int)), (5, .slice A l.length c), (0, .pointer (some ⟨T, 0, none⟩)), (1, .int .i64 (n : Int))]) _
  refine Sx.seq ?_
  refine Sx.seq ?_
  refine Sx.reg ?_
  refine Sx.sv (r_mv rfl) rfl (wnt0 rfl) ?_
  refine Sx.sv (r_mv rfl) rfl (wnt0 rfl) ?_
  refine Sx.sv (r_lt rfl rfl) rfl (wnt0 rfl) ?_
  refine wnil ?_
  refine Sx.nT ?_
  by_cases hlt : k < n
  · refine Sx.ct rfl (decide_eq_true (by omega)) ?_
    refine wp_skip ?_
    refine Sx.nT ?_
    refine Sx.seq ?_
    refine Sx.blk ?_
    refine Sx.reg ?_
    refine Sx.sv (r_mv rfl) rfl (wnt0 rfl) ?_
    refine Sx.sv (r_mv rfl) rfl (wnt0 rfl) ?_
    refine Sx.sy (y_bs rfl (bs22_5 _ _ _ _ _)) rfl (wnt0 rfl) ?_
    rintro _ w2 ⟨b2, rfl, n2, x2⟩
    have l2_ht : T < b2 := Nat.lt_of_lt_of_le (tape_lt ht) n2.ge
    have f2_own := fresh_own own n2.ge
    have g2 : w.heap.size ≤ b2 := Nat.le_trans E.size n2.ge
    replace ht := tape_rel ht n2.r (fun _ _ h => h)
    replace own := own_nw own n2.r
    replace E := E.then n2.r (fun _ _ h => h.elim)
    have lTb := l2_ht
    have tq3_ht := tape_lt ht
    refine Sx.sc (r_call en23 rfl) rfl (wnt0 rfl) (pick_any T [0, 1, 10, 50, 100] (some ⟨b2, 0, none⟩) 5 _ ht (tape_lt ht) (row_bxb x2 lTb rfl) (by decide) (by decide)) ?_
    rintro e w3 ⟨j, hj, rfl, hg3, ht3⟩
    refine ⟨_, rfl, ?_⟩
    have r3 := Rel.ofT hg3
    replace own := own_rel own r3 (fun q hq (e : q = T) => by subst e; first | exact own_not own (by assumption) (by decide) hq.symm | exact own_far own (by omega) hq.symm)
    replace x2 := x2.ch r3 (by omega)
    replace E := E.then r3 (fun x hx (e : x = T) => show x = T ∨ w.heap.size ≤ x by omega)
    replace ht := ht3
    have hz := pk5 hj
    generalize e0 [0, 1, 10, 50, 100] j = z at *
    refine Sx.sy (y_bs rfl (bs22_1 _)) rfl (wnt0 rfl) ?_
    rintro _ w4 ⟨b4, rfl, n4, x4⟩
    have l4_ht : T < b4 := Nat.lt_of_lt_of_le (tape_lt ht) n4.ge
    have f4_own := fresh_own own n4.ge
    have g4 : w.heap.size ≤ b4 := Nat.le_trans E.size n4.ge
    replace ht := tape_rel ht n4.r (fun _ _ h => h)
    replace own := own_nw own n4.r
    replace E := E.then n4.r (fun _ _ h => h.elim)
    refine Sx.sy (y_app Tryd.underlying22 zi3 rfl (by decide) (by decide) rfl rfl own x4 rfl rfl (by omega) (by have := E.size; omega)) rfl (wnt0 rfl) ?_
    rintro _ w5 ⟨A5, c5, rfl, o5, r5, a5⟩
    replace ht := tape_rel ht r5 (fun b hb e => by have := own_ge own e; omega)
    replace x4 := x4.rel r5 (by first | assumption | exact own_not own x4 (by decide) | exact own_far own (by omega))
    replace E := E.then r5 (fun x hx e => show x = T ∨ w.heap.size ≤ x by have := own_ge own e; omega)
    replace own := o5; clear o5
    clear x4
    refine Sx.sv (r_as rfl) rfl (wnt0 rfl) ?_
    refine wnil ?_
    refine Sx.nB ?_
    refine Sx.nT ?_
    refine Sx.reg ?_
    refine Sx.sv (r_mv rfl) rfl (wnt0 rfl) ?_
    refine Sx.sv (r_add rfl rfl (by omega) (by omega)) rfl (wnt0 rfl) ?_
    refine Sx.sv (r_as rfl) rfl (wnt0 rfl) ?_
    refine wnil ?_
    refine Sx.nT ?_
    have hle : (l ++ [z]).length = l.length + 1 := by simp
    exact Sx.lpe (⟨k + 1, l ++ [z], A5, c5⟩) ⟨rfl, by rw [hle]; rfl, rfl, rfl, trivial⟩ ⟨hlt, by rw [hle, hll], (fun y hy => by rcases List.mem_append.1 hy with hy | hy; exact hF y hy; rw [List.mem_singleton] at hy; subst hy; exact hz), by rw [zv_snoc, hle]; exact own, E, ht⟩ (show n - (k + 1) < n - k by omega)
  · refine Sx.cf rfl (decide_eq_false (by omega)) ?_
    refine wp_exit ?_
    refine Sx.eT ?_
    refine Sx.eT ?_
    refine Sx.eB ?_
    refine Sx.nT ?_
    refine Sx.seq ?_
    refine Sx.reg ?_
    refine Sx.sv (r_mv rfl) rfl (wnt0 rfl) ?_
    refine Sx.sv (r_as rfl) rfl (wnt0 rfl) ?_
    refine wnil ?_
    refine Sx.nT ?_
    refine wp_ret ?_
    obtain rfl : k = n := by omega
    refine Sx.ret1 Tryd.results10 rfl ?_
    exact ⟨l, A, c, rfl, hll, hF, own, E.toT, ht⟩
end Go.Proofs.YtahggnlmabdbbaaDoor.Di
