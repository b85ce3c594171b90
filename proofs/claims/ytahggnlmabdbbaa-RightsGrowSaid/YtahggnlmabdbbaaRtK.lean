import Derived.Test.YtahggnlmabdbbaaRtJ
namespace Go.Proofs.Ytahggnlmabdbbaa.Di
open Go.RowKit Go.Shelf Go.Maps
open Go.Proofs.Ytahggnlmabdbbaa.Tp
open Go.Proofs.Ytahggnlmabdbbaa.Sx
set_option linter.unusedVariables false
def cloP (x : Rt) (l : List Int) : Prop := ∀ c ∈ l, ∀ y, Rch x c y → y ∈ l
noncomputable def cloB (x : Rt) (l : List Int) : Bool := @decide (cloP x l) (Classical.propDecidable _)
theorem cloB_yes {x : Rt} {l : List Int} (h : cloP x l) : cloB x l = true := by unfold cloB; exact @decide_eq_true _ (Classical.propDecidable _) h
theorem cloB_no {x : Rt} {l : List Int} (h : ¬ cloP x l) : cloB x l = false := by unfold cloB; exact @decide_eq_false _ (Classical.propDecidable _) h
theorem cloB_iff {x : Rt} {l : List Int} : cloB x l = true ↔ cloP x l := by unfold cloB; exact @decide_eq_true_iff _ (Classical.propDecidable _)
/-- A set of credentials: there, ascending, not empty. -/
structure SetP (x : Rt) (l : List Int) : Prop where
  ok : Rok x
  rng : ∀ j, j < l.length → 0 ≤ e0 l j ∧ e0 l j < x.c
  asc : ∀ j, j + 1 < l.length → e0 l j < e0 l (j + 1)
  pos : 0 < l.length
  len : l.length ≤ 1000
theorem int_key {key : Value} {kl : Lit} (h : keyOf Try.prog 3 key = some kl) : ∃ y : Int, key = .int .i64 y ∧ kl = .int .i64 y := by
  obtain ⟨y, h1, h2, _⟩ := Maps.keyOf_i64 Try.underlying3 h
  exact ⟨y, by simp [h1], by simp [h2]⟩
set_option maxRecDepth 100000 in
set_option maxHeartbeats 4000000 in
theorem closed_any (x : Rt) (v : Vr) (l : List Int) (A : Option Addr) (c : Nat) (w : World) (h : RL w 0 x v) (hl : Row w 0 1 A l.length (zv l)) (hp : SetP x l) :
    Calls Try.prog 13 #[.agg (gr x v), .slice A l.length c] w fun e w' => e = .returned (.bool (cloB x l)) ∧ Below w.heap.size w w' := by
  have HX := Has.rl h
  have HL := Has.row hl
  have hok := hp.ok
  have hle := hp.len
  have hsz : szs x := ⟨by have := hok.lg; omega, by have := hok.ls; omega, by have := hok.lm; omega⟩
  have E : Rel (fun x => w.heap.size ≤ x) w w := Rel.refl _ _
  refine Sx.enter Try.func13 rfl Try.ntmps13 rfl (fun fr => ?_)
  refine Sx.seq ?_
  refine Sx.reg ?_
  refine Sx.sy (y_box rfl rfl) rfl (wnt0 rfl) ?_
  rintro _ w1 ⟨b1, rfl, n1, x1⟩
  have g1 : w.heap.size ≤ b1 := Nat.le_trans E.size n1.ge
  replace E := E.then n1.r (fun _ _ h => h.elim)
  refine Sx.sv (r_as rfl) rfl (wnt0 rfl) ?_
  refine wnil ?_
  refine Sx.nT ?_
  refine Sx.seq ?_
  refine Sx.seq ?_
  refine Sx.reg ?_
  refine Sx.sv (r_mv rfl) rfl (wnt0 rfl) ?_
  refine Sx.sv (r_ln Try.underlying22 rfl) rfl (wnt0 rfl) ?_
  refine Sx.sv (r_mv rfl) rfl (wnt0 rfl) ?_
  refine wnil ?_
  refine Sx.nT ?_
  refine Sx.blk ?_
  refine Sx.lp (Nat) (fun k => [(12, .int .i64 (k : Int)), (10, .slice A l.length c), (11, .int .i64 (l.length : Int)), (2, .pointer (some ⟨b1, 0, none⟩)), (1, .slice A l.length c)]) (fun k wr => k ≤ l.length ∧ Bx wr b1 [.int .i64 x.c, .int .i64 x.k, .slice v.A1 x.g.length v.c1, .slice v.A2 x.s.length v.c2, .slice v.A3 x.m.length v.c3] 31 ∧ Rel (fun x => w.heap.size ≤ x) w wr) (fun k => l.length - k) 0 ⟨rfl, rfl, rfl, rfl, rfl, trivial⟩ ⟨Nat.zero_le _, x1, E⟩ ?_
  rintro k fr w2 ⟨hk, x1, E⟩
  show Code.wp _ _ _ (Fa fr [(12, .int .i64 (k : Int)), (10, .slice A l.length c), (11, .int .i64 (l.length : Int)), (2, .pointer (some ⟨b1, 0, none⟩)), (1, .slice A l.length c)]) _
  refine Sx.seq ?_
  refine Sx.reg ?_
  refine Sx.sv (r_lt rfl rfl) rfl (wnt0 rfl) ?_
  refine wnil ?_
  refine Sx.nT ?_
  refine Sx.seq ?_
  by_cases hlt : k < l.length
  · refine Sx.ct rfl (decide_eq_true (by omega)) ?_
    obtain ⟨b, off, hA, -, hb, hc⟩ := (HL.old E).ok.z hlt
    have m1 : Me _ b (off + k) [_] := .one hb hc
    have hr := hp.rng k hlt
    refine wp_skip ?_
    refine Sx.nT ?_
    refine Sx.seq ?_
    refine Sx.blk ?_
    refine Sx.seq ?_
    refine Sx.reg ?_
    refine Sx.sv (r_mv rfl) rfl (wnt0 rfl) ?_
    refine Sx.sv (r_ix1i ix22 rfl (by first | rfl | assumption) rfl (by first | rfl | assumption) (by omega)) rfl (wnt0 rfl) ?_
    refine Sx.sv (r_ld0 ty3 rfl (m1.seg) rfl) rfl (wnt0 rfl) ?_
    refine Sx.sv (r_as rfl) rfl (wnt0 rfl) ?_
    refine Sx.sv (r_as rfl) rfl (wnt0 rfl) ?_
    refine wnil ?_
    refine Sx.nT ?_
    refine Sx.seq ?_
    refine Sx.reg ?_
    refine Sx.sv (r_ldr ty31 rfl (x1.seg) rfl) rfl (wnt0 rfl) ?_
    refine Sx.sv (r_mv rfl) rfl (wnt0 rfl) ?_
    refine Sx.sc (r_call en21 rfl) rfl (wnt0 rfl) (ex_yes x v (e0 l k) _ (HX.old E).ok hsz ⟨hok, hr.1, hr.2⟩) ?_
    rintro e w3 ⟨rfl, hb3⟩
    refine ⟨_, rfl, ?_⟩
    have r3 := Rel.of0 hb3
    replace x1 := x1.nw r3
    replace m1 := m1.nw r3
    replace E := E.then r3 (fun _ _ h => h.elim)
    by_cases hk0 : 0 < k
    · obtain ⟨b', off', hA', -, hb', hc'⟩ := (HL.old E).ok.z (show k - 1 < l.length by omega)
      have m2 : Me _ b' (off' + (k - 1)) [_] := .one hb' hc'
      have has := hp.asc (k - 1) (by omega)
      rw [show k - 1 + 1 = k by omega] at has
      have hk1 : (k : Int) - 1 = ((k - 1 : Nat) : Int) := by omega
      refine Sx.sv (r_not rfl) rfl (wnt0 rfl) ?_
      refine Sx.sv (r_mv rfl) rfl (wnt0 rfl) ?_
      refine Sx.sv (r_mv rfl) rfl (wnt1 (dj := 21) (b0 := false) rfl rfl rfl rfl (rfl) rfl) ?_
      refine Sx.sv (r_gt rfl rfl) rfl (wnt1 (dj := 21) (b0 := false) rfl rfl rfl rfl (rfl) rfl) ?_
      refine Sx.sv (r_mv rfl) rfl (wnt1 (dj := 21) (b0 := false) rfl rfl rfl rfl (rfl) rfl) ?_
      refine Sx.sv (r_mv rfl) rfl (wnt1 (dj := 24) (b0 := true) rfl rfl rfl rfl (decide_eq_true (by omega)) rfl) ?_
      refine Sx.sv (r_mv rfl) rfl (wnt1 (dj := 24) (b0 := true) rfl rfl rfl rfl (decide_eq_true (by omega)) rfl) ?_
      refine Sx.sv (r_mv rfl) rfl (wnt1 (dj := 24) (b0 := true) rfl rfl rfl rfl (decide_eq_true (by omega)) rfl) ?_
      refine Sx.sv (r_sub rfl rfl (by omega) (by omega)) rfl (wnt1 (dj := 24) (b0 := true) rfl rfl rfl rfl (decide_eq_true (by omega)) rfl) ?_
      refine Sx.sv (r_ix1i ix22 rfl (by first | rfl | assumption) rfl (by first | rfl | assumption) (by omega)) rfl (wnt1 (dj := 24) (b0 := true) rfl rfl rfl rfl (decide_eq_true (by omega)) rfl) ?_
      refine Sx.sv (r_ld0 ty3 rfl (m2.seg) rfl) rfl (wnt1 (dj := 24) (b0 := true) rfl rfl rfl rfl (decide_eq_true (by omega)) rfl) ?_
      refine Sx.sv (r_le rfl rfl) rfl (wnt1 (dj := 24) (b0 := true) rfl rfl rfl rfl (decide_eq_true (by omega)) rfl) ?_
      refine Sx.sv (r_pkT rfl (decide_eq_true (by omega)) rfl) rfl (wnt1 (dj := 21) (b0 := false) rfl rfl rfl rfl (rfl) rfl) ?_
      refine Sx.sv (r_pkF rfl (rfl) rfl) rfl (wnt0 rfl) ?_
      refine wnil ?_
      refine Sx.nT ?_
      refine Sx.cf rfl (decide_eq_false (by omega)) ?_
      refine wp_skip ?_
      refine Sx.nB ?_
      refine Sx.nT ?_
      refine Sx.reg ?_
      refine Sx.sv (r_add rfl rfl (by omega) (by omega)) rfl (wnt0 rfl) ?_
      refine Sx.sv (r_mv rfl) rfl (wnt0 rfl) ?_
      refine wnil ?_
      refine Sx.nT ?_
      exact Sx.lpe (k + 1) ⟨rfl, rfl, rfl, rfl, rfl, trivial⟩ ⟨hlt, x1, E⟩ (show _ - (k + 1) < _ - k by omega)
    · refine Sx.sv (r_not rfl) rfl (wnt0 rfl) ?_
      refine Sx.sv (r_mv rfl) rfl (wnt0 rfl) ?_
      refine Sx.sv (r_mv rfl) rfl (wnt1 (dj := 21) (b0 := false) rfl rfl rfl rfl (rfl) rfl) ?_
      refine Sx.sv (r_gt rfl rfl) rfl (wnt1 (dj := 21) (b0 := false) rfl rfl rfl rfl (rfl) rfl) ?_
      refine Sx.sv (r_mv rfl) rfl (wnt1 (dj := 21) (b0 := false) rfl rfl rfl rfl (rfl) rfl) ?_
      refine Sx.sg (wntF (dj := 24) (b0 := false) rfl rfl rfl rfl (decide_eq_false (by omega)) rfl) rfl ?_
      refine Sx.sg (wntF (dj := 24) (b0 := false) rfl rfl rfl rfl (decide_eq_false (by omega)) rfl) rfl ?_
      refine Sx.sg (wntF (dj := 24) (b0 := false) rfl rfl rfl rfl (decide_eq_false (by omega)) rfl) rfl ?_
      refine Sx.sg (wntF (dj := 24) (b0 := false) rfl rfl rfl rfl (decide_eq_false (by omega)) rfl) rfl ?_
      refine Sx.sg (wntF (dj := 24) (b0 := false) rfl rfl rfl rfl (decide_eq_false (by omega)) rfl) rfl ?_
      refine Sx.sg (wntF (dj := 24) (b0 := false) rfl rfl rfl rfl (decide_eq_false (by omega)) rfl) rfl ?_
      refine Sx.sg (wntF (dj := 24) (b0 := false) rfl rfl rfl rfl (decide_eq_false (by omega)) rfl) rfl ?_
      refine Sx.sv (r_pkF rfl (decide_eq_false (by omega)) rfl) rfl (wnt1 (dj := 21) (b0 := false) rfl rfl rfl rfl (rfl) rfl) ?_
      refine Sx.sv (r_pkF rfl (rfl) rfl) rfl (wnt0 rfl) ?_
      refine wnil ?_
      refine Sx.nT ?_
      refine Sx.cf rfl (rfl) ?_
      refine wp_skip ?_
      refine Sx.nB ?_
      refine Sx.nT ?_
      refine Sx.reg ?_
      refine Sx.sv (r_add rfl rfl (by omega) (by omega)) rfl (wnt0 rfl) ?_
      refine Sx.sv (r_mv rfl) rfl (wnt0 rfl) ?_
      refine wnil ?_
      refine Sx.nT ?_
      exact Sx.lpe (k + 1) ⟨rfl, rfl, rfl, rfl, rfl, trivial⟩ ⟨hlt, x1, E⟩ (show _ - (k + 1) < _ - k by omega)
  · refine Sx.cf rfl (decide_eq_false (by omega)) ?_
    refine wp_exit ?_
    refine Sx.eT ?_
    refine Sx.eT ?_
    refine Sx.eB ?_
    refine Sx.nT ?_
    refine Sx.seq ?_
    refine Sx.seq ?_
    refine Sx.reg ?_
    refine Sx.sv (r_mv rfl) rfl (wnt0 rfl) ?_
    refine Sx.sv (r_ln Try.underlying22 rfl) rfl (wnt0 rfl) ?_
    refine Sx.sv (r_mv rfl) rfl (wnt0 rfl) ?_
    refine wnil ?_
    refine Sx.nT ?_
    refine Sx.blk ?_
    refine Sx.lp (Nat) (fun k => [(37, .int .i64 (k : Int)), (35, .slice A l.length c), (36, .int .i64 (l.length : Int)), (2, .pointer (some ⟨b1, 0, none⟩)), (1, .slice A l.length c)]) (fun k wr => k ≤ l.length ∧ Bx wr b1 [.int .i64 x.c, .int .i64 x.k, .slice v.A1 x.g.length v.c1, .slice v.A2 x.s.length v.c2, .slice v.A3 x.m.length v.c3] 31 ∧ Rel (fun x => w.heap.size ≤ x) w wr ∧ ∀ j, j < k → ∀ y, Rch x (e0 l j) y → y ∈ l) (fun k => l.length - k) 0 ⟨rfl, rfl, rfl, rfl, rfl, trivial⟩ ⟨Nat.zero_le _, x1, E, fun j hj => absurd hj (by omega)⟩ ?_
    rintro k fr w4 ⟨hk, x1, E, hcl⟩
    show Code.wp _ _ _ (Fa fr [(37, .int .i64 (k : Int)), (35, .slice A l.length c), (36, .int .i64 (l.length : Int)), (2, .pointer (some ⟨b1, 0, none⟩)), (1, .slice A l.length c)]) _
    refine Sx.seq ?_
    refine Sx.reg ?_
    refine Sx.sv (r_lt rfl rfl) rfl (wnt0 rfl) ?_
    refine wnil ?_
    refine Sx.nT ?_
    refine Sx.seq ?_
    by_cases hlt : k < l.length
    · refine Sx.ct rfl (decide_eq_true (by omega)) ?_
      obtain ⟨b, off, hA, -, hb, hc⟩ := (HL.old E).ok.z hlt
      have m1 : Me _ b (off + k) [_] := .one hb hc
      have hr := hp.rng k hlt
      refine wp_skip ?_
      refine Sx.nT ?_
      refine Sx.seq ?_
      refine Sx.blk ?_
      refine Sx.seq ?_
      refine Sx.reg ?_
      refine Sx.sv (r_ix1i ix22 rfl (by first | rfl | assumption) rfl (by first | rfl | assumption) (by omega)) rfl (wnt0 rfl) ?_
      refine Sx.sv (r_ld0 ty3 rfl (m1.seg) rfl) rfl (wnt0 rfl) ?_
      refine Sx.sv (r_as rfl) rfl (wnt0 rfl) ?_
      refine wnil ?_
      refine Sx.nT ?_
      refine Sx.seq ?_
      refine Sx.reg ?_
      refine Sx.sv (r_ldr ty31 rfl (x1.seg) rfl) rfl (wnt0 rfl) ?_
      refine Sx.sv (r_mv rfl) rfl (wnt0 rfl) ?_
      refine Sx.sc (r_call en24 rfl) rfl (wnt0 rfl) (chains_any x v (e0 l k) _ (HX.old E).ok hok hr) ?_
      rintro e w5 ⟨bm, K, C, D, hs, rfl, hbm, hown, hmp, hbf, hrows, hb5⟩
      refine ⟨_, rfl, ?_⟩
      have r5 := Rel.of0 hb5
      replace x1 := x1.nw r5
      replace m1 := m1.nw r5
      replace E := E.then r5 (fun _ _ h => h.elim)
      refine Sx.sy (y_rg law3 Try.underlying57 rfl hown) rfl (wnt0 rfl) ?_
      rintro _ w6 ⟨rr, rfl, n6, hrg⟩
      have l_rr : b1 < rr := Nat.lt_of_lt_of_le x1.lt n6.ge
      have l_w : w.heap.size ≤ rr := Nat.le_trans E.size n6.ge
      replace x1 := x1.nw n6.r
      replace E := E.then n6.r (fun _ _ h => h.elim)
      refine wnil ?_
      refine Sx.nT ?_
      refine Sx.blk ?_
      refine Sx.lp (Nat × (Lit → Bool)) (fun ⟨cnt, left⟩ => [(44, .pointer (some ⟨rr, 0, none⟩)), (37, .int .i64 (k : Int)), (35, .slice A l.length c), (36, .int .i64 (l.length : Int)), (2, .pointer (some ⟨b1, 0, none⟩)), (1, .slice A l.length c)]) (fun ⟨cnt, left⟩ wr => wr.ranges Try.prog 3 hdR bm rr 24 D left cnt ∧ (∀ y, y ∈ K → left (.int .i64 y) = false → y ∈ l) ∧ (∀ y, left (.int .i64 y) = true → y ∈ K) ∧ Bx wr b1 [.int .i64 x.c, .int .i64 x.k, .slice v.A1 x.g.length v.c1, .slice v.A2 x.s.length v.c2, .slice v.A3 x.m.length v.c3] 31 ∧ Rel (fun x => w.heap.size ≤ x) w wr) (fun ⟨cnt, left⟩ => cnt) ⟨_, _⟩ ⟨rfl, rfl, rfl, rfl, rfl, rfl, trivial⟩ ⟨hrg, fun y hy h => (by rw [hmp.has, decide_eq_true hy] at h; cases h), fun y h => (by rw [hmp.has] at h; exact of_decide_eq_true h), x1, E⟩ ?_
      rintro ⟨cnt, left⟩ fr w7 ⟨hrg, hle1, hle2, x1, E⟩
      show Code.wp _ _ _ (Fa fr [(44, .pointer (some ⟨rr, 0, none⟩)), (37, .int .i64 (k : Int)), (35, .slice A l.length c), (36, .int .i64 (l.length : Int)), (2, .pointer (some ⟨b1, 0, none⟩)), (1, .slice A l.length c)]) _
      refine Sx.seq ?_
      refine Sx.reg ?_
      refine Sx.sy (y_nx law3 rfl hrg) rfl (wnt0 rfl) ?_
      rintro _ w8 (⟨rfl, rfl, hnone⟩ | ⟨key, vv, kl, yy, cnt2, rfl, hkey, hlf, hR, hat, hrg2, hlt2, r8, hsz2, hen⟩)
      · refine Sx.sv (r_ex rfl rfl) rfl (wnt0 rfl) ?_
        refine wnil ?_
        refine Sx.nT ?_
        refine Sx.seq ?_
        refine Sx.cf rfl (rfl) ?_
        refine wp_exit ?_
        refine Sx.eT ?_
        refine Sx.eT ?_
        refine Sx.eB ?_
        refine Sx.nB ?_
        refine Sx.nT ?_
        refine Sx.reg ?_
        refine Sx.sv (r_add rfl rfl (by omega) (by omega)) rfl (wnt0 rfl) ?_
        refine Sx.sv (r_mv rfl) rfl (wnt0 rfl) ?_
        refine wnil ?_
        refine Sx.nT ?_
        exact Sx.lpe (k + 1) ⟨rfl, rfl, rfl, rfl, rfl, trivial⟩ ⟨hlt, x1, E, fun j hj y hy => if e : j = k then hle1 y ((hbf.done rfl y).2 (e ▸ hy)) (hnone _) else hcl j (by omega) y hy⟩ (show _ - (k + 1) < _ - k by omega)
      · obtain ⟨y, rfl, rfl⟩ := int_key hkey
        replace x1 := x1.ch r8 (by omega)
        replace E := E.then r8 (fun x hx (e : x = rr) => show w.heap.size ≤ x by omega)
        refine Sx.sv (r_ex rfl rfl) rfl (wnt0 rfl) ?_
        refine wnil ?_
        refine Sx.nT ?_
        refine Sx.seq ?_
        refine Sx.ct rfl (rfl) ?_
        refine wp_skip ?_
        refine Sx.nT ?_
        refine Sx.blk ?_
        refine Sx.seq ?_
        refine Sx.reg ?_
        refine Sx.sv (r_en rfl hen) rfl (wnt0 rfl) ?_
        refine Sx.sv (r_ex rfl rfl) rfl (wnt0 rfl) ?_
        refine Sx.sv (r_as rfl) rfl (wnt0 rfl) ?_
        refine wnil ?_
        refine Sx.nT ?_
        refine Sx.seq ?_
        refine Sx.reg ?_
        refine Sx.sv (r_mv rfl) rfl (wnt0 rfl) ?_
        refine Sx.sv (r_mv rfl) rfl (wnt0 rfl) ?_
        refine Sx.sc (r_call en26 rfl) rfl (wnt0 rfl) (contains_any l y A c _ (HL.old E).ok (by omega)) ?_
        rintro e w9 ⟨rfl, rfl⟩
        refine ⟨_, rfl, ?_⟩
        refine Sx.sv (r_not rfl) rfl (wnt0 rfl) ?_
        refine wnil ?_
        refine Sx.nT ?_
        by_cases hi : inB l y = true
        · refine Sx.cf rfl (by rw [hi]; rfl) ?_
          refine wp_skip ?_
          refine Sx.nB ?_
          refine Sx.nT ?_
          exact Sx.lpe (⟨cnt2, _⟩) ⟨rfl, rfl, rfl, rfl, rfl, rfl, trivial⟩ ⟨hrg2, fun z hz h => (by
                    simp only [same_lit, Bool.and_eq_false_iff, Bool.not_eq_false'] at h
                    rcases h with h | h
                    · exact hle1 z hz h
                    · rw [show z = y by simpa using h]; exact inB_iff.1 hi), fun z h => hle2 z (by simp only [Bool.and_eq_true] at h; exact h.1), x1, E⟩ hlt2
        · refine Sx.ct rfl (by rw [Bool.eq_false_iff.2 hi]; rfl) ?_
          refine Sx.seq ?_
          refine Sx.reg ?_
          refine Sx.sv (r_as rfl) rfl (wnt0 rfl) ?_
          refine wnil ?_
          refine Sx.nT ?_
          refine wp_ret ?_
          refine Sx.rB ?_
          refine Sx.rT ?_
          refine Sx.rB ?_
          refine Sx.rB ?_
          refine Sx.rT ?_
          refine Sx.rT ?_
          refine Sx.rB ?_
          refine Sx.rT ?_
          refine Sx.ret1 Try.results13 rfl ⟨?_, E.toB0⟩
          rw [cloB_no (fun hc => hi (inB_iff.2 (hc _ (e0_mem hlt) y ((hbf.done rfl y).1 (hle2 y hlf)))))]
    · refine Sx.cf rfl (decide_eq_false (by omega)) ?_
      refine wp_exit ?_
      refine Sx.eT ?_
      refine Sx.eT ?_
      refine Sx.eB ?_
      refine Sx.nT ?_
      refine Sx.seq ?_
      refine Sx.reg ?_
      refine Sx.sv (r_mv rfl) rfl (wnt0 rfl) ?_
      refine Sx.sv (r_ln Try.underlying22 rfl) rfl (wnt0 rfl) ?_
      refine Sx.sv (r_gt rfl rfl) rfl (wnt0 rfl) ?_
      refine Sx.sv (r_as rfl) rfl (wnt0 rfl) ?_
      refine wnil ?_
      refine Sx.nT ?_
      refine wp_ret ?_
      have hpos := hp.pos
      refine Sx.ret1 Try.results13 rfl ⟨?_, E.toB0⟩
      rw [cloB_yes (fun c hc y hy => by obtain ⟨j, hj, rfl⟩ := e0_of hc; exact hcl j (by omega) y hy)]
      rw [decide_eq_true (by omega)]
end Go.Proofs.Ytahggnlmabdbbaa.Di
