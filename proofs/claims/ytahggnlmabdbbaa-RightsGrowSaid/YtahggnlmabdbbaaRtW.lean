import Derived.Test.YtahggnlmabdbbaaRtR
namespace Go.Proofs.Ytahggnlmabdbbaa.Di
open Go.RowKit Go.Shelf Go.Maps
open Go.Proofs.Ytahggnlmabdbbaa.Tp
open Go.Proofs.Ytahggnlmabdbbaa.Sx
set_option linter.unusedVariables false
/-- The chapter's example. -/
def xA : Rt := ⟨2, 2, [⟨0, 0, 1⟩, ⟨1, 1, 3⟩], [⟨0, 1⟩], []⟩
theorem xA_ok : Rok xA := by
  refine ⟨by decide, by decide, by decide, by decide, by decide, by decide, by decide, fun j hj => ?_, fun j hj => ?_, fun j hj => absurd hj (by simp [xA])⟩
  · rcases (show j = 0 ∨ j = 1 by simp [xA] at hj; omega) with rfl | rfl <;> simp [okG, xA, e3]
  · obtain rfl : j = 0 := by simp [xA] at hj; omega
    simp [okS, xA, e2]
theorem xA_step : IsSt xA 0 ⟨lkS 0 0, 1⟩ := .inr ⟨0, 0, by decide, by decide, rfl, rfl, rfl⟩
theorem xA_rB : rB xA 0 0 = true ∧ rB xA 0 1 = true := ⟨rB_iff.2 (Rch.refl _ _), rB_iff.2 ((Rch.refl _ _).step xA_step)⟩
theorem xA_gt : gt xA (rB xA 0) 1 2 = 3 := by
  obtain ⟨h0, h1⟩ := xA_rB
  show (if rB xA 0 1 = true ∧ (1 : Int) = 1 then max (if rB xA 0 0 = true ∧ (0 : Int) = 1 then max (0 : Int) 1 else 0) 3 else _) = (3 : Int)
  rw [h0, h1]
  decide
theorem xA_gt0 : gt xA (rB xA 0) 0 2 = 1 := by
  obtain ⟨h0, h1⟩ := xA_rB
  show (if rB xA 0 1 = true ∧ (1 : Int) = 0 then max (if rB xA 0 0 = true ∧ (0 : Int) = 0 then max (0 : Int) 1 else 0) 3 else (if rB xA 0 0 = true ∧ (0 : Int) = 0 then max (0 : Int) 1 else 0)) = (1 : Int)
  rw [h0, h1]
  decide
theorem xA_pw : pwr xA 0 = [1, 3] := by
  show [gt xA (rB xA 0) 0 2, gt xA (rB xA 0) 1 2] = _
  rw [xA_gt0, xA_gt]
theorem xA_from1 (e : T5) : ¬ IsSt xA 1 e := by
  rintro (⟨n, h1, _⟩ | ⟨i, n, h1, h2, h3, h4, _⟩)
  · simp [xA] at h1
  · obtain rfl : n = 0 := by simp [xA] at h2; omega
    rcases (show i = 0 ∨ i = 1 by simp [xA] at h1; omega) with rfl | rfl
    · simp [xA, e3] at h3
    · simp [xA, e3, e2] at h4
theorem xA_from0 (e : T5) (h : IsSt xA 0 e) : e.t = 1 := by
  rcases h with ⟨n, h1, _⟩ | ⟨i, n, h1, h2, h3, h4, rfl⟩
  · simp [xA] at h1
  · obtain rfl : n = 0 := by simp [xA] at h2; omega
    rfl
theorem xA_path {l : List T4} {z : Int} (h : Pth xA 0 l z) : (l.length = 0 ∧ z = 0) ∨ (l.length = 1 ∧ z = 1) := by
  induction h with
  | nil => exact .inl ⟨rfl, rfl⟩
  | snoc _ he ih =>
    rcases ih with ⟨h1, rfl⟩ | ⟨h1, rfl⟩
    · exact .inr ⟨by simp [h1], xA_from0 _ he⟩
    · exact absurd he (xA_from1 _)
theorem row_bx {w : World} {b n s : Nat} {l : List Value} {t : TypeId} (h : Bx w b l t) (hl : l.length = n * s) : Row w 0 s (some ⟨b, 0, none⟩) n l :=
  ⟨hl, fun _ => ⟨b, 0, rfl, Nat.zero_le _, h.lt, fun j u hj => h.seg j u hj⟩⟩
theorem own_capn {w : World} {B e s n c : Nat} {A : Option Addr} {xs : List Value} (h : w.ownsRow B e s (.slice A n c) n xs) (hn : 0 < n) : n ≤ c := by
  rcases h.2 with ⟨_, h0⟩ | ⟨g, cap, cur, e1, _, _, h2, _⟩
  · omega
  · injection e1 with _ _ e3; omega
theorem rlA {w : World} {b1 b2 : Nat} (x1 : Bx w b1 [.int .i64 0, .int .i64 0, .int .i64 1, .int .i64 1, .int .i64 1, .int .i64 3] 43) (x2 : Bx w b2 [.int .i64 0, .int .i64 1] 45) : RL w 0 xA ⟨some ⟨b1, 0, none⟩, 2, some ⟨b2, 0, none⟩, 1, none, 0⟩ :=
  ⟨row_bx x1 rfl, row_bx x2 rfl, ⟨rfl, fun h => absurd h (by decide)⟩⟩
set_option maxRecDepth 100000 in
set_option maxHeartbeats 4000000 in
theorem awake_any (w : World) : Calls Try.prog 7 #[] w fun e w' => e = .returned (.bool true) ∧ Below w.heap.size w w' := by
  have E : Rel (fun x => w.heap.size ≤ x) w w := Rel.refl _ _
  refine Sx.enter Try.func7 rfl Try.ntmps7 rfl (fun fr => ?_)
  refine Sx.seq ?_
  refine Sx.reg ?_
  refine Sx.sv (r_as rfl) rfl (wnt0 rfl) ?_
  refine wnil ?_
  refine Sx.nT ?_
  refine Sx.seq ?_
  refine Sx.reg ?_
  refine Sx.sv (r_bld rfl (bd43_0_1_2 _ _ _)) rfl (wnt0 rfl) ?_
  refine Sx.sv (r_bld rfl (bd43_0_1_2 _ _ _)) rfl (wnt0 rfl) ?_
  refine Sx.sy (y_bs rfl (bs27_2 _ _ _ _ _ _)) rfl (wnt0 rfl) ?_
  rintro _ w1 ⟨b1, rfl, n1, x1⟩
  have g1 : w.heap.size ≤ b1 := Nat.le_trans E.size n1.ge
  replace E := E.then n1.r (fun _ _ h => h.elim)
  refine Sx.sv (r_bld rfl (bd45_0_1 _ _)) rfl (wnt0 rfl) ?_
  refine Sx.sy (y_bs rfl (bs28_1 _ _)) rfl (wnt0 rfl) ?_
  rintro _ w2 ⟨b2, rfl, n2, x2⟩
  have l2_x1 : b1 < b2 := Nat.lt_of_lt_of_le x1.lt n2.ge
  have g2 : w.heap.size ≤ b2 := Nat.le_trans E.size n2.ge
  replace x1 := x1.nw n2.r
  replace E := E.then n2.r (fun _ _ h => h.elim)
  refine Sx.sv (r_bld rfl (bd31_0_1_2_3 _ _ _ _ _ _ _ _)) rfl (wnt0 rfl) ?_
  refine Sx.sy (y_all zi31 rfl) rfl (wnt0 rfl) ?_
  rintro _ w3 ⟨b3, rfl, n3, x3⟩
  have l3_x1 : b1 < b3 := Nat.lt_of_lt_of_le x1.lt n3.ge
  have l3_x2 : b2 < b3 := Nat.lt_of_lt_of_le x2.lt n3.ge
  have g3 : w.heap.size ≤ b3 := Nat.le_trans E.size n3.ge
  replace x1 := x1.nw n3.r
  replace x2 := x2.nw n3.r
  replace E := E.then n3.r (fun _ _ h => h.elim)
  refine Sx.syu (u_stR ty31 rfl rfl rfl x3 rfl rfl) rfl (wnt0 rfl) ?_
  rintro w4 ⟨r4, z4, x4n⟩
  replace x1 := x1.ch r4 (by omega)
  replace x2 := x2.ch r4 (by omega)
  replace E := E.then r4 (fun x hx (e : x = b3) => show w.heap.size ≤ x by omega)
  replace x3 := x4n; clear x4n
  refine wnil ?_
  refine Sx.nT ?_
  refine Sx.seq ?_
  refine Sx.reg ?_
  refine Sx.sv (r_ldr ty31 rfl (x3.seg) rfl) rfl (wnt0 rfl) ?_
  refine Sx.sc (r_call en18 rfl) rfl (wnt0 rfl) (why_any xA ⟨some ⟨b1, 0, none⟩, 2, some ⟨b2, 0, none⟩, 1, none, 0⟩ 0 1 _ (rlA x1 x2) xA_ok (by decide) (by decide)) ?_
  rintro e w5 (⟨h0, -⟩ | ⟨l, j, A, cc, rfl, hj, hp, hb, hc, hl24, hown, hb5⟩)
  · exact absurd (xA_gt.symm.trans h0) (by decide)
  refine ⟨_, rfl, ?_⟩
  have r5 := Rel.of0 hb5
  replace x1 := x1.nw r5
  replace x2 := x2.nw r5
  replace x3 := x3.nw r5
  replace E := E.then r5 (fun _ _ h => h.elim)
  have hj1 : j = 1 := by
      rcases (show j = 0 ∨ j = 1 by simp [xA] at hj; omega) with rfl | rfl
      · exact absurd hb (by decide)
      · rfl
  subst hj1
  have hl1 : l.length = 1 := by
      rcases xA_path hp with h | h
      · exact absurd h.2 (by decide)
      · exact h.1
  have hcc : l.length + 1 ≤ cc := own_capn hown (by omega)
  have HC := Has.row (row_of_own hown)
  refine Sx.sv (r_mv rfl) rfl (wnt0 rfl) ?_
  refine Sx.sv (r_ex rfl rfl) rfl (wnt0 rfl) ?_
  refine Sx.sv (r_ex rfl rfl) rfl (wnt0 rfl) ?_
  refine Sx.sv (r_as rfl) rfl (wnt0 rfl) ?_
  refine Sx.sv (r_as rfl) rfl (wnt0 rfl) ?_
  refine wnil ?_
  refine Sx.nT ?_
  refine Sx.seq ?_
  refine Sx.reg ?_
  refine Sx.sv (r_ldr ty31 rfl (x3.seg) rfl) rfl (wnt0 rfl) ?_
  have hpw := power_yes xA ⟨some ⟨b1, 0, none⟩, 2, some ⟨b2, 0, none⟩, 1, none, 0⟩ 0 _ (rlA x1 x2) ⟨by decide, by decide, by decide⟩ ⟨xA_ok, by decide⟩
  rw [xA_pw] at hpw
  refine Sx.sc (r_call en11 rfl) rfl (wnt0 rfl) (hpw) ?_
  rintro e w6 ⟨Ap, cp, rfl, hop, hb6⟩
  refine ⟨_, rfl, ?_⟩
  have r6 := Rel.of0 hb6
  replace x1 := x1.nw r6
  replace x2 := x2.nw r6
  replace x3 := x3.nw r6
  replace HC := HC.nw r6
  replace E := E.then r6 (fun _ _ h => h.elim)
  have HP := Has.row (row_of_own hop)
  refine Sx.sy (y_bs rfl (bs22_2 _ _)) rfl (wnt0 rfl) ?_
  rintro _ w7 ⟨b7, rfl, n7, x7⟩
  have l7_x1 : b1 < b7 := Nat.lt_of_lt_of_le x1.lt n7.ge
  have l7_x2 : b2 < b7 := Nat.lt_of_lt_of_le x2.lt n7.ge
  have l7_x3 : b3 < b7 := Nat.lt_of_lt_of_le x3.lt n7.ge
  have l7_HC : w5.heap.size ≤ b7 := Nat.le_trans HC.le n7.ge
  have l7_HP : w6.heap.size ≤ b7 := Nat.le_trans HP.le n7.ge
  have g7 : w.heap.size ≤ b7 := Nat.le_trans E.size n7.ge
  replace x1 := x1.nw n7.r
  replace x2 := x2.nw n7.r
  replace x3 := x3.nw n7.r
  replace HC := HC.nw n7.r
  replace HP := HP.nw n7.r
  replace E := E.then n7.r (fun _ _ h => h.elim)
  refine Sx.sc (r_call en14 rfl) rfl (wnt0 rfl) (ints_any [1, 3] [1, 3] Ap (some ⟨b7, 0, none⟩) cp 2 _ (HP.ok.base (Nat.zero_le _)) (row_bx x7 rfl) (by decide)) ?_
  rintro e w8 ⟨rfl, r8⟩
  refine ⟨_, rfl, ?_⟩
  have r8 := r8
  replace x1 := x1.nw r8
  replace x2 := x2.nw r8
  replace x3 := x3.nw r8
  replace HC := HC.nw r8
  replace HP := HP.nw r8
  replace x7 := x7.nw r8
  replace E := E.then r8 (fun _ _ h => h.elim)
  refine Sx.sv (r_mv rfl) rfl (wnt0 rfl) ?_
  refine Sx.sv (r_mv rfl) rfl (wnt1 (dj := 19) (b0 := true) rfl rfl rfl rfl (by decide) rfl) ?_
  refine Sx.sv (r_pkT rfl (by decide) rfl) rfl (wnt0 rfl) ?_
  refine Sx.sv (r_mv rfl) rfl (wnt0 rfl) ?_
  refine Sx.sv (r_ldr ty31 rfl (x3.seg) rfl) rfl (wnt1 (dj := 22) (b0 := true) rfl rfl rfl rfl (rfl) rfl) ?_
  refine Sx.sv (r_mv rfl) rfl (wnt1 (dj := 22) (b0 := true) rfl rfl rfl rfl (rfl) rfl) ?_
  refine Sx.sc (r_call en20 rfl) rfl (wnt1 (dj := 22) (b0 := true) rfl rfl rfl rfl (rfl) rfl) (rproves_any xA ⟨some ⟨b1, 0, none⟩, 2, some ⟨b2, 0, none⟩, 1, none, 0⟩ 0 1 3 l 1 A cc _ (rlA x1 x2) xA_ok (by decide) (by decide) (by decide) (HC.ok.base (Nat.zero_le _)) (by omega) hj hp hb) ?_
  rintro e w9 ⟨rfl, hb9⟩
  refine ⟨_, rfl, ?_⟩
  have r9 := Rel.of0 hb9
  replace x1 := x1.nw r9
  replace x2 := x2.nw r9
  replace x3 := x3.nw r9
  replace HC := HC.nw r9
  replace HP := HP.nw r9
  replace x7 := x7.nw r9
  replace E := E.then r9 (fun _ _ h => h.elim)
  refine Sx.sv (r_pkT rfl (rfl) rfl) rfl (wnt0 rfl) ?_
  refine Sx.sv (r_mv rfl) rfl (wnt0 rfl) ?_
  refine Sx.sv (r_mv rfl) rfl (wnt1 (dj := 27) (b0 := true) rfl rfl rfl rfl (by decide) rfl) ?_
  refine Sx.sv (r_ln Try.underlying48 rfl) rfl (wnt1 (dj := 27) (b0 := true) rfl rfl rfl rfl (by decide) rfl) ?_
  refine Sx.sv (r_eq rfl rfl) rfl (wnt1 (dj := 27) (b0 := true) rfl rfl rfl rfl (by decide) rfl) ?_
  refine Sx.sv (r_pkT rfl (by decide) rfl) rfl (wnt0 rfl) ?_
  refine Sx.sv (r_as rfl) rfl (wnt0 rfl) ?_
  refine wnil ?_
  refine Sx.nT ?_
  refine wp_ret ?_
  exact Sx.ret1 Try.results7 rfl ⟨by rw [decide_eq_true (by omega)], E.toB0⟩
end Go.Proofs.Ytahggnlmabdbbaa.Di
