import Derived.Test.YtgaliinjjonlmaaDtPr4
import Derived.Test.YtgaliinjjonlmaaDtRaw4
import Derived.BigQuiet
import Derived.Deep.RegionHeld3
import Derived.Deep.AppendLies
namespace Go.Proofs.Ytgaliinjjonlmaa.Dt
open Go.RowKit
open Go.Proofs.Ytgaliinjjonlmaa.Tp
set_option linter.unusedVariables false

set_option maxRecDepth 100000 in
set_option maxHeartbeats 1000000 in
theorem refformat_all (A : Option Addr) (n c : Nat) (rs : List R) (vs : List Value) (w : World) (h : RLies w A n rs vs) (hn : n ≤ 100000) (hd : dat rs n ≤ 4000) :
    Calls Try.prog 28 #[.slice A n c] w (FRes w rs n) := by
  by_cases h200 : 200 < n
  · have hi : (200 : Int) < (n : Int) := by omega
    have HE : Hid (fmtE rs n = 3) := Lib.hid (if_pos h200)
    clear h hd
    go_enter Try.func28, Try.ntmps28
    go_wp2_with fail
    go_ret2
    exact fres_err HE.out (by decide) (Below.refl _ _)
  · exact refformat_raw A n c rs vs w h (fun _ => ⟨by omega, fun _ => hd⟩)

theorem dat_take (rs : List R) : ∀ n, n ≤ rs.length → dat rs n = ((rs.take n).map (fun r => r.d.length)).sum
  | 0, _ => by simp [dat]
  | n + 1, h => by
    have ih := dat_take rs n (by omega)
    have e : rs.take (n + 1) = rs.take n ++ [rs.getD n r0] := by
      rw [List.take_add_one, List.getD_eq_getElem?_getD, List.getElem?_eq_getElem (by omega)]
      rfl
    simp only [dat]
    rw [ih, e, List.map_append, List.sum_append]
    simp

theorem dat_all (os : List O) : dat (os.map raw) os.length = (os.map (fun o => o.d.length)).sum := by
  rw [dat_take _ _ (by simp), List.take_of_length_le (by simp), List.map_map]
  rfl

theorem Lp.data {b : List Nat} {os : List O} {rest : List Nat} (h : Lp b os rest) : (os.map (fun o => o.d.length)).sum + rest.length ≤ b.length := by
  induction h with
  | nil b => simp
  | @cons b o k os rest h t ih =>
    have h1 := st_size h
    have h2 : o.d.length ≤ k := by
      unfold st at h
      split at h
      · cases h
      · split at h
        · split at h
          · cases h
          · cases h
            simp
        · split at h
          · split at h
            · cases h
            · cases h
              simp
              omega
          · cases h
    simp at ih ⊢
    omega


theorem getD_drop (bs : List Nat) (i j : Nat) : (bs.drop i).getD j 0 = bs.getD (i + j) 0 := by
  rw [List.getD_eq_getElem?_getD, List.getD_eq_getElem?_getD, List.getElem?_drop]

/-- 'append(ops, x)' inside a region that draws its order. -/
theorem step_op {ops : Array Oper} {o : Oper} {a : Act} {w w0 : World} {K : Act → World → Prop} {Q : Exit → Act → World → Prop} {E : Prop} (hgd : o.guard = none) (s x : Operand)
    (ho : o.op = .call { callee := .builtin .append, args := #[s, x], argTypes := #[24, 24] }) (v : Value) (ps : List (O × Value)) (hs : a.eval s = v) (p : O) (dv : Value) (g : Nat) (hx : a.eval x = .slice (some ⟨g, 0, none⟩) 1 1)
    (hst : St w0 ps v w) (hg : w.heap[g]? = some (.cells #[.int .i64 (p.f : Nat), .int .i64 (p.s : Nat), dv] 54 (0, 0))) (hd : By w dv p.d) (hn : ∀ b off n c, dv = .slice (some ⟨b, off, none⟩) n c → v.ownBlock ≠ some b) (hn2 : ps.length ≤ 1000)
    (h : ∀ v' w', St w0 (ps ++ [(p, dv)]) v' w' → (∃ A c, v' = .slice A (ps.length + 1) c) → w.grownBy w' v.ownBlock → K (a.put o.dst v') w') :
    if Region.wanted o (yielded ops a.tmps) = true then Oper.wp Try.prog o a w K Q else E := by
  obtain ⟨i0, hi, hz0, hz1, hz2⟩ := info_parts5 zinfo54
  obtain ⟨D, kd, hdv⟩ := hd.form
  refine step_append_lies w hgd s x 24 ho w0.heap.size 54 i0 _ 3 40 Try.underlying24 hi hz0 hz1 hz2 rfl (by decide) v ps.length (ocs ps) hs hst.row ⟨g, 0, none⟩ 1 1 [.int .i64 (p.f : Nat), .int .i64 (p.s : Nat), dv] hx rfl (World.news_of_block hg) (by rw [hdv]; simp [Value.oneCell']) (by decide) (by unfold maxLen; omega) (by omega) hst.bl.size _ rfl ?_
  intro g2 cap w' hown hgr hat _
  refine h _ w' ?_ ⟨_, _, rfl⟩ hgr
  have hob : ∀ q, v.ownBlock = some q → w0.heap.size ≤ q := fun q e => (hst.row.lt q e).1
  have all : ∀ q ∈ ps ++ [(p, dv)], By w q.2 q.1.d ∧ ∀ b off n c, q.2 = .slice (some ⟨b, off, none⟩) n c → v.ownBlock ≠ some b := by
    intro q hq
    rcases List.mem_append.1 hq with hq | hq
    · exact ⟨hst.by_ q hq, hst.ne q hq⟩
    · have := List.mem_singleton.1 hq
      subst this
      exact ⟨hd, hn⟩
  refine ⟨by rw [ocs_snoc]; simpa using hown, fun q hq => (all q hq).1.grown hgr (fun b off n c e => (all q hq).2 b off n c e), fun q hq b off n c e e2 => ?_, hst.bl.grown hgr hst.bl.size hob⟩
  cases e2
  rcases hat with hat | hat
  · exact (all q hq).2 _ off n c e hat
  · have h3 : g2 < w.heap.size := (all q hq).1.lt e
    omega

theorem append_op {ops : Array Oper} {rest : List Oper} {o : Oper} {a : Act} {w w0 : World} {Q : Exit → Act → World → Prop} (hgd : o.guard = none) (s x : Operand)
    (ho : o.op = .call { callee := .builtin .append, args := #[s, x], argTypes := #[24, 24] }) (v : Value) (ps : List (O × Value)) (hs : a.eval s = v) (p : O) (dv : Value) (g : Nat) (hx : a.eval x = .slice (some ⟨g, 0, none⟩) 1 1)
    (hst : St w0 ps v w) (hg : w.heap[g]? = some (.cells #[.int .i64 (p.f : Nat), .int .i64 (p.s : Nat), dv] 54 (0, 0))) (hd : By w dv p.d) (hn : ∀ b off n c, dv = .slice (some ⟨b, off, none⟩) n c → v.ownBlock ≠ some b) (hn2 : ps.length ≤ 1000)
    (h : ∀ v' w', St w0 (ps ++ [(p, dv)]) v' w' → wpList Try.prog ops Q rest (a.put o.dst v') w') : wpList Try.prog ops Q (o :: rest) a w := by
  obtain ⟨i0, hi, hz0, hz1, hz2⟩ := info_parts5 zinfo54
  obtain ⟨D, kd, hdv⟩ := hd.form
  refine wpList_append_own_at _ hgd s x 24 ho w0.heap.size 54 i0 _ 3 40 Try.underlying24 hi hz0 hz1 hz2 rfl (by decide) v ps.length (ocs ps) hs hst.row ⟨g, 0, none⟩ 1 1 [.int .i64 (p.f : Nat), .int .i64 (p.s : Nat), dv] hx rfl (World.news_of_block hg) (by rw [hdv]; simp [Value.oneCell']) (by unfold maxLen; omega) (by omega) hst.bl.size ?_
  intro v' w' hown hgr _ hat
  refine h v' w' ?_
  have hob : ∀ q, v.ownBlock = some q → w0.heap.size ≤ q := fun q e => (hst.row.lt q e).1
  have all : ∀ q ∈ ps ++ [(p, dv)], By w q.2 q.1.d ∧ ∀ b off n c, q.2 = .slice (some ⟨b, off, none⟩) n c → v.ownBlock ≠ some b := by
    intro q hq
    rcases List.mem_append.1 hq with hq | hq
    · exact ⟨hst.by_ q hq, hst.ne q hq⟩
    · have := List.mem_singleton.1 hq
      subst this
      exact ⟨hd, hn⟩
  refine ⟨by rw [ocs_snoc]; simpa using hown, fun q hq => (all q hq).1.grown hgr (fun b off n c e => (all q hq).2 b off n c e), fun q hq b off n c e e2 => ?_, hst.bl.grown hgr hst.bl.size hob⟩
  rcases hat with hat | hat
  · rw [hat] at e2
    exact (all q hq).2 _ off n c e e2
  · have h3 : b < w.heap.size := (all q hq).1.lt e
    rw [hat] at e2
    have := Option.some.inj e2
    omega

/-- 'append([]byte{}, xs...)': a copy. -/
theorem append_new {ops : Array Oper} {rest : List Oper} {o : Oper} {a : Act} {w : World} {Q : Exit → Act → World → Prop} (hgd : o.guard = none) (s x : Operand)
    (ho : o.op = .call { callee := .builtin .append, args := #[s, x], argTypes := #[23, 23] }) (v2 : Value) (d : List Nat) (hs : a.eval s = .slice (some ⟨w.heap.size, 0, none⟩) 0 0) (hx : a.eval x = v2) (hby : By w v2 d) (hl : d.length ≤ 100000)
    (h : ∀ B c w7, By w7 (.slice B d.length c) d → (∀ b off n c', Value.slice B d.length c = .slice (some ⟨b, off, none⟩) n c' → w.heap.size ≤ b) → Below w.heap.size w w7 → wpList Try.prog ops Q rest (a.put o.dst (.slice B d.length c)) w7) :
    wpList Try.prog ops Q (o :: rest) a (w.alloc (.cells #[] 5)) := by
  refine append_by hgd s x ho w.heap.size (.slice (some ⟨w.heap.size, 0, none⟩) 0 0) v2 0 [] d hs hx (World.ownsRow_lit w #[] 0 (Nat.le_refl _) (by unfold maxLen; omega) rfl) (hby.below (box_below w _)) (by omega) (by simp) ?_
  intro v7 w7 own7 gr7
  rw [List.nil_append, Nat.zero_add] at own7
  obtain ⟨h1, h2⟩ := by_own own7 rfl hby.1
  obtain ⟨B, c, e⟩ := h1.form
  subst e
  exact h B c w7 h1 h2 ((box_below w _).grown gr7 (by simp) (fun g e => by
    simp [Value.ownBlock] at e
    omega))

set_option maxRecDepth 100000 in
set_option maxHeartbeats 4000000 in
theorem refparse_gen (A : Option Addr) (L c : Nat) (bs : List Nat) (w : World) (h : By w (.slice A L c) bs) (hl : bs.length = L) (hL : L ≤ 4000) :
    Calls Try.prog 30 #[.slice A L c] w (PsRes bs w) := by
  obtain ⟨i0, hi, hz0, hz1, hz2⟩ := info_parts5 zinfo54
  have HI := Lib.hid hi
  have HI0 := Lib.hid hz0
  have HI1 := Lib.hid hz1
  have HI2 := Lib.hid hz2
  have HBY := Lib.hid h
  have HL := Lib.hid hl
  clear hi hz0 hz1 hz2 h hl
  go_enter Try.func30, Try.ntmps30
  go_wp2_with fail
  go_loopw [4, 5] (fun v ii wr => ∃ (ps : List (O × Value)) (i : Nat), ii = .int .i64 i ∧ i ≤ L ∧ Lp bs (ps.map (·.1)) (bs.drop i) ∧ St w ps v wr) (fun _ ii _ => L - (intOf ii).toNat)
  case atStart => exact ⟨[], 0, rfl, by omega, .nil _, ⟨World.ownsRow_nil _ _ _ _, fun p hp => by simp at hp, fun p hp => by simp at hp, Below.refl _ _⟩⟩
  case round =>
    obtain ⟨ps, i, rfl, hiL, hlp, hst⟩ := hrel
    obtain ⟨Av, cv, ev, _⟩ := hst.olies
    subst ev
    have HST := Lib.hid hst
    have HLP := Lib.hid hlp
    by_cases h0 : i < L
    · have h0i : (i : Int) < (L : Int) := by omega
      have h0n : (0 : Int) ≤ (i : Int) := by omega
      have hrl : (bs.drop i).length = L - i := by simp [HL.out]
      obtain ⟨b, off, rfl, hcap, hblk, hcs⟩ := (HBY.out.below hst.bl).cells HL.out (by omega)
      have HFAIL : Hid (st (bs.drop i) = none → ∀ os, Lp bs os [] → ¬ Good os) := Lib.hid (fun e => hlp.fails (by rw [hrl]; omega) (.inl e))
      have hps : ps.length ≤ 1000 := by
        have h1 := hlp.few
        have h2 := HL.out
        rw [hrl, List.length_map] at h1
        omega
      have HRL := Lib.hid hrl
      have HCS := Lib.hid hcs
      have hbl := hst.bl
      have HBL := Lib.hid hbl
      clear hlp hst hrl hbl
      by_cases h4 : L < i + 4
      · have h4i : (L : Int) < (i : Int) + 4 := by omega
        have HX := Lib.hid (HFAIL.out (by unfold st; rw [if_pos (by rw [HRL.out]; omega)]))
        clear hcs
        go_wp2_with fail
        go_ret2
        exact .inr ⟨HX.out, rfl, HBL.out⟩
      · have h4i : ¬ (L : Int) < (i : Int) + 4 := by omega
        have h4s : ¬ (bs.drop i).length < 4 := by rw [HRL.out]; omega
        have q0 := hcs i h0
        have e0 : (bs.drop i).getD 0 0 = bs.getD i 0 := getD_drop bs i 0
        have E0 := Lib.hid e0
        have H4S := Lib.hid h4s
        clear hcs h4s e0
        obtain ⟨x, hx⟩ : ∃ x, bs.getD i 0 = x := ⟨_, rfl⟩
        have HX1 := Lib.hid hx
        rw [hx] at q0 E0
        clear hx
        by_cases hx1 : 1 < x
        · have hx1i : (1 : Int) < (x : Int) := by omega
          have HX := Lib.hid (HFAIL.out (by unfold st; rw [if_neg H4S.out, E0.out, if_neg (by omega), if_neg (by omega)]))
          go_wp2_with fail
          go_ret2
          exact .inr ⟨HX.out, rfl, HBL.out⟩
        · have hx1i : ¬ (1 : Int) < (x : Int) := by omega
          by_cases hx1e : x = 1
          · subst hx1e
            by_cases h7 : L < i + 7
            · have h7i : (L : Int) < (i : Int) + 7 := by omega
              have HX := Lib.hid (HFAIL.out (by unfold st; rw [if_neg H4S.out, E0.out, if_pos rfl, if_pos (by rw [HRL.out]; omega)]))
              go_wp2_with fail
              go_ret2
              exact .inr ⟨HX.out, rfl, HBL.out⟩
            · have h7i : ¬ (L : Int) < (i : Int) + 7 := by omega
              have q1 := HCS.out (i + 1) (by omega)
              have q2 := HCS.out (i + 2) (by omega)
              have q3 := HCS.out (i + 3) (by omega)
              have y1 := getD_le HBY.out.1 (i + 1)
              have y2 := getD_le HBY.out.1 (i + 2)
              have y3 := getD_le HBY.out.1 (i + 3)
              have i2 : (0 : Int) ≤ (i : Int) + 1 := by omega
              have i3 : (i : Int) + 1 < (L : Int) := by omega
              have i4 : (0 : Int) ≤ (i : Int) + 2 := by omega
              have i5 : (i : Int) + 2 < (L : Int) := by omega
              have i6 : (0 : Int) ≤ (i : Int) + 3 := by omega
              have i7 : (i : Int) + 3 < (L : Int) := by omega
              have hK : bs.getD (i + 1) 0 * 65536 + bs.getD (i + 2) 0 * 256 + bs.getD (i + 3) 0 = num3 (bs.drop i) 1 := by
                unfold num3
                rw [getD_drop, getD_drop, getD_drop]
              have HK := Lib.hid hK
              clear hK
              generalize bs.getD (i + 1) 0 = v1 at *
              generalize bs.getD (i + 2) 0 = v2 at *
              generalize bs.getD (i + 3) 0 = v3 at *
              go_upto_region 8 with fail
              go_cut [6] from 42 to 63 (fun s6 wx => s6 = .int .i64 ((num3 (bs.drop i) 1 : Nat) : Int) ∧ Below wr.heap.size wr wx)
              case first =>
                go_wp2_with fail
                go_quiet (fail)
                go_wp2_with fail
                go_meet
                case rel =>
                  have o1 : bits .or .i64 ((v1 : Int) * 65536) ((v2 : Int) * 256) = (v1 : Int) * 65536 + (v2 : Int) * 256 := or_i64 _ _ 16 (by omega) (by omega) (by omega) (by omega) (by omega) (by omega)
                  have o2 : bits .or .i64 ((v1 : Int) * 65536 + (v2 : Int) * 256) (v3 : Int) = (v1 : Int) * 65536 + (v2 : Int) * 256 + v3 := or_i64 _ _ 8 (by omega) (by omega) (by omega) (by omega) (by omega) (by omega)
                  exact ⟨by rw [o1, o2, ← HK.out]; simp, below_drewN' (Below.refl _ _) _⟩
              case rest =>
              obtain ⟨rfl, hbc⟩ := hcut
              have HBC := Lib.hid hbc
              have HST2 := Lib.hid (HST.out.below hbc)
              have HCS2 : Hid (∀ j, j < L → wc.cell? ⟨b, off + j, none⟩ = some (.int .u8 ((bs.getD j 0 : Nat) : Int))) := Lib.hid (fun j hj => (hbc.cell (p := ⟨b, off + j, none⟩) hblk).trans (HCS.out j hj))
              have p0 := HCS2.out i h0
              have hKK := num3_le (bs := bs.drop i) (fun x hx => HBY.out.1 x (List.mem_of_mem_drop hx)) 1
              clear q0 q1 q2 q3 hbc
              have hx := HX1.out
              rw [hx] at p0
              have hst : st (bs.drop i) = some (⟨num3 (bs.drop i) 1, num3 (bs.drop i) 4, []⟩, 7) := by
                unfold st
                rw [if_neg H4S.out, if_pos E0.out, if_neg (by rw [HRL.out]; omega)]
              have q4 := HCS2.out (i + 4) (by omega)
              have q5 := HCS2.out (i + 5) (by omega)
              have q6 := HCS2.out (i + 6) (by omega)
              have z1 := getD_le HBY.out.1 (i + 4)
              have z2 := getD_le HBY.out.1 (i + 5)
              have z3 := getD_le HBY.out.1 (i + 6)
              have j2 : (0 : Int) ≤ (i : Int) + 4 := by omega
              have j3 : (i : Int) + 4 < (L : Int) := by omega
              have j4 : (0 : Int) ≤ (i : Int) + 5 := by omega
              have j5 : (i : Int) + 5 < (L : Int) := by omega
              have j6 : (0 : Int) ≤ (i : Int) + 6 := by omega
              have j7 : (i : Int) + 6 < (L : Int) := by omega
              have hK2 : bs.getD (i + 4) 0 * 65536 + bs.getD (i + 5) 0 * 256 + bs.getD (i + 6) 0 = num3 (bs.drop i) 4 := by
                unfold num3
                rw [getD_drop, getD_drop, getD_drop]
              have HK2 := Lib.hid hK2
              have HSO := Lib.hid hst
              clear hK2 hst hx
              have HKS : Hid (∀ W, Below w.heap.size w W → W.cell? ⟨b, off + (i + 4), none⟩ = some (.int .u8 ((bs.getD (i + 4) 0 : Nat) : Int)) ∧ W.cell? ⟨b, off + (i + 5), none⟩ = some (.int .u8 ((bs.getD (i + 5) 0 : Nat) : Int)) ∧ W.cell? ⟨b, off + (i + 6), none⟩ = some (.int .u8 ((bs.getD (i + 6) 0 : Nat) : Int))) := Lib.hid (fun W hW => by
                obtain ⟨b', off', e, _, _, hcs⟩ := (HBY.out.below hW).cells HL.out (by omega)
                cases e
                exact ⟨hcs (i + 4) (by omega), hcs (i + 5) (by omega), hcs (i + 6) (by omega)⟩)
              generalize bs.getD (i + 4) 0 = t1 at *
              generalize bs.getD (i + 5) 0 = t2 at *
              generalize bs.getD (i + 6) 0 = t3 at *
              have o1 : bits .or .i64 ((t1 : Int) * 65536) ((t2 : Int) * 256) = (t1 : Int) * 65536 + (t2 : Int) * 256 := or_i64 _ _ 16 (by omega) (by omega) (by omega) (by omega) (by omega) (by omega)
              have o2 : bits .or .i64 ((t1 : Int) * 65536 + (t2 : Int) * 256) (t3 : Int) = (num3 (bs.drop i) 4 : Nat) := by
                rw [or_i64 _ _ 8 (by omega) (by omega) (by omega) (by omega) (by omega) (by omega), ← HK2.out]
                simp
              generalize num3 (bs.drop i) 1 = K1 at *
              generalize num3 (bs.drop i) 4 = K2 at *
              have b1 : IntKind.i64.wrap (t1 : Int) = (t1 : Int) := by rw [IntKind.wrap_i64]; omega
              have b2 : IntKind.i64.wrap ((t1 : Int) * 65536) = (t1 : Int) * 65536 := by rw [IntKind.wrap_i64]; omega
              have b3 : IntKind.i64.wrap (t2 : Int) = (t2 : Int) := by rw [IntKind.wrap_i64]; omega
              have b4 : IntKind.i64.wrap ((t2 : Int) * 256) = (t2 : Int) * 256 := by rw [IntKind.wrap_i64]; omega
              have b5 : IntKind.i64.wrap (t3 : Int) = (t3 : Int) := by rw [IntKind.wrap_i64]; omega
              have n4 : ((i : Int) + 4).toNat = i + 4 := by omega
              have n5 : ((i : Int) + 5).toNat = i + 5 := by omega
              have n6 : ((i : Int) + 6).toNat = i + 6 := by omega
              have a4 : IntKind.i64.wrap ((i : Int) + 4) = (i : Int) + 4 := by rw [IntKind.wrap_i64]; omega
              have a5 : IntKind.i64.wrap ((i : Int) + 5) = (i : Int) + 5 := by rw [IntKind.wrap_i64]; omega
              have a6 : IntKind.i64.wrap ((i : Int) + 6) = (i : Int) + 6 := by rw [IntKind.wrap_i64]; omega
              have hkS : ∀ W, Below w.heap.size w W → W.cell? ⟨b, off + (i + 4), none⟩ = some (.int .u8 (t1 : Int)) ∧ W.cell? ⟨b, off + (i + 5), none⟩ = some (.int .u8 (t2 : Int)) ∧ W.cell? ⟨b, off + (i + 6), none⟩ = some (.int .u8 (t3 : Int)) := HKS.out
              have g1 : Below w.heap.size w wc := HST2.out.bl
              have g2 : Below w.heap.size w wc.drew := g1.drew
              have g3 : Below w.heap.size w (wc.alloc (.cells #[.int .i64 (K1 : Int), .int .i64 (K2 : Int), .slice none 0 0] 54)) := g1.trans ((box_below wc _).mono g1.size)
              have g4 : Below w.heap.size w ((wc.alloc (.cells #[.int .i64 (K1 : Int), .int .i64 (K2 : Int), .slice none 0 0] 54)).drew) := g3.drew
              have HS4 := Lib.hid (HST2.out.below ((box_below wc (.cells #[.int .i64 (K1 : Int), .int .i64 (K2 : Int), .slice none 0 0] 54)).drew))
              have HBX := Lib.hid (heap_alloc_new wc (.cells #[.int .i64 (K1 : Int), .int .i64 (K2 : Int), .slice none 0 0] 54))
              have HKSS := Lib.hid hkS
              clear hkS q4 q5 q6
              go_wp2_with fail
              go_region_held3 (fun w' => w'.cell? ⟨b, off + (i + 4), none⟩ = some (.int .u8 (t1 : Int)) ∧ w'.cell? ⟨b, off + (i + 5), none⟩ = some (.int .u8 (t2 : Int)) ∧ w'.cell? ⟨b, off + (i + 6), none⟩ = some (.int .u8 (t3 : Int)))
                (first | exact HKSS.out _ g1 | exact HKSS.out _ g2 | exact HKSS.out _ g3 | exact HKSS.out _ g4 | exact HKSS.out _ HS6.out.bl | assumption)
                (first
                  | (refine step_op (w0 := w) (by rfl) (.tmp 69) (.tmp 94) (by rfl) _ ps (by rfl) ⟨K1, K2, []⟩ (.slice none 0 0) wc.heap.size (by rfl) HS4.out HBX.out ⟨by simp, .inl ⟨rfl, rfl⟩⟩ (fun _ _ _ _ e => by cases e) hps ?_; intro v' w6 hst6 hfm _; have HS6 := Lib.hid hst6; clear hst6; obtain ⟨A6, c6, hv6⟩ := hfm; subst hv6))
              go_wp2_with fail
              refine ⟨⟨ps ++ [(⟨K1, K2, []⟩, .slice none 0 0)], i + 7, by go_num, by omega, ?_, HS6.out⟩, by simp [intOf]; omega⟩
              have hsn := HLP.out.snoc HSO.out
              rw [List.drop_drop] at hsn
              rw [List.map_append]
              exact hsn
          · obtain rfl : x = 0 := by omega
            have q1 := HCS.out (i + 1) (by omega)
            have q2 := HCS.out (i + 2) (by omega)
            have q3 := HCS.out (i + 3) (by omega)
            have y1 := getD_le HBY.out.1 (i + 1)
            have y2 := getD_le HBY.out.1 (i + 2)
            have y3 := getD_le HBY.out.1 (i + 3)
            have i2 : (0 : Int) ≤ (i : Int) + 1 := by omega
            have i3 : (i : Int) + 1 < (L : Int) := by omega
            have i4 : (0 : Int) ≤ (i : Int) + 2 := by omega
            have i5 : (i : Int) + 2 < (L : Int) := by omega
            have i6 : (0 : Int) ≤ (i : Int) + 3 := by omega
            have i7 : (i : Int) + 3 < (L : Int) := by omega
            have hK : bs.getD (i + 1) 0 * 65536 + bs.getD (i + 2) 0 * 256 + bs.getD (i + 3) 0 = num3 (bs.drop i) 1 := by
              unfold num3
              rw [getD_drop, getD_drop, getD_drop]
            have HK := Lib.hid hK
            clear hK
            generalize bs.getD (i + 1) 0 = v1 at *
            generalize bs.getD (i + 2) 0 = v2 at *
            generalize bs.getD (i + 3) 0 = v3 at *
            go_upto_region 8 with fail
            go_cut [6] from 42 to 63 (fun s6 wx => s6 = .int .i64 ((num3 (bs.drop i) 1 : Nat) : Int) ∧ Below wr.heap.size wr wx)
            case first =>
              go_wp2_with fail
              go_quiet (fail)
              go_wp2_with fail
              go_meet
              case rel =>
                have o1 : bits .or .i64 ((v1 : Int) * 65536) ((v2 : Int) * 256) = (v1 : Int) * 65536 + (v2 : Int) * 256 := or_i64 _ _ 16 (by omega) (by omega) (by omega) (by omega) (by omega) (by omega)
                have o2 : bits .or .i64 ((v1 : Int) * 65536 + (v2 : Int) * 256) (v3 : Int) = (v1 : Int) * 65536 + (v2 : Int) * 256 + v3 := or_i64 _ _ 8 (by omega) (by omega) (by omega) (by omega) (by omega) (by omega)
                exact ⟨by rw [o1, o2, ← HK.out]; simp, below_drewN' (Below.refl _ _) _⟩
            case rest =>
            obtain ⟨rfl, hbc⟩ := hcut
            have HBC := Lib.hid hbc
            have HST2 := Lib.hid (HST.out.below hbc)
            have HCS2 : Hid (∀ j, j < L → wc.cell? ⟨b, off + j, none⟩ = some (.int .u8 ((bs.getD j 0 : Nat) : Int))) := Lib.hid (fun j hj => (hbc.cell (p := ⟨b, off + j, none⟩) hblk).trans (HCS.out j hj))
            have p0 := HCS2.out i h0
            have hKK := num3_le (bs := bs.drop i) (fun x hx => HBY.out.1 x (List.mem_of_mem_drop hx)) 1
            clear q0 q1 q2 q3 hbc
            have hx := HX1.out
            rw [hx] at p0
            by_cases hK : L < i + 4 + num3 (bs.drop i) 1
            · have hKi : (L : Int) < (i : Int) + 4 + (num3 (bs.drop i) 1 : Nat) := by omega
              have HX := Lib.hid (HFAIL.out (by unfold st; rw [if_neg H4S.out, E0.out, if_neg (by omega), if_pos rfl, if_pos (by rw [HRL.out]; omega)]))
              generalize num3 (bs.drop i) 1 = K1 at *
              clear hx
              go_wp2_with fail
              go_ret2
              exact .inr ⟨HX.out, rfl, HST2.out.bl⟩
            · have hKi : ¬ (L : Int) < (i : Int) + 4 + (num3 (bs.drop i) 1 : Nat) := by omega
              have hst : st (bs.drop i) = some (⟨0, 0, ((bs.drop i).drop 4).take (num3 (bs.drop i) 1)⟩, 4 + num3 (bs.drop i) 1) := by
                unfold st
                rw [if_neg H4S.out, E0.out, if_neg (by omega), if_pos rfl, if_neg (by rw [HRL.out]; omega)]
              rw [List.drop_drop] at hst
              have HSO := Lib.hid hst
              obtain ⟨d, hd⟩ : ∃ d, (bs.drop (i + 4)).take (num3 (bs.drop i) 1) = d := ⟨_, rfl⟩
              have hdl : d.length = num3 (bs.drop i) 1 := by rw [← hd]; simp [HL.out]; omega
              rw [hd] at HSO
              have hpc : By wc (.slice (if c = i + 4 then some ⟨b, off, none⟩ else some ⟨b, off + (i + 4), none⟩) (num3 (bs.drop i) 1) (c - (i + 4))) d := by
                have h1 := HBY.out.below HST2.out.bl
                by_cases hce : c = i + 4
                · rw [if_pos hce]
                  have h0K : num3 (bs.drop i) 1 = 0 := by omega
                  have hd0 : d = [] := List.eq_nil_of_length_eq_zero (by omega)
                  rw [h0K, hd0]
                  refine ⟨by simp, .inr ⟨b, off, c - (i + 4), rfl, by simp, by unfold maxLen; omega, Nat.lt_of_lt_of_le hblk HBC.out.size, fun j hj => by simp at hj⟩⟩
                · rw [if_neg hce, ← hd]
                  exact piece_by h1 HL.out (by omega)
              have HPC := Lib.hid hpc
              have HDL := Lib.hid hdl
              generalize num3 (bs.drop i) 1 = K1 at *
              clear hx hst hd hdl hpc
              have k1 : (0 : Int) ≤ (i : Int) + 4 := by omega
              have k2 : (i : Int) + 4 ≤ (i : Int) + 4 + (K1 : Int) := by omega
              have k3 : (i : Int) + 4 + (K1 : Int) ≤ (c : Int) := by omega
              have k4 : i + 4 + K1 - (i + 4) = K1 := by omega
              by_cases hK0 : K1 = 0
              · subst hK0
                have hd0 : d = [] := List.eq_nil_of_length_eq_zero HDL.out
                subst hd0
                have HE7 : Hid (By (wc.alloc (.cells #[] 5)) (.slice (some ⟨wc.heap.size, 0, none⟩) 0 0) []) := Lib.hid ⟨by simp, .inr ⟨wc.heap.size, 0, 0, rfl, by simp, by unfold maxLen; omega, by simp, fun j hj => by simp at hj⟩⟩
                have hz1 : ((i : Int) + 4).toNat = i + 4 := by omega
                by_cases hce : c = i + 4
                · subst hce
                  go_wp2_with (first
                    | (at_builtin; refine append_op (w0 := w) rfl (.tmp 105) (.tmp 117) rfl _ ps rfl ⟨0, 0, []⟩ (.slice (some ⟨wc.heap.size, 0, none⟩) 0 0) (wc.heap.size + 1) rfl ((HST2.out.below (box_below wc (.cells #[] 5))).below (box_below _ _)) (by have := heap_alloc_new (wc.alloc (.cells #[] 5)) (.cells #[.int .i64 0, .int .i64 0, .slice (some ⟨wc.heap.size, 0, none⟩) 0 0] 54); simpa using this) (HE7.out.below (box_below _ _)) (fun b' off' n' c2 e e2 => by cases e; have h2 := (HST2.out.row.lt _ e2).2; omega) hps ?_; intro v8 w8 hst8; have HS8 := Lib.hid hst8; clear hst8))
                  refine ⟨⟨ps ++ [(⟨0, 0, []⟩, .slice (some ⟨wc.heap.size, 0, none⟩) 0 0)], i + 4, by go_num, by omega, ?_, HS8.out⟩, by simp [intOf]; omega⟩
                  have hsn := HLP.out.snoc HSO.out
                  rw [List.drop_drop] at hsn
                  rw [List.map_append]
                  exact hsn
                · skip
                  go_wp2_with (first
                    | (at_builtin; refine append_op (w0 := w) rfl (.tmp 105) (.tmp 117) rfl _ ps rfl ⟨0, 0, []⟩ (.slice (some ⟨wc.heap.size, 0, none⟩) 0 0) (wc.heap.size + 1) rfl ((HST2.out.below (box_below wc (.cells #[] 5))).below (box_below _ _)) (by have := heap_alloc_new (wc.alloc (.cells #[] 5)) (.cells #[.int .i64 0, .int .i64 0, .slice (some ⟨wc.heap.size, 0, none⟩) 0 0] 54); simpa using this) (HE7.out.below (box_below _ _)) (fun b' off' n' c2 e e2 => by cases e; have h2 := (HST2.out.row.lt _ e2).2; omega) hps ?_; intro v8 w8 hst8; have HS8 := Lib.hid hst8; clear hst8))
                  refine ⟨⟨ps ++ [(⟨0, 0, []⟩, .slice (some ⟨wc.heap.size, 0, none⟩) 0 0)], i + 4, by go_num, by omega, ?_, HS8.out⟩, by simp [intOf]; omega⟩
                  have hsn := HLP.out.snoc HSO.out
                  rw [List.drop_drop] at hsn
                  rw [List.map_append]
                  exact hsn
              · have hce : ¬ c = i + 4 := by omega
                have hdl2 : d.length ≤ 100000 := by rw [HDL.out]; omega
                have HPC' := HPC.out
                rw [if_neg hce] at HPC'
                have HPC := Lib.hid HPC'
                clear HPC'
                go_wp2_with (first
                  | (at_builtin; refine append_new (w := wc) rfl (.tmp 106) (.tmp 114) rfl _ d rfl rfl ?_ hdl2 ?_; (go_loud (first | exact HPC.out | (rw [k4]; exact HPC.out) | (simpa [k4] using HPC.out))); intro B7; intro c7; intro w7; intro hby7; intro hfar7; intro hb7; have HB7 := Lib.hid hb7; have HY7 := Lib.hid hby7; have HF7 := Lib.hid hfar7; clear hb7 hby7 hfar7)
                  | (at_builtin; refine append_op (w0 := w) rfl (.tmp 105) (.tmp 117) rfl _ ps rfl ⟨0, 0, d⟩ (.slice B7 d.length c7) w7.heap.size rfl ((HST2.out.below HB7.out).below (box_below w7 _)) (heap_alloc_new w7 _) (HY7.out.below (box_below w7 _)) (fun b' off' n' c2 e e2 => by have h1 := HF7.out b' off' n' c2 e; have h2 := (HST2.out.row.lt _ e2).2; omega) hps ?_; intro v8 w8 hst8; have HS8 := Lib.hid hst8; clear hst8))
                refine ⟨⟨ps ++ [(⟨0, 0, d⟩, .slice B7 d.length c7)], i + (4 + K1), by go_num, by omega, ?_, HS8.out⟩, by simp [intOf]; omega⟩
                have hsn := HLP.out.snoc HSO.out
                rw [List.drop_drop] at hsn
                rw [List.map_append]
                exact hsn
    · have hiL2 : i = L := by omega
      subst hiL2
      have hdr : bs.drop i = [] := List.drop_eq_nil_of_le (by rw [HL.out]; exact Nat.le_refl _)
      rw [hdr] at hlp
      obtain ⟨A2, c2, ev2, hol⟩ := hst.olies
      cases ev2
      have hlen : ps.length ≤ 1000 := by
        have h1 := hlp.few
        rw [List.length_map, HL.out] at h1
        omega
      have hdat : dat ((ps.map (·.1)).map raw) ps.length ≤ 4000 := by
        have h1 := dat_all (ps.map (·.1))
        have h2 := hlp.data
        rw [List.length_map] at h1
        rw [h1]
        have := HL.out
        simp only [List.length_nil] at h2
        omega
      have hgi := fmtE_good hlp (by rw [HL.out]; omega)
      rw [List.length_map] at hgi
      have HF := Lib.hid (refformat_all _ ps.length cv ((ps.map (·.1)).map raw) (ps.map (·.2)) wr hol.raw (by omega) hdat)
      have HLQ := Lib.hid hlp
      have HOL := Lib.hid hol
      have hbyr : ∀ o ∈ ps.map (·.1), good o = true → True := fun _ _ _ => trivial
      have HGI := Lib.hid hgi
      clear hlp hol hdr hdat hbyr hst HLP hgi
      by_cases hE : fmtE ((ps.map (·.1)).map raw) ps.length = 0
      · have hgood := HGI.out.1 hE
        have hbytes : fmtB ((ps.map (·.1)).map raw) ps.length = bs := by
          rw [show fmtB ((ps.map (·.1)).map raw) ps.length = fmR ((ps.map (·.1)).map raw) ps.length from if_pos hE, fmR_eq _ _ (by simp), List.take_of_length_le (by simp)]
          have := HLQ.out.bytes HBY.out.1 hgood.2
          simpa using this.symm
        have HGD := Lib.hid hgood
        have HBT := Lib.hid hbytes
        have HEE := Lib.hid hE
        clear hgood hbytes
        go_wp2_with fail
        refine HF.out.mono ?_
        rintro e w3 ⟨v1, rfl, hrow, hb3⟩
        rw [HBT.out] at hrow
        rw [HEE.out]
        have q1 := conv_by (by_own hrow rfl HBY.out.1).1
        have q2 := conv_by (HBY.out.below (HST.out.bl.trans (hb3.mono HST.out.bl.size)))
        have HB3 := Lib.hid hb3
        clear hrow hb3 hE
        generalize strB bs = SS at *
        go_wp2_with fail
        go_ret2
        refine .inl ⟨ps.map (·.1), Av, cv, ps.map (·.2), ?_, HLQ.out, HGD.out, ?_, HST.out.bl.trans (HB3.out.mono HST.out.bl.size)⟩
        · rw [List.length_map]
          rfl
        · rw [List.length_map]
          exact HOL.out.below HB3.out
      · have HX : Hid (∀ os, Lp bs os [] → ¬ Good os) := Lib.hid (fun os ho hg => hE (HGI.out.2 (by rw [HLQ.out.uniq ho]; exact hg)))
        obtain ⟨E, hEE⟩ : ∃ E, fmtE ((ps.map (·.1)).map raw) ps.length = E := ⟨_, rfl⟩
        rw [hEE] at hE
        have hbe : (E == 0) = false := beq_eq_false_iff_ne.2 hE
        have HEE := Lib.hid hEE
        clear hEE
        go_wp2_with fail
        refine HF.out.mono ?_
        rintro e w3 ⟨v1, rfl, hrow, hb3⟩
        rw [HEE.out]
        have HB3 := Lib.hid (HST.out.bl.trans (hb3.mono HST.out.bl.size))
        clear hrow hb3
        go_wp2_with fail
        go_ret2
        exact .inr ⟨HX.out, rfl, HB3.out⟩

end Go.Proofs.Ytgaliinjjonlmaa.Dt
