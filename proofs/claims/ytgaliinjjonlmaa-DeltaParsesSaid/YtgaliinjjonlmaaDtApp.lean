import Derived.Test.YtgaliinjjonlmaaDtMem
namespace Go.Proofs.Ytgaliinjjonlmaa.Dt
open Go.RowKit
open Go.Proofs.Ytgaliinjjonlmaa.Tp
set_option linter.unusedVariables false

theorem info_parts5 {t : TypeId} {z : Value} {s b : Nat} (h : (Try.prog.info? t).map (fun i => (i.zero, i.size, i.bytes)) = some (some z, s, b)) : ∃ i, Try.prog.info? t = some i ∧ i.zero = some z ∧ i.size = s ∧ i.bytes = b := by
  cases hi : Try.prog.info? t with
  | none => rw [hi] at h; cases h
  | some i =>
    rw [hi] at h
    simp at h
    exact ⟨i, rfl, h.1, h.2.1, h.2.2⟩

theorem u8s_len (bs : List Nat) : (u8s bs).length = bs.length := by simp [u8s]
theorem u8s_app (xs bs : List Nat) : u8s xs ++ u8s bs = u8s (xs ++ bs) := by simp [u8s]
theorem u8s_one (bs : List Nat) : ∀ u ∈ u8s bs, u.oneCell' = true := by
  intro u hu
  simp [u8s] at hu
  obtain ⟨b, _, rfl⟩ := hu
  rfl

theorem u8s_at (bs : List Nat) (j : Nat) (u : Value) (h : (u8s bs)[j]? = some u) : j < bs.length ∧ u = .int .u8 ((bs.getD j 0 : Nat) : Int) := by
  have hj := (List.getElem?_eq_some_iff.1 h).1
  rw [u8s_len] at hj
  refine ⟨hj, ?_⟩
  simp only [u8s, List.getElem?_map, List.getElem?_eq_getElem hj, Option.map_some, Option.some.injEq] at h
  rw [← h, List.getD_eq_getElem?_getD, List.getElem?_eq_getElem hj]
  rfl

/-- 'append(out, xs...)': out a row of the call's own, xs bytes, nil or not. -/
theorem append_by {ops : Array Oper} {rest : List Oper} {o : Oper} {a : Act} {w : World} {Q : Exit → Act → World → Prop} (hgd : o.guard = none) (s x : Operand)
    (ho : o.op = .call { callee := .builtin .append, args := #[s, x], argTypes := #[23, 23] }) (base : Nat) (v v2 : Value) (n : Nat) (xs bs : List Nat) (hs : a.eval s = v) (hx : a.eval x = v2)
    (hown : w.ownsRow base 5 1 v n (u8s xs)) (hby : By w v2 bs) (h63 : n + bs.length ≤ 1000000) (hbase : base ≤ w.heap.size)
    (h : ∀ v' w', w'.ownsRow base 5 1 v' (n + bs.length) (u8s (xs ++ bs)) → w.grownBy w' v.ownBlock → wpList Try.prog ops Q rest (a.put o.dst v') w') : wpList Try.prog ops Q (o :: rest) a w := by
  obtain ⟨i0, hi, hz0, hz1, hz2⟩ := info_parts5 info5
  rcases hby.2 with ⟨rfl, rfl⟩ | ⟨b, off, c, rfl, h1, h2, h3, h4⟩
  · refine wpList_append_own_none hgd s x 23 ho base 5 i0 1 Try.underlying23 hi v n (u8s xs) hs hown hx (h v w ?_ (World.grownBy.refl _ _))
    simpa using hown
  · refine wpList_append_own _ hgd s x 23 ho base 5 i0 (.int .u8 0) 1 1 Try.underlying23 hi hz0 hz1 hz2 rfl (by decide) v n (u8s xs) hs hown ⟨b, off, none⟩ bs.length c (u8s bs) hx (by rw [u8s_len, Nat.mul_one]) (fun j u hj => ?_) (u8s_one bs) (by unfold maxLen; omega) (by omega) hbase ?_
    · obtain ⟨hjl, rfl⟩ := u8s_at bs j u hj
      have ea : (⟨b, off, none⟩ : Addr).add j = ⟨b, off + j, none⟩ := by unfold Addr.add; split <;> simp_all
      rw [ea]
      exact h4 j hjl
    · intro v' w' k1 k2 _
      rw [u8s_app] at k1
      exact h v' w' k1 k2

theorem piece_by {w : World} {b off c N f s : Nat} {base : List Nat} (h : By w (.slice (some ⟨b, off, none⟩) N c) base) (hN : base.length = N) (hfs : f + s ≤ N) : By w (.slice (some ⟨b, off + f, none⟩) s (c - f)) ((base.drop f).take s) := by
  have hlen : ((base.drop f).take s).length = s := by simp; omega
  refine ⟨fun x hx => h.1 x (List.mem_of_mem_drop (List.mem_of_mem_take hx)), .inr ?_⟩
  rcases h.2 with ⟨e, _⟩ | ⟨b', off', c', e, h1, h2, h3, h4⟩
  · cases e
  · cases e
    refine ⟨b, off + f, c - f, by rw [hlen], by rw [hlen]; omega, by omega, h3, fun j hj => ?_⟩
    rw [hlen] at hj
    rw [Nat.add_assoc, h4 (f + j) (by omega)]
    have e2 : ((base.drop f).take s).getD j 0 = base.getD (f + j) 0 := by
      rw [List.getD_eq_getElem?_getD, List.getD_eq_getElem?_getD, List.getElem?_take_of_lt hj, List.getElem?_drop]
    rw [e2]

/-- Between two rounds of Apply. -/
structure Apr (w : World) (base : List Nat) (os : List O) (i m : Nat) (v : Value) (wr : World) : Prop where
  row : wr.ownsRow w.heap.size 5 1 v m (u8s (apl base os i))
  len : (apl base os i).length = m
  bl : Below w.heap.size w wr

theorem Apr.below {w wr w' : World} {base : List Nat} {os : List O} {i m : Nat} {v : Value} (h : Apr w base os i m v wr) (hb : Below wr.heap.size wr w') : Apr w base os i m v w' :=
  ⟨h.row.kept (row := none) ⟨hb.os, hb.tape, hb.output, hb.size, fun k hk _ => hb.block k hk⟩ (by cases hv : v.ownBlock <;> simp), h.len, h.bl.trans (hb.mono h.bl.size)⟩

theorem apl_len (base : List Nat) (os : List O) : ∀ n, (∀ j, j < n → OkO base.length (os.getD j o0)) → (apl base os n).length = tot os n
  | 0, _ => rfl
  | n + 1, h => by
    have ih := apl_len base os n (fun j hj => h j (by omega))
    have ho := h n (by omega)
    simp only [apl, tot, List.length_append, ih, ap, cnt]
    congr 1
    generalize os.getD n o0 = o at *
    rcases ho with ⟨h1, h2, h3⟩ | ⟨h1, h2, h3, h4⟩
    · rw [if_neg (by omega), h2]
      simp
    · rw [if_pos h1, h2]
      simp
      omega

/-- A valid operation as a value is valid. -/
theorem vo_ok {w : World} {N : Nat} {o : O} {v : Value} (h : VO N o v) (hb : By w v o.d) : OkO N o := by
  rcases h with ⟨h1, h2, A, k, c, rfl, hk⟩ | ⟨h1, rfl, h3, h4⟩
  · left
    obtain ⟨A', c', e⟩ := hb.form
    cases e
    exact ⟨h1, h2, hk⟩
  · right
    rcases hb.2 with ⟨_, h5⟩ | ⟨b, off, c, e, _⟩
    · exact ⟨h1, h5, h3, h4⟩
    · cases e

def ARes (w : World) (bs : List Nat) (e : Ending) (w' : World) : Prop := ∃ v, e = .returned (.tuple #[v, .int .i64 0]) ∧ w'.ownsRow w.heap.size 5 1 v bs.length (u8s bs) ∧ Below w.heap.size w w'

theorem Apr.done {w wr w3 w4 : World} {base : List Nat} {os : List O} {i m : Nat} {v v1 v2 : Value} {pl d : List Nat} {box : Obj} (h : Apr w base os i m v wr) (e : apl base os (i + 1) = apl base os i ++ (pl ++ d))
    (g1 : (wr.alloc box).grownBy w3 v.ownBlock) (o1 : w3.ownsRow w.heap.size 5 1 v1 (m + pl.length) (u8s (apl base os i ++ pl))) (o2 : w4.ownsRow w.heap.size 5 1 v2 (m + pl.length + d.length) (u8s (apl base os i ++ pl ++ d))) (g2 : w3.grownBy w4 v1.ownBlock) : Apr w base os (i + 1) (m + pl.length + d.length) v2 w4 := by
  have b1 : Below w.heap.size w w3 := (h.below (box_below wr box)).bl.grown g1 (h.below (box_below wr box)).bl.size (fun g e => (h.row.lt g e).1)
  refine ⟨by rw [e, ← List.append_assoc]; exact o2, by rw [e]; simp [h.len]; omega, b1.grown g2 b1.size (fun g e => (o1.lt g e).1)⟩

theorem Apr.box {w wr w3 : World} {base : List Nat} {os : List O} {i m : Nat} {v : Value} {cs : Array Value} (h : Apr w base os i m v wr) (g1 : (wr.alloc (.cells cs 54)).grownBy w3 v.ownBlock) : w3.heap[wr.heap.size]? = some (.cells cs 54 (0, 0)) ∧ Below w.heap.size w w3 :=
  ⟨(g1.block wr.heap.size (by simp) (fun e => by have := (h.row.lt _ e.symm).2; omega)).trans (heap_alloc_new wr _), (h.below (box_below wr (.cells cs 54))).bl.grown g1 (h.below (box_below wr (.cells cs 54))).bl.size (fun g e => (h.row.lt g e).1)⟩

set_option maxRecDepth 100000 in
set_option maxHeartbeats 4000000 in
theorem apply_any (A B : Option Addr) (n c N cb : Nat) (base : List Nat) (os : List O) (vs : List Value) (w : World) (h : OLies w A n os vs) (hv : ∀ j, j < n → VO N (os.getD j o0) (vs.getD j undef)) (ht : tot os n ≤ 60000) (hn : n ≤ 200) (hN : N ≤ 60000)
    (hb : By w (.slice B N cb) base) (hbl : base.length = N) :
    Calls Try.prog 20 #[.slice B N cb, .slice A n c] w (ARes w (apl base os n)) := by
  have HCK := Lib.hid (check_any A B n c N cb os vs w h hv ht hn hN)
  have HLI := Lib.hid (fun w' (hw : Below w.heap.size w w') => h.below hw)
  have HV := Lib.hid hv
  have HBY := Lib.hid (fun w' (hw : Below w.heap.size w w') => hb.below hw)
  have HBL := Lib.hid hbl
  have HOK : Hid (∀ j, j < n → OkO base.length (os.getD j o0)) := Lib.hid (fun j hj => by rw [hbl]; exact vo_ok (hv j hj) (h.by_ j hj))
  have HTM := Lib.hid (fun m hm => tot_mono os m n hm)
  clear h hv hb hbl
  go_enter Try.func20, Try.ntmps20
  go_wp2_with (go_at_call 22; refine HCK.out.mono ?_; rintro e w1 ⟨rfl, hb1⟩; have HB1 := Lib.hid hb1; clear hb1)
  go_loopw [7, 18] (fun v ii wr => ∃ i m : Nat, i ≤ n ∧ ii = .int .i64 i ∧ Apr w base os i m v wr) (fun _ ii _ => n - (intOf ii).toNat)
  case atStart => exact ⟨0, 0, by omega, rfl, World.ownsRow_nil _ _ _ _, rfl, HB1.out⟩
  case round =>
    obtain ⟨i, m, hi, rfl, hap⟩ := hrel
    have HAP := Lib.hid hap
    by_cases hlt : i < n
    · obtain ⟨b, off, rfl, hbk, hc⟩ := (HLI.out _ hap.bl).mem (by omega)
      obtain ⟨c0, c1, c2⟩ := hc i hlt
      have hvo := HV.out i hlt
      have hby := fun w' hw => (HLI.out w' hw).by_ i hlt
      have hm : m ≤ 60000 := by
        rw [← hap.len, apl_len base os i (fun j hj => HOK.out j (by omega))]
        exact Nat.le_trans (HTM.out i hi) ht
      have hm2 : (apl base os (i + 1)).length ≤ 60000 := by
        rw [apl_len base os (i + 1) (fun j hj => HOK.out j (by omega))]
        exact Nat.le_trans (HTM.out (i + 1) hlt) ht
      have e1 : apl base os (i + 1) = apl base os i ++ ap base (os.getD i o0) := rfl
      rw [e1, List.length_append, hap.len] at hm2
      clear hc hap
      obtain ⟨⟨F, S, d⟩, ho⟩ : ∃ o, os.getD i o0 = o := ⟨_, rfl⟩
      obtain ⟨dv, hdv⟩ : ∃ v, vs.getD i undef = v := ⟨_, rfl⟩
      rw [ho] at c0 c1 hvo hby hm2 e1
      rw [hdv] at c2 hvo hby
      have HE := Lib.hid e1
      have HD := Lib.hid hby
      clear hby ho hdv e1
      have HAB := Lib.hid (fun o => HAP.out.below (box_below wr o))
      rcases hvo with ⟨h2, h3, X, k, cc, rfl, hk⟩ | ⟨hS, rfl, h3, h4⟩
      · simp only at h2 h3
        subst h2
        subst h3
        simp only [ap, List.length_append, List.drop_zero, List.take_zero, List.length_nil] at hm2
        rcases (HBY.out w (Below.refl _ _)).2 with ⟨eB, eb⟩ | ⟨b2, off2, c2', eB, h5, _⟩
        · cases eB
          have hpb : ∀ w', Below w.heap.size w w' → By w' (.slice none 0 0) ([] : List Nat) := fun w' hw => ⟨fun x hx => by simp at hx, .inl ⟨rfl, rfl⟩⟩
          have hpl : (([] : List Nat)).length = 0 := by rfl
          have HPB := Lib.hid hpb
          clear hpb
          go_wp2_with (first
            | (at_builtin; refine append_by rfl (.tmp 22) (.tmp 31) rfl w.heap.size _ (.slice none 0 0) m (apl base os i) ([] : List Nat) rfl rfl (HAB.out _).row (HPB.out _ (HAB.out _).bl) (by rw [hpl]; omega) (HAB.out _).bl.size ?_; intro v1 w3 own1 gr1; obtain ⟨hbx, hb3⟩ := HAP.out.box gr1; obtain ⟨q0, q1, q2⟩ := opCells _ _ _ _ _ _ _ hbx; have HO1 := Lib.hid own1; have HG1 := Lib.hid gr1; have HB3 := Lib.hid hb3; clear own1 gr1 hbx hb3)
            | (at_builtin; refine append_by rfl (.tmp 33) (.tmp 35) rfl w.heap.size _ (.slice X k cc) (m + (([] : List Nat)).length) (apl base os i ++ ([] : List Nat)) d rfl rfl HO1.out (HD.out _ HB3.out) (by rw [hpl]; omega) HB3.out.size ?_; intro v2 w4 own2 gr2; have HO2 := Lib.hid own2; have HG2 := Lib.hid gr2; clear own2 gr2))
          exact ⟨⟨i + 1, _, by omega, by go_num, HAP.out.done HE.out HG1.out HO1.out HO2.out HG2.out⟩, by simp [intOf]; omega⟩
        · cases eB
          have hpb : ∀ w', Below w.heap.size w w' → By w' (.slice (some ⟨b2, off2, none⟩) 0 cb) ([] : List Nat) := fun w' hw => by
            have := piece_by (f := 0) (s := 0) (HBY.out w' hw) HBL.out (by omega)
            simpa using this
          have hc0 : (0 : Int) ≤ (cb : Int) := by omega
          have hpl : (([] : List Nat)).length = 0 := by rfl
          have HPB := Lib.hid hpb
          clear hpb
          go_wp2_with (first
            | (at_builtin; refine append_by rfl (.tmp 22) (.tmp 31) rfl w.heap.size _ (.slice (some ⟨b2, off2, none⟩) 0 cb) m (apl base os i) ([] : List Nat) rfl rfl (HAB.out _).row (HPB.out _ (HAB.out _).bl) (by rw [hpl]; omega) (HAB.out _).bl.size ?_; intro v1 w3 own1 gr1; obtain ⟨hbx, hb3⟩ := HAP.out.box gr1; obtain ⟨q0, q1, q2⟩ := opCells _ _ _ _ _ _ _ hbx; have HO1 := Lib.hid own1; have HG1 := Lib.hid gr1; have HB3 := Lib.hid hb3; clear own1 gr1 hbx hb3)
            | (at_builtin; refine append_by rfl (.tmp 33) (.tmp 35) rfl w.heap.size _ (.slice X k cc) (m + (([] : List Nat)).length) (apl base os i ++ ([] : List Nat)) d rfl rfl HO1.out (HD.out _ HB3.out) (by rw [hpl]; omega) HB3.out.size ?_; intro v2 w4 own2 gr2; have HO2 := Lib.hid own2; have HG2 := Lib.hid gr2; clear own2 gr2))
          exact ⟨⟨i + 1, _, by omega, by go_num, HAP.out.done HE.out HG1.out HO1.out HO2.out HG2.out⟩, by simp [intOf]; omega⟩
      · simp only at hS h3 h4
        have hB : ∃ b2 off2, B = some ⟨b2, off2, none⟩ ∧ N ≤ cb := by
          rcases (HBY.out w (Below.refl _ _)).2 with ⟨e, _⟩ | ⟨b2, off2, c2, e, h5, _⟩
          · cases e
            omega
          · cases e
            exact ⟨b2, off2, rfl, by rw [HBL.out] at h5; exact h5⟩
        obtain ⟨b2, off2, rfl, hNc⟩ := hB
        have hlen : ((base.drop F).take S).length = S := by have := HBL.out; simp; omega
        have f0 : (0 : Int) ≤ (F : Int) := by omega
        have f1 : (F : Int) + (S : Int) ≤ (cb : Int) := by omega
        have f2 : (F : Int) ≤ (F : Int) + (S : Int) := by omega
        have hd : d = [] := by
          rcases (HD.out _ HAP.out.bl).2 with ⟨_, e⟩ | ⟨_, _, _, e, _⟩
          · exact e
          · cases e
        subst hd
        have hpb : ∀ w', Below w.heap.size w w' → By w' (.slice (some ⟨b2, off2 + F, none⟩) (F + S - F) (cb - F)) ((base.drop F).take S) := fun w' hw => by
          rw [Nat.add_sub_cancel_left]
          exact piece_by (HBY.out w' hw) HBL.out (by omega)
        simp only [ap, List.length_append, hlen] at hm2
        have hpl : (((base.drop F).take S)).length = S := by exact hlen
        have HPB := Lib.hid hpb
        clear hpb
        go_wp2_with (first
          | (at_builtin; refine append_by rfl (.tmp 22) (.tmp 31) rfl w.heap.size _ (.slice (some ⟨b2, off2 + F, none⟩) (F + S - F) (cb - F)) m (apl base os i) ((base.drop F).take S) rfl rfl (HAB.out _).row (HPB.out _ (HAB.out _).bl) (by rw [hpl]; omega) (HAB.out _).bl.size ?_; intro v1 w3 own1 gr1; obtain ⟨hbx, hb3⟩ := HAP.out.box gr1; obtain ⟨q0, q1, q2⟩ := opCells _ _ _ _ _ _ _ hbx; have HO1 := Lib.hid own1; have HG1 := Lib.hid gr1; have HB3 := Lib.hid hb3; clear own1 gr1 hbx hb3)
          | (at_builtin; refine append_by rfl (.tmp 33) (.tmp 35) rfl w.heap.size _ (.slice none 0 0) (m + (((base.drop F).take S)).length) (apl base os i ++ ((base.drop F).take S)) [] rfl rfl HO1.out (HD.out _ HB3.out) (by rw [hpl]; omega) HB3.out.size ?_; intro v2 w4 own2 gr2; have HO2 := Lib.hid own2; have HG2 := Lib.hid gr2; clear own2 gr2))
        exact ⟨⟨i + 1, _, by omega, by go_num, HAP.out.done HE.out HG1.out HO1.out HO2.out HG2.out⟩, by simp [intOf]; omega⟩
    · obtain rfl : n = i := by omega
      go_wp2
      go_ret2
      have hm := HAP.out.len
      subst hm
      exact ⟨_, rfl, HAP.out.row, HAP.out.bl⟩

end Go.Proofs.Ytgaliinjjonlmaa.Dt
