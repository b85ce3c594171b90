import Derived.Test.YthofhljbipkiaaaCoB
namespace Go.Proofs.Ythofhljbipkiaaa.Co
open Go.RowKit
open Go.Proofs.Ythofhljbipkiaaa.Tp
set_option linter.unusedVariables false

/-- 'append' of a literal row, in order. -/
theorem wp_lit {ops : Array Oper} {rest : List Oper} {o : Oper} {a : Act} {W : World} {ob : Obj} {Q : Exit → Act → World → Prop} (hgd : o.guard = none) (s x : Operand)
    (ho : o.op = .call { callee := .builtin .append, args := #[s, x], argTypes := #[23, 23] }) (base : Nat) (v : Value) (xs bs : List Nat) (hob : ob = .cells (u8s bs).toArray 5) (hs : a.eval s = v)
    (hx : a.eval x = .slice (some ⟨W.heap.size, 0, none⟩) bs.length bs.length) (hown : W.ownsRow base 5 1 v xs.length (u8s xs)) (h63 : xs.length + bs.length ≤ 100000000) (hbase : base ≤ W.heap.size)
    (h : ∀ v' w', w'.ownsRow base 5 1 v' (xs ++ bs).length (u8s (xs ++ bs)) → (W.alloc ob).grownBy w' v.ownBlock → wpList Try.prog ops Q rest (a.put o.dst v') w') :
    wpList Try.prog ops Q (o :: rest) a (W.alloc ob) := by
  obtain ⟨i0, hi, hz0, hz1, hz2⟩ := info_parts info5
  subst hob
  refine wpList_append_own _ hgd s x 23 ho base 5 i0 (.int .u8 0) 1 1 Try.underlying23 hi hz0 hz1 hz2 rfl (by decide) v xs.length (u8s xs) hs (hown.alloc _) ⟨W.heap.size, 0, none⟩ bs.length bs.length (u8s bs) hx (by rw [u8s_len, Nat.mul_one]) (World.news_of_block (cs := (u8s bs).toArray) (heap_alloc_new _ _)) (u8s_one bs) (by unfold maxLen; omega) (by omega) (by simp; omega) ?_
  intro v' w' k1 k2 _
  rw [u8s_app] at k1
  exact h _ w' (by rw [List.length_append]; exact k1) k2

def digB (c : Nat) : Bool := decide (48 ≤ c ∧ c ≤ 57)
def letB (c : Nat) : Bool := decide (65 ≤ c ∧ c ≤ 90) || decide (97 ≤ c ∧ c ≤ 122)
def plainB (c : Nat) : Bool := digB c || (letB c || (decide (c = 45) || (decide (c = 46) || (decide (c = 95) || decide (c = 126)))))

set_option maxHeartbeats 400000 in
theorem islet_any (c : Nat) (w : World) : Calls Try.prog 46 #[.int .u8 c] w fun e w' => e = .returned (.bool (letB c)) ∧ w = w' := by
  rcases (by omega : (c : Int) < 65 ∨ (65 ≤ (c : Int) ∧ (c : Int) ≤ 90) ∨ (90 < (c : Int) ∧ (c : Int) < 97) ∨ (97 ≤ (c : Int))) with h | ⟨h1, h2⟩ | ⟨h1, h2⟩ | h
  · have d1 : decide ((65 : Int) ≤ c) = false := decide_eq_false (by omega)
    have d2 : decide ((97 : Int) ≤ c) = false := decide_eq_false (by omega)
    have hv : letB c = false := by unfold letB; simp; omega
    rw [hv]
    go_enter Try.func46, Try.ntmps46
    go_wp2
    go_ret
    exact ⟨rfl, rfl⟩
  · have d1 : decide ((65 : Int) ≤ c) = true := decide_eq_true (by omega)
    have d2 : decide ((c : Int) ≤ 90) = true := decide_eq_true (by omega)
    have hv : letB c = true := by unfold letB; simp; omega
    rw [hv]
    go_enter Try.func46, Try.ntmps46
    go_wp2
    go_ret
    exact ⟨rfl, rfl⟩
  · have d1 : decide ((65 : Int) ≤ c) = true := decide_eq_true (by omega)
    have d2 : decide ((c : Int) ≤ 90) = false := decide_eq_false (by omega)
    have d3 : decide ((97 : Int) ≤ c) = false := decide_eq_false (by omega)
    have hv : letB c = false := by unfold letB; simp; omega
    rw [hv]
    go_enter Try.func46, Try.ntmps46
    go_wp2
    go_ret
    exact ⟨rfl, rfl⟩
  · have d1 : decide ((65 : Int) ≤ c) = true := decide_eq_true (by omega)
    have d2 : decide ((c : Int) ≤ 90) = false := decide_eq_false (by omega)
    have d3 : decide ((97 : Int) ≤ c) = true := decide_eq_true (by omega)
    by_cases h4 : (c : Int) ≤ 122
    · have d4 : decide ((c : Int) ≤ 122) = true := decide_eq_true h4
      have hv : letB c = true := by unfold letB; simp; omega
      rw [hv]
      go_enter Try.func46, Try.ntmps46
      go_wp2
      go_ret
      exact ⟨rfl, rfl⟩
    · have d4 : decide ((c : Int) ≤ 122) = false := decide_eq_false h4
      have hv : letB c = false := by unfold letB; simp; omega
      rw [hv]
      go_enter Try.func46, Try.ntmps46
      go_wp2
      go_ret
      exact ⟨rfl, rfl⟩

def pctC (b : Nat) : List Nat := if plainB b then [b] else [37, hiC (b / 16), hiC (b % 16)]
def pctE (bs : List Nat) : List Nat := bs.flatMap pctC

theorem flat_few {f : Nat → List Nat} {m : Nat} (h : ∀ b, (f b).length ≤ m) (bs : List Nat) : (bs.flatMap f).length ≤ m * bs.length := by
  induction bs with
  | nil => simp
  | cons b bs ih =>
    rw [List.flatMap_cons, List.length_append, List.length_cons]
    have := h b
    have e : m * (bs.length + 1) = m * bs.length + m := Nat.mul_succ _ _
    omega

theorem pctC_few (b : Nat) : (pctC b).length ≤ 3 := by unfold pctC; split <;> simp

theorem plain_cases (c : Nat) : (plainB c = true ∧ (digB c = true ∨ (digB c = false ∧ letB c = true) ∨ (digB c = false ∧ letB c = false ∧ (c = 45 ∨ c = 46 ∨ c = 95 ∨ c = 126)))) ∨
    (plainB c = false ∧ digB c = false ∧ letB c = false ∧ ((c : Int) == 45) = false ∧ ((c : Int) == 46) = false ∧ ((c : Int) == 95) = false ∧ ((c : Int) == 126) = false) := by
  unfold plainB
  cases hd : digB c <;> cases hl : letB c <;> simp <;> omega

set_option maxRecDepth 100000 in
set_option maxHeartbeats 4000000 in
theorem topct_any (v : Value) (bs : List Nat) (w : World) (h : By w v bs) (hn : bs.length ≤ 1000000) :
    Calls Try.prog 24 #[v] w fun e w' => ∃ v', e = .returned v' ∧ ERel w (pctE bs) v' w' := by
  obtain ⟨D, c, rfl⟩ := h.form
  have HBY := Lib.hid h
  have hle := h.1
  have HLE := Lib.hid hle
  obtain ⟨n, hL⟩ : ∃ n, bs.length = n := ⟨_, rfl⟩
  rw [hL] at hn ⊢
  have HL := Lib.hid hL
  clear h hle hL
  go_enter Try.func24, Try.ntmps24
  go_wp2_with fail
  go_loopw [3, 8] (fun v i wr => ∃ k : Nat, k ≤ n ∧ i = .int .i64 (k : Int) ∧ ERel w (pctE (bs.take k)) v wr) (fun _ i _ => n - (intOf i).toNat)
  case atStart => exact ⟨0, by omega, rfl, ERel.start w⟩
  case round =>
    obtain ⟨k, hk, rfl, hrel⟩ := hrel
    have HR := Lib.hid hrel
    have hbw := hrel.2.size
    clear hrel
    by_cases hlt : k < n
    · obtain ⟨hln, p, off, rfl, hp, hcl⟩ := HBY.out.at_ (by rw [HL.out]; omega)
      have hcell := hcl _ HR.out.2 k (by rw [HL.out]; exact hlt)
      have hb := getD_le HLE.out k
      have HE := Lib.hid (take_flat pctC bs k (by rw [HL.out]; exact hlt))
      have HX := Lib.hid (flat_few pctC_few (bs.take k))
      have hkl : (bs.take k).length ≤ 1000000 := by rw [List.length_take]; omega
      have hx3 : (pctE (bs.take k)).length ≤ 3000000 := Nat.le_trans HX.out (by omega)
      clear hcl hln HX hkl
      generalize bs.getD k 0 = b at *
      rcases plain_cases b with ⟨hpl, hcs⟩ | ⟨hpl, f1, f2, f3, f4, f5, f6⟩
      · have hE2 : pctC b = [b] := by unfold pctC; rw [if_pos hpl]
        rw [hE2] at HE
        clear hE2
        have hfin : ∀ v' w3, w3.ownsRow w.heap.size 5 1 v' (pctE (bs.take k) ++ [b]).length (u8s (pctE (bs.take k) ++ [b])) → (wr.alloc (.cells #[.int .u8 (b : Int)] 5)).grownBy w3 u3.ownBlock → ERel w (pctE (bs.take (k + 1))) v' w3 := fun v' w3 ho hg => by
          unfold pctE; rw [HE.out]; exact HR.out.more (box_below _ _) ho hg
        have HFIN := Lib.hid hfin
        clear hfin
        rcases hcs with d1 | ⟨d1, d2⟩ | ⟨d1, d2, rfl | rfl | rfl | rfl⟩
        all_goals
          go_wp2_with (first
            | (go_at_call 45; refine (isd_any _ _).mono ?_; rintro e w1 ⟨rfl, rfl⟩; rw [show decide (48 ≤ _ ∧ _ ≤ 57) = _ from d1])
            | (go_at_call 46; refine (islet_any _ _).mono ?_; rintro e w1 ⟨rfl, rfl⟩; rw [d2])
            | (at_builtin; refine wp_lit (by rfl) (.tmp 34) (.tmp 36) (by rfl) w.heap.size u3 (pctE (bs.take k)) [_] (by rfl) (by rfl) (by rfl) HR.out.1 (by simp; omega) hbw ?_; intro v' w3 hown hgr; have HO := Lib.hid (HFIN.out _ _ hown hgr); clear hown hgr))
          exact ⟨⟨k + 1, by omega, by go_num, HO.out⟩, by simp [intOf]; omega⟩
      · have hE2 : pctC b = [37, hiC (b / 16), hiC (b % 16)] := by unfold pctC; rw [if_neg (by rw [hpl]; decide)]
        rw [hE2] at HE
        have g1 := hi_at (b / 16) (by omega)
        have g2 := hi_at (b % 16) (by omega)
        have ha := and15b b (by omega)
        have hsh : (b : Int) / 16 = ((b / 16 : Nat) : Int) := by omega
        have f1' : decide (48 ≤ b ∧ b ≤ 57) = false := f1
        clear hE2 f1
        generalize b / 16 = q at *
        generalize b % 16 = r at *
        generalize hiC q = x at *
        generalize hiC r = y at *
        have HOW := Lib.hid (own_bel HR.out.1 ((Below.refl wr.heap.size wr).drew))
        have HBD := Lib.hid ((Below.refl wr.heap.size wr).drew)
        go_wp2_with (first
          | (go_at_call 45; refine (isd_any _ _).mono ?_; rintro e w1 ⟨rfl, rfl⟩; rw [f1'])
          | (go_at_call 46; refine (islet_any _ _).mono ?_; rintro e w1 ⟨rfl, rfl⟩; rw [f2]))
        go_region_held3 (fun _ => True) (trivial) (first
          | (refine step_lit (by rfl) (.tmp 38) (.tmp 45) (by rfl) w.heap.size u3 (pctE (bs.take k)) [37, x, y] (by rfl) (by rfl) (by rfl) HOW.out (by simp) (by simp; omega) (Nat.le_trans hbw HBD.out.size) ?_; intro v' w3 hown hgr; have HO := Lib.hid hown; have HG := Lib.hid hgr; clear hown hgr))
        all_goals
          go_wp2_with fail
          exact ⟨⟨k + 1, by omega, by go_num, by unfold pctE; rw [HE.out]; exact HR.out.more (HBD.out.alloc (Nat.le_refl _) _) HO.out HG.out⟩, by simp [intOf]; omega⟩
    · obtain rfl : k = n := by omega
      have HRT : bs.take k = bs := List.take_of_length_le (by rw [HL.out]; exact Nat.le_refl _)
      rw [HRT] at HR
      go_wp2
      go_ret
      exact ⟨_, rfl, HR.out⟩

def escC (b : Nat) : List Nat :=
  if b = 10 then [92, 110] else if b = 13 then [92, 114] else if b = 9 then [92, 116] else if b = 92 then [92, 92] else if b < 32 ∨ 127 ≤ b then [92, 120, loC (b / 16), loC (b % 16)] else [b]
def escE (bs : List Nat) : List Nat := bs.flatMap escC

theorem escC_few (b : Nat) : (escC b).length ≤ 4 := by
  unfold escC
  split
  · simp
  split
  · simp
  split
  · simp
  split
  · simp
  split
  · simp
  simp

theorem esc_cases (c : Nat) : (c = 10 ∨ c = 13 ∨ c = 9 ∨ c = 92) ∨
    (((c : Int) == 10) = false ∧ ((c : Int) == 13) = false ∧ ((c : Int) == 9) = false ∧ ((c : Int) == 92) = false ∧
      ((decide ((c : Int) < 32) = true ∧ escC c = [92, 120, loC (c / 16), loC (c % 16)]) ∨ (decide ((c : Int) < 32) = false ∧ decide (127 ≤ (c : Int)) = true ∧ escC c = [92, 120, loC (c / 16), loC (c % 16)]) ∨
        (decide ((c : Int) < 32) = false ∧ decide (127 ≤ (c : Int)) = false ∧ escC c = [c]))) := by
  by_cases h1 : c = 10
  · exact .inl (.inl h1)
  by_cases h2 : c = 13
  · exact .inl (.inr (.inl h2))
  by_cases h3 : c = 9
  · exact .inl (.inr (.inr (.inl h3)))
  by_cases h4 : c = 92
  · exact .inl (.inr (.inr (.inr h4)))
  refine .inr ⟨beq_eq_false_iff_ne.2 (by omega), beq_eq_false_iff_ne.2 (by omega), beq_eq_false_iff_ne.2 (by omega), beq_eq_false_iff_ne.2 (by omega), ?_⟩
  by_cases h5 : c < 32
  · exact .inl ⟨decide_eq_true (by omega), by unfold escC; rw [if_neg h1, if_neg h2, if_neg h3, if_neg h4, if_pos (.inl h5)]⟩
  by_cases h6 : 127 ≤ c
  · exact .inr (.inl ⟨decide_eq_false (by omega), decide_eq_true (by omega), by unfold escC; rw [if_neg h1, if_neg h2, if_neg h3, if_neg h4, if_pos (.inr h6)]⟩)
  · exact .inr (.inr ⟨decide_eq_false (by omega), decide_eq_false (by omega), by unfold escC; rw [if_neg h1, if_neg h2, if_neg h3, if_neg h4, if_neg (by omega)]⟩)

set_option maxRecDepth 100000 in
set_option maxHeartbeats 4000000 in
theorem toesc_any (v : Value) (bs : List Nat) (w : World) (h : By w v bs) (hn : bs.length ≤ 1000000) :
    Calls Try.prog 25 #[v] w fun e w' => ∃ v', e = .returned v' ∧ ERel w (escE bs) v' w' := by
  obtain ⟨D, c, rfl⟩ := h.form
  have HBY := Lib.hid h
  have hle := h.1
  have HLE := Lib.hid hle
  obtain ⟨n, hL⟩ : ∃ n, bs.length = n := ⟨_, rfl⟩
  rw [hL] at hn ⊢
  have HL := Lib.hid hL
  clear h hle hL
  go_enter Try.func25, Try.ntmps25
  go_wp2_with fail
  go_loopw [3, 8] (fun v i wr => ∃ k : Nat, k ≤ n ∧ i = .int .i64 (k : Int) ∧ ERel w (escE (bs.take k)) v wr) (fun _ i _ => n - (intOf i).toNat)
  case atStart => exact ⟨0, by omega, rfl, ERel.start w⟩
  case round =>
    obtain ⟨k, hk, rfl, hrel⟩ := hrel
    have HR := Lib.hid hrel
    have hbw := hrel.2.size
    clear hrel
    by_cases hlt : k < n
    · obtain ⟨hln, p, off, rfl, hp, hcl⟩ := HBY.out.at_ (by rw [HL.out]; omega)
      have hcell := hcl _ HR.out.2 k (by rw [HL.out]; exact hlt)
      have hb := getD_le HLE.out k
      have HE := Lib.hid (take_flat escC bs k (by rw [HL.out]; exact hlt))
      have HX := Lib.hid (flat_few escC_few (bs.take k))
      have hkl : (bs.take k).length ≤ 1000000 := by rw [List.length_take]; omega
      have hx3 : (escE (bs.take k)).length ≤ 4000000 := Nat.le_trans HX.out (by omega)
      clear hcl hln HX hkl
      generalize bs.getD k 0 = b at *
      rcases esc_cases b with (rfl | rfl | rfl | rfl) | ⟨f1, f2, f3, f4, ⟨f5, hE2⟩ | ⟨f5, f6, hE2⟩ | ⟨f5, f6, hE2⟩⟩
      · go_wp2_with (at_builtin; refine wp_lit (by rfl) (.tmp 19) (.tmp 20) (by rfl) w.heap.size u3 (escE (bs.take k)) [92, 110] (by rfl) (by rfl) (by rfl) HR.out.1 (by simp; omega) hbw ?_; intro v' w3 hown hgr; have HO := Lib.hid hown; have HG := Lib.hid hgr; clear hown hgr)
        exact ⟨⟨k + 1, by omega, by go_num, by unfold escE; rw [HE.out]; exact HR.out.more (box_below _ _) HO.out HG.out⟩, by simp [intOf]; omega⟩
      · go_wp2_with (at_builtin; refine wp_lit (by rfl) (.tmp 25) (.tmp 26) (by rfl) w.heap.size u3 (escE (bs.take k)) [92, 114] (by rfl) (by rfl) (by rfl) HR.out.1 (by simp; omega) hbw ?_; intro v' w3 hown hgr; have HO := Lib.hid hown; have HG := Lib.hid hgr; clear hown hgr)
        exact ⟨⟨k + 1, by omega, by go_num, by unfold escE; rw [HE.out]; exact HR.out.more (box_below _ _) HO.out HG.out⟩, by simp [intOf]; omega⟩
      · go_wp2_with (at_builtin; refine wp_lit (by rfl) (.tmp 31) (.tmp 32) (by rfl) w.heap.size u3 (escE (bs.take k)) [92, 116] (by rfl) (by rfl) (by rfl) HR.out.1 (by simp; omega) hbw ?_; intro v' w3 hown hgr; have HO := Lib.hid hown; have HG := Lib.hid hgr; clear hown hgr)
        exact ⟨⟨k + 1, by omega, by go_num, by unfold escE; rw [HE.out]; exact HR.out.more (box_below _ _) HO.out HG.out⟩, by simp [intOf]; omega⟩
      · go_wp2_with (at_builtin; refine wp_lit (by rfl) (.tmp 37) (.tmp 38) (by rfl) w.heap.size u3 (escE (bs.take k)) [92, 92] (by rfl) (by rfl) (by rfl) HR.out.1 (by simp; omega) hbw ?_; intro v' w3 hown hgr; have HO := Lib.hid hown; have HG := Lib.hid hgr; clear hown hgr)
        exact ⟨⟨k + 1, by omega, by go_num, by unfold escE; rw [HE.out]; exact HR.out.more (box_below _ _) HO.out HG.out⟩, by simp [intOf]; omega⟩
      · rw [hE2] at HE
        have g1 := lo_at (b / 16) (by omega)
        have g2 := lo_at (b % 16) (by omega)
        have ha := and15b b (by omega)
        have hsh : (b : Int) / 16 = ((b / 16 : Nat) : Int) := by omega
        clear hE2
        generalize b / 16 = q at *
        generalize b % 16 = r at *
        generalize loC q = x at *
        generalize loC r = y at *
        have HOW := Lib.hid (own_bel HR.out.1 ((Below.refl wr.heap.size wr).drew))
        have HBD := Lib.hid ((Below.refl wr.heap.size wr).drew)
        go_wp2_with fail
        go_region_held3 (fun _ => True) (trivial) (first
          | (refine step_lit (by rfl) (.tmp 47) (.tmp 54) (by rfl) w.heap.size u3 (escE (bs.take k)) [92, 120, x, y] (by rfl) (by rfl) (by rfl) HOW.out (by simp) (by simp; omega) (Nat.le_trans hbw HBD.out.size) ?_; intro v' w3 hown hgr; have HO := Lib.hid hown; have HG := Lib.hid hgr; clear hown hgr))
        all_goals
          go_wp2_with fail
          exact ⟨⟨k + 1, by omega, by go_num, by unfold escE; rw [HE.out]; exact HR.out.more (HBD.out.alloc (Nat.le_refl _) _) HO.out HG.out⟩, by simp [intOf]; omega⟩
      · rw [hE2] at HE
        have g1 := lo_at (b / 16) (by omega)
        have g2 := lo_at (b % 16) (by omega)
        have ha := and15b b (by omega)
        have hsh : (b : Int) / 16 = ((b / 16 : Nat) : Int) := by omega
        clear hE2
        generalize b / 16 = q at *
        generalize b % 16 = r at *
        generalize loC q = x at *
        generalize loC r = y at *
        have HOW := Lib.hid (own_bel HR.out.1 ((Below.refl wr.heap.size wr).drew))
        have HBD := Lib.hid ((Below.refl wr.heap.size wr).drew)
        go_wp2_with fail
        go_region_held3 (fun _ => True) (trivial) (first
          | (refine step_lit (by rfl) (.tmp 47) (.tmp 54) (by rfl) w.heap.size u3 (escE (bs.take k)) [92, 120, x, y] (by rfl) (by rfl) (by rfl) HOW.out (by simp) (by simp; omega) (Nat.le_trans hbw HBD.out.size) ?_; intro v' w3 hown hgr; have HO := Lib.hid hown; have HG := Lib.hid hgr; clear hown hgr))
        all_goals
          go_wp2_with fail
          exact ⟨⟨k + 1, by omega, by go_num, by unfold escE; rw [HE.out]; exact HR.out.more (HBD.out.alloc (Nat.le_refl _) _) HO.out HG.out⟩, by simp [intOf]; omega⟩
      · rw [hE2] at HE
        clear hE2
        go_wp2_with (at_builtin; refine wp_lit (by rfl) (.tmp 12) (.tmp 14) (by rfl) w.heap.size u3 (escE (bs.take k)) [b] (by rfl) (by rfl) (by rfl) HR.out.1 (by simp; omega) hbw ?_; intro v' w3 hown hgr; have HO := Lib.hid hown; have HG := Lib.hid hgr; clear hown hgr)
        exact ⟨⟨k + 1, by omega, by go_num, by unfold escE; rw [HE.out]; exact HR.out.more (box_below _ _) HO.out HG.out⟩, by simp [intOf]; omega⟩
    · obtain rfl : k = n := by omega
      have HRT : bs.take k = bs := List.take_of_length_le (by rw [HL.out]; exact Nat.le_refl _)
      rw [HRT] at HR
      go_wp2
      go_ret
      exact ⟨_, rfl, HR.out⟩

end Go.Proofs.Ythofhljbipkiaaa.Co
