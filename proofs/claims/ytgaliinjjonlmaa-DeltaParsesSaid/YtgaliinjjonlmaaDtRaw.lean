import Derived.Test.YtgaliinjjonlmaaDtArg
import Derived.Test.YtgaliinjjonlmaaDtFmt
namespace Go.Proofs.Ytgaliinjjonlmaa.Dt
open Go.RowKit
open Go.Proofs.Ytgaliinjjonlmaa.Tp
set_option linter.unusedVariables false

/-- An operation of any numbers. -/
structure R where
  f : Int
  s : Int
  d : List Nat

def r0 : R := ⟨0, 0, []⟩

/-- Bytes as they came in: nil, or a slice, which may be empty anywhere. -/
def Rb (w : World) (v : Value) (bs : List Nat) : Prop :=
  (∀ b ∈ bs, b ≤ 255) ∧ ((v = .slice none 0 0 ∧ bs = []) ∨
    ∃ x c, v = .slice (some x) bs.length c ∧ bs.length ≤ c ∧ c ≤ maxLen ∧ (0 < bs.length → By w (.slice (some x) bs.length c) bs))

theorem Rb.below {w w' : World} {v : Value} {bs : List Nat} (h : Rb w v bs) (hb : Below w.heap.size w w') : Rb w' v bs := by
  refine ⟨h.1, ?_⟩
  rcases h.2 with h2 | ⟨x, c, e, h1, h2, h3⟩
  · exact .inl h2
  · exact .inr ⟨x, c, e, h1, h2, fun h0 => (h3 h0).below hb⟩

theorem Rb.form {w : World} {v : Value} {bs : List Nat} (h : Rb w v bs) : ∃ A c, v = .slice A bs.length c := by
  rcases h.2 with ⟨rfl, rfl⟩ | ⟨x, c, e, _⟩
  · exact ⟨none, 0, rfl⟩
  · exact ⟨_, c, e⟩

theorem By.rb {w : World} {v : Value} {bs : List Nat} (h : By w v bs) : Rb w v bs := by
  refine ⟨h.1, ?_⟩
  rcases h.2 with h2 | ⟨b, off, c, e, h1, h2, h3, h4⟩
  · exact .inl h2
  · exact .inr ⟨_, c, e, h1, h2, fun _ => by rw [← e]; exact h⟩

theorem Rb.by {w : World} {v : Value} {bs : List Nat} (h : Rb w v bs) (h0 : 0 < bs.length) : By w v bs := by
  rcases h.2 with ⟨_, rfl⟩ | ⟨x, c, e, h1, h2, h3⟩
  · simp at h0
  · rw [e]
    exact h3 h0

def rC (r : R) (v : Value) : Array Value := #[.int .i64 r.f, .int .i64 r.s, v]

/-- Operations as they came in. -/
structure RLies (w : World) (A : Option Addr) (n : Nat) (rs : List R) (vs : List Value) : Prop where
  len : rs.length = n
  vlen : vs.length = n
  mem : 0 < n → ∃ b off, A = some ⟨b, off, none⟩ ∧ b < w.heap.size ∧ ∀ j, j < n →
    w.cell? ⟨b, off + j * 3, none⟩ = some (.int .i64 (rs.getD j r0).f) ∧ w.cell? ⟨b, off + j * 3 + 1, none⟩ = some (.int .i64 (rs.getD j r0).s) ∧ w.cell? ⟨b, off + j * 3 + 2, none⟩ = some (vs.getD j undef)
  by_ : ∀ j, j < n → Rb w (vs.getD j undef) (rs.getD j r0).d

theorem RLies.below {w w' : World} {A : Option Addr} {n : Nat} {rs : List R} {vs : List Value} (h : RLies w A n rs vs) (hb : Below w.heap.size w w') : RLies w' A n rs vs :=
  ⟨h.len, h.vlen, fun hn => by
    obtain ⟨b, off, e, hlt, hc⟩ := h.mem hn
    refine ⟨b, off, e, Nat.lt_of_lt_of_le hlt hb.size, fun j hj => ?_⟩
    obtain ⟨h0, h1, h2⟩ := hc j hj
    exact ⟨(hb.cell (p := ⟨b, _, none⟩) hlt).trans h0, (hb.cell (p := ⟨b, _, none⟩) hlt).trans h1, (hb.cell (p := ⟨b, _, none⟩) hlt).trans h2⟩, fun j hj => (h.by_ j hj).below hb⟩

def raw (o : O) : R := ⟨o.f, o.s, o.d⟩

/-- Operations of the program's own, as ones that came in. -/
theorem OLies.raw {w : World} {A : Option Addr} {n : Nat} {os : List O} {vs : List Value} (h : OLies w A n os vs) : RLies w A n (os.map raw) vs := by
  have e : ∀ j, j < n → (os.map Dt.raw).getD j r0 = Dt.raw (os.getD j o0) := fun j hj => by
    have hj2 : j < os.length := by rw [h.len]; exact hj
    simp [List.getD_eq_getElem?_getD, hj2]
  refine ⟨by rw [List.length_map, h.len], h.vlen, fun hn => ?_, fun j hj => ?_⟩
  · obtain ⟨b, off, e1, hlt, hc⟩ := h.mem hn
    refine ⟨b, off, e1, hlt, fun j hj => ?_⟩
    rw [e j hj]
    exact hc j hj
  · rw [e j hj]
    exact (h.by_ j hj).rb

/-- 'append(out, xs...)' of bytes that came in. -/
theorem append_rb {ops : Array Oper} {rest : List Oper} {o : Oper} {a : Act} {w : World} {Q : Exit → Act → World → Prop} (hgd : o.guard = none) (s x : Operand)
    (ho : o.op = .call { callee := .builtin .append, args := #[s, x], argTypes := #[23, 23] }) (base : Nat) (v v2 : Value) (n : Nat) (xs bs : List Nat) (hs : a.eval s = v) (hx : a.eval x = v2)
    (hown : w.ownsRow base 5 1 v n (u8s xs)) (hby : Rb w v2 bs) (h63 : n + bs.length ≤ 1000000) (hbase : base ≤ w.heap.size)
    (h : ∀ v' w', w'.ownsRow base 5 1 v' (n + bs.length) (u8s (xs ++ bs)) → w.grownBy w' v.ownBlock → wpList Try.prog ops Q rest (a.put o.dst v') w') : wpList Try.prog ops Q (o :: rest) a w := by
  by_cases h0 : 0 < bs.length
  · exact append_by hgd s x ho base v v2 n xs bs hs hx hown (hby.by h0) h63 hbase h
  · obtain rfl : bs = [] := List.eq_nil_of_length_eq_zero (by omega)
    obtain ⟨i0, hi, hz0, hz1, hz2⟩ := info_parts5 info5
    rcases hby.2 with ⟨rfl, _⟩ | ⟨y, c, rfl, h1, h2, _⟩
    · exact append_by hgd s x ho base v _ n xs [] hs hx hown ⟨by simp, .inl ⟨rfl, rfl⟩⟩ h63 hbase h
    · refine wpList_append_own _ hgd s x 23 ho base 5 i0 (.int .u8 0) 1 1 Try.underlying23 hi hz0 hz1 hz2 rfl (by decide) v n (u8s xs) hs hown y 0 c [] hx rfl (fun j u hj => by simp at hj) (fun u hu => by simp at hu) (by unfold maxLen; omega) (by simp at h63 ⊢; omega) hbase ?_
      intro v' w' k1 k2 _
      exact h v' w' (by simpa using k1) k2

theorem conv_rb {w : World} {v : Value} {bs : List Nat} (h : Rb w v bs) : (convert 23 9 v).run Try.prog w = .ok (.string (strB bs)) w := by
  by_cases h0 : 0 < bs.length
  · exact conv_by (h.by h0)
  · obtain rfl : bs = [] := List.eq_nil_of_length_eq_zero (by omega)
    rcases h.2 with ⟨rfl, _⟩ | ⟨⟨b, off, sp⟩, c, rfl, h1, h2, _⟩
    · kernel_rfl
    · have hl : (loadCells ⟨b, off, sp⟩ 0).run Try.prog w = .ok (([] : List Int).map (Value.int .u8)).toArray w := run_loadCells_list (P := Try.prog) w ⟨b, off, sp⟩ [] (fun j v hj => by simp at hj)
      rw [List.length_nil, run_convert_bytes_string w 23 9 5 _ 0 c Try.underlying23 Try.underlying5 Try.underlying9, run_bytesToString w _ 0 c [] hl, foldl_push_bytes]
      rfl

def insB (F S : Int) (k : Nat) : Bool := decide (S = 0) && decide (F = 0) && decide (1 ≤ k)
def cpyB (F S : Int) (k : Nat) : Bool := decide (1 ≤ S) && decide (0 ≤ F) && decide (k = 0)
def larB (F S : Int) (k : Nat) : Bool := decide (65536 < F) || decide (65536 < S) || decide (65536 < k)

set_option maxRecDepth 100000 in
set_option maxHeartbeats 1000000 in
theorem ins_raw (F S : Int) (A : Option Addr) (k c : Nat) (w : World) : Calls Try.prog 52 #[.agg #[.int .i64 F, .int .i64 S, .slice A k c]] w fun e w' => e = .returned (.bool (insB F S k)) ∧ Below w.heap.size w w' := by
  have HB := Lib.hid (fun o => box_below w o)
  by_cases h1 : S = 0
  · subst h1
    by_cases h2 : F = 0
    · subst h2
      by_cases h3 : 1 ≤ k
      · have h3i : (1 : Int) ≤ (k : Int) := by omega
        go_enter Try.func52, Try.ntmps52
        go_wp2
        go_ret
        exact ⟨by simp [insB]; try omega, HB.out _⟩
      · obtain rfl : k = 0 := by omega
        go_enter Try.func52, Try.ntmps52
        go_wp2
        go_ret
        exact ⟨by simp [insB], HB.out _⟩
    · go_enter Try.func52, Try.ntmps52
      go_wp2
      go_ret
      exact ⟨by simp [insB, h2], HB.out _⟩
  · go_enter Try.func52, Try.ntmps52
    go_wp2
    go_ret
    exact ⟨by simp [insB, h1], HB.out _⟩


set_option maxRecDepth 100000 in
set_option maxHeartbeats 1000000 in
theorem cpy_raw (F S : Int) (A : Option Addr) (k c : Nat) (w : World) : Calls Try.prog 53 #[.agg #[.int .i64 F, .int .i64 S, .slice A k c]] w fun e w' => e = .returned (.bool (cpyB F S k)) ∧ Below w.heap.size w w' := by
  have HB := Lib.hid (fun o => box_below w o)
  by_cases h1 : 1 ≤ S
  · by_cases h2 : 0 ≤ F
    · by_cases h3 : k = 0
      · subst h3
        go_enter Try.func53, Try.ntmps53
        go_wp2
        go_ret
        exact ⟨by simp [cpyB, h1, h2], HB.out _⟩
      · have h3i : ¬ (k : Int) = 0 := by omega
        go_enter Try.func53, Try.ntmps53
        go_wp2
        go_ret
        exact ⟨by simp [cpyB, h3], HB.out _⟩
    · go_enter Try.func53, Try.ntmps53
      go_wp2
      go_ret
      exact ⟨by simp [cpyB]; omega, HB.out _⟩
  · go_enter Try.func53, Try.ntmps53
    go_wp2
    go_ret
    exact ⟨by simp [cpyB]; omega, HB.out _⟩

set_option maxRecDepth 100000 in
set_option maxHeartbeats 1000000 in
theorem large_raw (F S : Int) (A : Option Addr) (k c : Nat) (w : World) : Calls Try.prog 58 #[.agg #[.int .i64 F, .int .i64 S, .slice A k c]] w fun e w' => e = .returned (.bool (larB F S k)) ∧ Below w.heap.size w w' := by
  have HB := Lib.hid (fun o => box_below w o)
  go_enter Try.func58, Try.ntmps58
  go_wp2
  all_goals
    go_ret
    exact ⟨congrArg Ending.returned (congrArg Value.bool (by rw [Bool.eq_iff_iff]; simp [larB]; omega)), HB.out _⟩

set_option maxRecDepth 100000 in
set_option maxHeartbeats 1000000 in
theorem bad_raw (F S : Int) (A : Option Addr) (k c : Nat) (w : World) : Calls Try.prog 59 #[.agg #[.int .i64 F, .int .i64 S, .slice A k c]] w fun e w' => e = .returned (.bool (!cpyB F S k && !insB F S k)) ∧ Below w.heap.size w w' := by
  have HB := Lib.hid (box_below w (.cells #[.int .i64 F, .int .i64 S, .slice A k c] 54))
  have HR := Lib.hid (heap_alloc_new w (.cells #[.int .i64 F, .int .i64 S, .slice A k c] 54))
  obtain ⟨d0, d1, d2⟩ := opCells _ _ _ _ _ _ _ HR.out
  obtain ⟨p, hp⟩ : ∃ p, cpyB F S k = p := ⟨_, rfl⟩
  have HC : Hid (∀ W, Calls Try.prog 53 #[.agg #[.int .i64 F, .int .i64 S, .slice A k c]] W fun e w' => e = .returned (.bool p) ∧ Below W.heap.size W w') := Lib.hid (fun W => by rw [← hp]; exact cpy_raw F S A k c W)
  have HI := Lib.hid (fun W => ins_raw F S A k c W)
  rw [hp]
  generalize insB F S k = q at *
  clear hp
  cases p
  · go_enter Try.func59, Try.ntmps59
    go_wp2_with (first
      | (go_at_call 53; refine (HC.out _).mono ?_; rintro e w1 ⟨rfl, hb1⟩; have hr1 := (hb1.block w.heap.size (by simp)).trans HR.out; have HB1 := Lib.hid (HB.out.trans (hb1.mono HB.out.size)); clear hb1 d0 d1 d2; obtain ⟨d0, d1, d2⟩ := opCells _ _ _ _ _ _ _ hr1; clear hr1)
      | (go_at_call 52; refine (HI.out _).mono ?_; rintro e w2 ⟨rfl, hb2⟩; have HB2 := Lib.hid (HB1.out.trans (hb2.mono HB1.out.size)); clear hb2))
    go_ret
    exact ⟨by simp, HB2.out⟩
  · go_enter Try.func59, Try.ntmps59
    go_wp2_with (go_at_call 53; refine (HC.out _).mono ?_; rintro e w1 ⟨rfl, hb1⟩; have HB1 := Lib.hid (HB.out.trans (hb1.mono HB.out.size)); clear hb1)
    go_ret
    exact ⟨by simp, HB1.out⟩

/-- Whether some operation is so. -/
def anyR (p : R → Bool) (rs : List R) (n : Nat) : Bool := (List.range n).any fun j => p (rs.getD j r0)

theorem anyR_no {p : R → Bool} {rs : List R} {n : Nat} (h : anyR p rs n = false) : ∀ j, j < n → p (rs.getD j r0) = false := by
  intro j hj
  unfold anyR at h
  rw [List.any_eq_false] at h
  have := h j (List.mem_range.2 hj)
  simpa using this

theorem anyR_yes {p : R → Bool} {rs : List R} {n j : Nat} (hj : j < n) (h : p (rs.getD j r0) = true) : anyR p rs n = true := by
  unfold anyR
  rw [List.any_eq_true]
  exact ⟨j, List.mem_range.2 hj, h⟩

theorem anyR_none {p : R → Bool} {rs : List R} {n : Nat} (h : ∀ j, j < n → p (rs.getD j r0) = false) : anyR p rs n = false := by
  unfold anyR
  rw [List.any_eq_false]
  intro j hj
  rw [h j (List.mem_range.1 hj)]
  simp

theorem no_more {p : R → Bool} {rs : List R} {i : Nat} (h : ∀ j, j < i → p (rs.getD j r0) = false) (h2 : p (rs.getD i r0) = false) : ∀ j, j < i + 1 → p (rs.getD j r0) = false := by
  intro j hj
  by_cases e : j = i
  · rw [e]
    exact h2
  · exact h j (by omega)

def lar (r : R) : Bool := larB r.f r.s r.d.length
def bad (r : R) : Bool := !cpyB r.f r.s r.d.length && !insB r.f r.s r.d.length

set_option maxRecDepth 100000 in
set_option maxHeartbeats 1000000 in
theorem index_lar (A : Option Addr) (n c : Nat) (rs : List R) (vs : List Value) (w : World) (h : RLies w A n rs vs) (hn : n ≤ 1000) :
    Calls Try.prog 77 #[.slice A n c, .func (.func 58) #[] #[]] w fun e w' => ∃ r : Int, e = .returned (.int .i64 r) ∧ decide (0 ≤ r) = anyR lar rs n ∧ Below w.heap.size w w' := by
  have H := Lib.hid h
  clear h
  go_enter Try.func77, Try.ntmps77
  go_wp2
  go_loopw [8] (fun ii wr => ∃ i : Nat, i ≤ n ∧ ii = .int .i64 i ∧ (∀ j, j < i → lar (rs.getD j r0) = false) ∧ Below w.heap.size w wr) (fun ii _ => n - (intOf ii).toNat)
  case atStart => exact ⟨0, by omega, rfl, fun j hj => absurd hj (by omega), Below.refl _ _⟩
  case round =>
    obtain ⟨i, hi, rfl, hno, hbl⟩ := hrel
    have HBL := Lib.hid hbl
    have HNO := Lib.hid hno
    by_cases hlt2 : i < n
    · obtain ⟨b, off, rfl, hbk, hc⟩ := (H.out.below hbl).mem (by omega)
      obtain ⟨c0, c1, c2⟩ := hc i hlt2
      obtain ⟨B, cc, hv⟩ := (H.out.by_ i hlt2).form
      rw [hv] at c2
      have HE := large_raw (rs.getD i r0).f (rs.getD i r0).s B (rs.getD i r0).d.length cc wr
      obtain ⟨q, hq⟩ : ∃ q, lar (rs.getD i r0) = q := ⟨_, rfl⟩
      have hq2 := hq
      unfold lar at hq2
      rw [hq2] at HE
      have HE2 := Lib.hid HE
      have HQ := Lib.hid hq
      have HQ1 : Hid (q = false → ∀ j, j < i + 1 → lar (rs.getD j r0) = false) := Lib.hid (fun e => no_more hno (by rw [hq, e]))
      have HQ2 : Hid (q = true → anyR lar rs n = true) := Lib.hid (fun e => anyR_yes hlt2 (by rw [hq, e]))
      clear hc hbl hv hno hq hq2 HE HQ
      generalize (rs.getD i r0) = o at *
      cases q
      · go_wp2_with (go_at_call 58; refine HE2.out.mono ?_; rintro e w2 ⟨rfl, hb2⟩; have HB2 := Lib.hid (HBL.out.trans (hb2.mono HBL.out.size)); clear hb2)
        exact ⟨⟨i + 1, by omega, by go_num, HQ1.out (by simp), HB2.out⟩, by simp [intOf]; omega⟩
      · go_wp2_with (go_at_call 58; refine HE2.out.mono ?_; rintro e w2 ⟨rfl, hb2⟩; have HB2 := Lib.hid (HBL.out.trans (hb2.mono HBL.out.size)); clear hb2)
        go_ret
        exact ⟨i, rfl, by rw [HQ2.out (by simp)]; simp, HB2.out⟩
    · obtain rfl : n = i := by omega
      go_wp2
      go_ret
      exact ⟨-1, rfl, by rw [anyR_none HNO.out]; simp, HBL.out⟩


end Go.Proofs.Ytgaliinjjonlmaa.Dt
