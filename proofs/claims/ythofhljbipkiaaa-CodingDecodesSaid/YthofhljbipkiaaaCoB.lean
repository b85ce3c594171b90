import Derived.Test.YthofhljbipkiaaaCoA
import Derived.Deep.RegionHeld3
import Derived.Deep.AppendLies
namespace Go.Proofs.Ythofhljbipkiaaa.Co
open Go.RowKit
open Go.Proofs.Ythofhljbipkiaaa.Tp
set_option linter.unusedVariables false

def loC (d : Nat) : Nat := if d < 10 then 48 + d else 87 + d
def hiC (d : Nat) : Nat := if d < 10 then 48 + d else 55 + d

theorem loC_le {d : Nat} (h : d < 16) : loC d ≤ 255 := by unfold loC; split <;> omega
theorem hiC_le {d : Nat} (h : d < 16) : hiC d ≤ 255 := by unfold hiC; split <;> omega

set_option maxRecDepth 100000 in
theorem lo_at (d : Nat) (h : d < 16) : ∀ w, (Instr.index 9 (.string { data := #[48, 49, 50, 51, 52, 53, 54, 55, 56, 57, 97, 98, 99, 100, 101, 102] }) (.int .u8 (d : Int))).run Try.prog w = .ok (.int .u8 (loC d : Nat)) w := by
  rcases (by omega : d = 0 ∨ d = 1 ∨ d = 2 ∨ d = 3 ∨ d = 4 ∨ d = 5 ∨ d = 6 ∨ d = 7 ∨ d = 8 ∨ d = 9 ∨ d = 10 ∨ d = 11 ∨ d = 12 ∨ d = 13 ∨ d = 14 ∨ d = 15) with rfl | rfl | rfl | rfl | rfl | rfl | rfl | rfl | rfl | rfl | rfl | rfl | rfl | rfl | rfl | rfl
  all_goals exact fun w => by kernel_rfl

set_option maxRecDepth 100000 in
theorem hi_at (d : Nat) (h : d < 16) : ∀ w, (Instr.index 9 (.string { data := #[48, 49, 50, 51, 52, 53, 54, 55, 56, 57, 65, 66, 67, 68, 69, 70] }) (.int .u8 (d : Int))).run Try.prog w = .ok (.int .u8 (hiC d : Nat)) w := by
  rcases (by omega : d = 0 ∨ d = 1 ∨ d = 2 ∨ d = 3 ∨ d = 4 ∨ d = 5 ∨ d = 6 ∨ d = 7 ∨ d = 8 ∨ d = 9 ∨ d = 10 ∨ d = 11 ∨ d = 12 ∨ d = 13 ∨ d = 14 ∨ d = 15) with rfl | rfl | rfl | rfl | rfl | rfl | rfl | rfl | rfl | rfl | rfl | rfl | rfl | rfl | rfl | rfl
  all_goals exact fun w => by kernel_rfl

theorem and_u8 (a k : Nat) (ha : a < 256) (hk : k ≤ 8) : bits .and .u8 (a : Int) ((2 ^ k - 1 : Nat) : Int) = ((a % 2 ^ k : Nat) : Int) := by
  have hlt : 2 ^ k ≤ 2 ^ 8 := Nat.pow_le_pow_right (by decide) hk
  have hpos : 0 < 2 ^ k := Nat.two_pow_pos k
  have key : (BitVec.ofInt 8 (a : Int) &&& BitVec.ofInt 8 ((2 ^ k - 1 : Nat) : Int)).toNat = a % 2 ^ k := by
    rw [BitVec.toNat_and, BitVec.ofInt_natCast, BitVec.ofInt_natCast, BitVec.toNat_ofNat, BitVec.toNat_ofNat, Nat.mod_eq_of_lt (by omega), Nat.mod_eq_of_lt (by omega), Nat.and_two_pow_sub_one_eq_mod]
  show IntKind.u8.wrap ((BitVec.ofInt 8 (a : Int) &&& BitVec.ofInt 8 ((2 ^ k - 1 : Nat) : Int)).toNat : Nat) = _
  rw [key, IntKind.wrap_u8]
  have := Nat.mod_lt a hpos
  omega

theorem and15b (a : Nat) (ha : a < 256) : bits .and .u8 (a : Int) 15 = ((a % 16 : Nat) : Int) := and_u8 a 4 ha (by decide)
theorem and3b (a : Nat) (ha : a < 256) : bits .and .u8 (a : Int) 3 = ((a % 4 : Nat) : Int) := and_u8 a 2 ha (by decide)
theorem and63b (a : Nat) (ha : a < 256) : bits .and .u8 (a : Int) 63 = ((a % 64 : Nat) : Int) := and_u8 a 6 ha (by decide)

/-! ### The row that grows -/

theorem u8s_len (l : List Nat) : (u8s l).length = l.length := by simp [u8s]
theorem u8s_one (bs : List Nat) : ∀ u ∈ u8s bs, u.oneCell' = true := by
  intro u hu
  simp only [u8s, List.mem_map] at hu
  obtain ⟨b, _, rfl⟩ := hu
  rfl
theorem u8s_app (a b : List Nat) : u8s a ++ u8s b = u8s (a ++ b) := by simp [u8s]

theorem take_flat (f : Nat → List Nat) (bs : List Nat) (k : Nat) (hk : k < bs.length) : (bs.take (k + 1)).flatMap f = (bs.take k).flatMap f ++ f (bs.getD k 0) := by
  rw [List.take_add_one, List.flatMap_append]
  simp [hk]

theorem own_bel {w w' : World} {B e s k : Nat} {v : Value} {xs : List Value} (h : w.ownsRow B e s v k xs) (hb : Below w.heap.size w w') : w'.ownsRow B e s v k xs :=
  h.kept (row := none) ⟨hb.os, hb.tape, hb.output, hb.size, fun k hk _ => hb.block k hk⟩ (by cases hv : v.ownBlock <;> simp)

/-- What has been written till round k. -/
def ERel (w : World) (xs : List Nat) (v : Value) (wr : World) : Prop := wr.ownsRow w.heap.size 5 1 v xs.length (u8s xs) ∧ Below w.heap.size w wr

theorem ERel.start (w : World) : ERel w [] (.slice none 0 0) w := ⟨World.ownsRow_nil _ _ _ _, Below.refl _ _⟩

theorem ERel.more {w wr w1 w3 : World} {xs bs : List Nat} {v v' : Value} (h : ERel w xs v wr) (hb : Below wr.heap.size wr w1)
    (hown : w3.ownsRow w.heap.size 5 1 v' (xs ++ bs).length (u8s (xs ++ bs))) (hg : w1.grownBy w3 v.ownBlock) : ERel w (xs ++ bs) v' w3 :=
  ⟨hown, (h.2.trans (hb.mono h.2.size)).grown hg (Nat.le_trans h.2.size hb.size) (fun g e => (h.1.lt g e).1)⟩

/-- 'append' of a literal row, inside a region that draws its order. -/
theorem step_lit {ops : Array Oper} {o : Oper} {a : Act} {W : World} {ob : Obj} {K : Act → World → Prop} {Q : Exit → Act → World → Prop} {E : Prop} (hgd : o.guard = none) (s x : Operand)
    (ho : o.op = .call { callee := .builtin .append, args := #[s, x], argTypes := #[23, 23] }) (base : Nat) (v : Value) (xs bs : List Nat) (hob : ob = .cells (u8s bs).toArray 5) (hs : a.eval s = v)
    (hx : a.eval x = .slice (some ⟨W.heap.size, 0, none⟩) bs.length bs.length) (hown : W.ownsRow base 5 1 v xs.length (u8s xs)) (h0 : 0 < bs.length) (h63 : xs.length + bs.length ≤ 100000000) (hbase : base ≤ W.heap.size)
    (h : ∀ v' w', w'.ownsRow base 5 1 v' (xs ++ bs).length (u8s (xs ++ bs)) → (W.alloc ob).grownBy w' v.ownBlock → K (a.put o.dst v') w') :
    if Region.wanted o (yielded ops a.tmps) = true then Oper.wp Try.prog o a (W.alloc ob) K Q else E := by
  obtain ⟨i0, hi, hz0, hz1, hz2⟩ := info_parts info5
  subst hob
  refine step_append_lies (W.alloc _) hgd s x 23 ho base 5 i0 (.int .u8 0) 1 1 Try.underlying23 hi hz0 hz1 hz2 rfl (by decide) v xs.length (u8s xs) hs (hown.alloc _) ⟨W.heap.size, 0, none⟩ bs.length bs.length (u8s bs) hx (by rw [u8s_len, Nat.mul_one]) (World.news_of_block (cs := (u8s bs).toArray) (heap_alloc_new _ _)) (u8s_one bs) h0 (by unfold maxLen; omega) (by omega) (by simp; omega) _ rfl ?_
  intro g cap w' k1 k2 _ _
  rw [u8s_app] at k1
  exact h _ w' (by rw [List.length_append]; exact k1) k2


theorem isd_any (c : Nat) (w : World) : Calls Try.prog 45 #[.int .u8 c] w fun e w' => e = .returned (.bool (decide (48 ≤ c ∧ c ≤ 57))) ∧ w = w' := by
  by_cases h1 : (48 : Int) ≤ c
  · have h : decide ((48 : Int) ≤ c) = true := decide_eq_true h1
    have hv : decide (48 ≤ c ∧ c ≤ 57) = decide ((c : Int) ≤ 57) := by
      rw [Bool.eq_iff_iff]
      simp
      omega
    go_enter Try.func45, Try.ntmps45
    go_wp2
    go_ret
    exact ⟨by first | rfl | (rw [hv]; rfl), rfl⟩
  · have h : decide ((48 : Int) ≤ c) = false := decide_eq_false h1
    have hv : decide (48 ≤ c ∧ c ≤ 57) = false := by
      rw [decide_eq_false_iff_not]
      omega
    go_enter Try.func45, Try.ntmps45
    go_wp2
    go_ret
    exact ⟨by first | rfl | (rw [hv]; rfl), rfl⟩

def hexE (bs : List Nat) : List Nat := bs.flatMap fun b => [loC (b / 16), loC (b % 16)]

theorem getD_le {bs : List Nat} (h : ∀ b ∈ bs, b ≤ 255) (k : Nat) : bs.getD k 0 ≤ 255 := by
  rw [List.getD_eq_getElem?_getD]
  cases e : bs[k]? with
  | none => simp
  | some x => simpa using h x (List.mem_of_getElem? e)

theorem hexE_few (bs : List Nat) : (hexE bs).length = 2 * bs.length := by
  induction bs with
  | nil => rfl
  | cons b bs ih =>
    show (loC (b / 16) :: loC (b % 16) :: hexE bs).length = _
    simp [ih]
    omega

/-- Bytes that came in: where they lie, and each of them. -/
theorem By.form {w : World} {v : Value} {bs : List Nat} (h : By w v bs) : ∃ D c, v = .slice D bs.length c := by
  rcases h.2 with ⟨D, c, rfl, rfl⟩ | ⟨b, off, c, rfl, _⟩
  · exact ⟨D, c, rfl⟩
  · exact ⟨_, c, rfl⟩

theorem By.at_ {w : World} {D : Option Addr} {n c : Nat} {bs : List Nat} (h : By w (.slice D n c) bs) (h0 : 0 < bs.length) : n = bs.length ∧ ∃ b off, D = some ⟨b, off, none⟩ ∧ b < w.heap.size ∧ ∀ w', Below w.heap.size w w' → ∀ j, j < bs.length → w'.cell? ⟨b, off + j, none⟩ = some (.int .u8 ((bs.getD j 0 : Nat) : Int)) := by
  rcases h.2 with ⟨_, _, e, rfl⟩ | ⟨b, off, c', e, _, _, hb, hc⟩
  · simp at h0
  · cases e
    exact ⟨rfl, b, off, rfl, hb, fun w' hw j hj => (hw.cell (p := ⟨b, off + j, none⟩) hb).trans (hc j hj)⟩

set_option maxRecDepth 100000 in
set_option maxHeartbeats 2000000 in
theorem tohex_any (v : Value) (bs : List Nat) (w : World) (h : By w v bs) (hn : bs.length ≤ 1000000) :
    Calls Try.prog 22 #[v] w fun e w' => ∃ v', e = .returned v' ∧ ERel w (hexE bs) v' w' := by
  obtain ⟨D, c, rfl⟩ := h.form
  have HBY := Lib.hid h
  have hle := h.1
  have HLE := Lib.hid hle
  obtain ⟨i0, hi, hz0, hz1, hz2⟩ := info_parts info5
  obtain ⟨W, hmk, hown, hg⟩ := run_make_own (P := Try.prog) w w.heap.size 23 5 i0 (.int .u8 0) 1 Try.underlying23 hi hz0 hz1 .i64 .i64 (2 * bs.length) (by rw [hz2]; omega) (by unfold maxLen; omega) (Nat.le_refl _)
  have HREL := Lib.hid (show ERel w (hexE (bs.take 0)) (.slice (some ⟨w.heap.size, 0, none⟩) 0 (2 * bs.length)) W from ⟨hown, (Below.refl _ _).grown hg (Nat.le_refl _) (fun g e => by cases e)⟩)
  obtain ⟨n, hL⟩ : ∃ n, bs.length = n := ⟨_, rfl⟩
  rw [hL] at hmk hn HREL ⊢
  have HL := Lib.hid hL
  obtain ⟨C, hC⟩ : ∃ C, 2 * n = C := ⟨_, rfl⟩
  have hCi : (2 : Int) * (n : Int) = (C : Int) := by omega
  have hCw : IntKind.i64.wrap (C : Int) = (C : Int) := IntWalk.i64_in _ (by omega)
  rw [hC] at hmk HREL
  clear h hle hi hz0 hz1 hz2 hown hg hL hC
  go_enter Try.func22, Try.ntmps22
  go_wp2_with fail
  go_loopw [3, 12] (fun v i wr => ∃ k : Nat, k ≤ n ∧ i = .int .i64 (k : Int) ∧ ERel w (hexE (bs.take k)) v wr) (fun _ i _ => n - (intOf i).toNat)
  case atStart => exact ⟨0, by omega, rfl, HREL.out⟩
  case round =>
    obtain ⟨k, hk, rfl, hrel⟩ := hrel
    have HR := Lib.hid hrel
    have hbw := hrel.2.size
    clear hrel
    by_cases hlt : k < n
    · obtain ⟨hln, p, off, rfl, hp, hcl⟩ := HBY.out.at_ (by rw [HL.out]; omega)
      have hcell := hcl _ HR.out.2 k (by rw [HL.out]; exact hlt)
      have hb := getD_le HLE.out k
      have HE := Lib.hid (take_flat (fun b => [loC (b / 16), loC (b % 16)]) bs k (by rw [HL.out]; exact hlt))
      clear hcl hln
      generalize bs.getD k 0 = b at *
      have d1 := lo_at (b / 16) (by omega)
      have d2 := lo_at (b % 16) (by omega)
      have ha := and15b b (by omega)
      have hsh : (b : Int) / 16 = ((b / 16 : Nat) : Int) := by omega
      have hq : b / 16 < 16 := by omega
      have hr : b % 16 < 16 := by omega
      generalize b / 16 = q at *
      generalize b % 16 = r at *
      generalize loC q = x at *
      generalize loC r = y at *
      have HX := Lib.hid (hexE_few (bs.take k))
      have hkl : (bs.take k).length ≤ 1000000 := by rw [List.length_take]; omega
      have HOW := Lib.hid (own_bel HR.out.1 ((Below.refl wr.heap.size wr).drew))
      have HBD := Lib.hid ((Below.refl wr.heap.size wr).drew)
      go_wp2_with fail
      go_region_held3 (fun _ => True) (trivial) (first
        | (refine step_lit (by rfl) (.tmp 16) (.tmp 23) (by rfl) w.heap.size u3 (hexE (bs.take k)) [x, y] (by rfl) (by rfl) (by rfl) HOW.out (by simp) (by rw [HX.out]; simp; omega) (Nat.le_trans hbw HBD.out.size) ?_; intro v' w3 hown hgr; have HO := Lib.hid hown; have HG := Lib.hid hgr; clear hown hgr))
      all_goals
        go_wp2_with fail
        exact ⟨⟨k + 1, by omega, by go_num, by unfold hexE; rw [HE.out]; exact HR.out.more (HBD.out.alloc (Nat.le_refl _) _) HO.out HG.out⟩, by simp [intOf]; omega⟩
    · obtain rfl : k = n := by omega
      have HRT : bs.take k = bs := List.take_of_length_le (by rw [HL.out]; exact Nat.le_refl _)
      rw [HRT] at HR
      go_wp2
      go_ret
      exact ⟨_, rfl, HR.out⟩

end Go.Proofs.Ythofhljbipkiaaa.Co
