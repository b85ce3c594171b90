/- Two equal tables of counts; the means. -/
import Derived.Test.YtidpkkekoldkgaaEntMore
import Derived.ChangeKeysEq
namespace Go.Proofs.Ytidpkkekoldkgaa.Ent
open Go.RowKit
set_option linter.unusedVariables false

theorem plain3 : Try.prog.plainKey 3 = true := by kernel_rfl
theorem cells3 : Try.prog.cellsOf 3 = 1 := by kernel_rfl
theorem some3 : (Try.prog.info? 3).isSome = true := by kernel_rfl

theorem items_tab (bs : List Nat) (w : World) (d : Nat) : ∀ is : List Nat, (∀ i ∈ is, i < 256) → (Op.eqItems (d + 1) 3 1 (tab bs) (tab bs) is).run Try.prog w = .ok true w
  | [], _ => by simp [Op.eqItems]
  | i :: is, h => by
    have hp := run_part_plain (P := Try.prog) w plain3 (tab_at bs i (h i (by simp)))
    have he := run_equalIn_int (P := Try.prog) w d 3 .i64 .i64 (cnt bs i : Int) (cnt bs i : Int) Try.underlying3
    have ih := items_tab bs w d is (fun j hj => h j (by simp [hj]))
    simp only [Op.eqItems, Sem.run_bind, Nat.mul_one, hp, he, Result.andThen_ok]
    simpa using ih

theorem eq_tab (bs : List Nat) (w : World) : (Op.equal 33 (.agg (tab bs)) (.agg (tab bs))).run Try.prog w = .ok true w := by
  obtain ⟨i, hi⟩ := Option.isSome_iff_exists.1 some3
  show (Op.equalIn (9999 + 1) 33 (.agg (tab bs)) (.agg (tab bs))).run Try.prog w = .ok true w
  rw [run_equalIn_array w 9999 _ _ Try.underlying33 hi, cells3]
  exact items_tab bs w 9998 _ (fun j hj => by simpa using hj)

def meanI (bs : List Nat) (n : Nat) : Int := if n = 0 then 0 else wrap64 ((ms bs (lgI n) 256).tdiv n)

set_option maxRecDepth 100000 in
set_option maxHeartbeats 400000 in
theorem mean_any (A : Option Addr) (n c : Nat) (bs : List Nat) (w : World) (h : Bytes w A n bs) (hn : n ≤ 65536) :
    Calls Try.prog 24 #[.slice A n c] w fun e w' => e = .returned (.int .i64 (meanI bs n)) ∧ Below w.heap.size w w' := by
  have hm := measure_any A n c bs w h
  rw [few_id (by rw [h.1]; exact hn)] at hm
  have HM := Lib.hid hm
  clear hm h
  unfold meanI
  generalize ms bs (lgI n) 256 = X at *
  by_cases h0 : n = 0
  · subst h0
    go_enter Try.func24, Try.ntmps24
    go_wp2_with fail
    all_goals go_ret
    all_goals exact ⟨rfl, Below.refl _ _⟩
  · have hp : (0 : Int) < (n : Int) := by omega
    rw [if_neg h0]
    go_enter Try.func24, Try.ntmps24
    go_wp2_with (go_at_call 20; refine HM.out.mono ?_; rintro e w' ⟨rfl, hb⟩; have HB := Lib.hid hb; clear hb)
    all_goals go_ret
    all_goals exact ⟨rfl, HB.out⟩

set_option maxRecDepth 100000 in
set_option maxHeartbeats 400000 in
theorem refmean_any (A : Option Addr) (n c : Nat) (bs : List Nat) (w : World) (h : Bytes w A n bs) (hn : n ≤ 65536) :
    Calls Try.prog 25 #[.slice A n c] w fun e w' => e = .returned (.int .i64 (meanI bs n)) ∧ Below w.heap.size w w' := by
  have hm := refmeasure_any A n c bs w h hn
  have HM := Lib.hid hm
  clear hm h
  unfold meanI
  generalize ms bs (lgI n) 256 = X at *
  by_cases h0 : n = 0
  · subst h0
    go_enter Try.func25, Try.ntmps25
    go_wp2_with fail
    all_goals go_ret
    all_goals exact ⟨rfl, Below.refl _ _⟩
  · have hp : (0 : Int) < (n : Int) := by omega
    rw [if_neg h0]
    go_enter Try.func25, Try.ntmps25
    go_wp2_with (go_at_call 21; refine HM.out.mono ?_; rintro e w' ⟨rfl, hb⟩; have HB := Lib.hid hb; clear hb)
    all_goals go_ret
    all_goals exact ⟨rfl, HB.out⟩

end Go.Proofs.Ytidpkkekoldkgaa.Ent
