import Derived.Test.YtamcjhibdcbdnaaCMem
import Derived.WalkKit
import Derived.Lib.Hide
import Derived.WalkSpells
import Derived.WalkLawsBesides
import Derived.Deep.QuietTactic
import Derived.BigQuiet
import Derived.Laws.Rows
namespace Go.Proofs.Ytamcjhibdcbdnaa.Cl
open Go.RowKit
open Go.Proofs.Ytamcjhibdcbdnaa.Tp
set_option linter.unusedVariables false

def PickPost (T : Nat) (zs : List Nat) (w : World) (e : Ending) (w' : World) : Prop := ∃ r, r < zs.length ∧ e = .returned (.int .i64 ((zs.getD r 0 : Nat) : Int)) ∧ w.grownBy w' (some T) ∧ TapeOk w' T

set_option maxRecDepth 100000 in
set_option maxHeartbeats 400000 in
theorem pick_any (T B n cc : Nat) (A : Option Addr) (zs : List Nat) (w : World) (h : TapeOk w T) (hr : Row w B 1 A n (iv zs)) (hB : T < B) (hn : 1 ≤ n) (hn2 : n ≤ 100) :
    Calls Try.prog 56 #[.pointer (some ⟨T, 0, none⟩), .slice A n cc] w (PickPost T zs w) := by
  have hl := hr.len
  rw [iv_len] at hl
  have HT := Lib.hid h
  have HR := Lib.hid hr
  clear h hr
  go_enter Try.func56, Try.ntmps56
  go_wp2_with fail
  refine (next_any T n _ HT.out (by omega) (by omega)).mono ?_
  rintro e w1 ⟨r, hr0, hr1, rfl, hg1, ht1⟩
  obtain ⟨k, rfl⟩ : ∃ k : Nat, r = k := ⟨r.toNat, by omega⟩
  obtain ⟨b, off, rfl, -, -, c0⟩ := (HR.out.grown hg1 (fun g e => by cases e; exact hB)).int (i := k) (by omega)
  have HG := Lib.hid hg1
  have HT1 := Lib.hid ht1
  have i1 : (k : Int) < (n : Int) := by omega
  obtain ⟨z, hz⟩ : ∃ z, zs.getD k 0 = z := ⟨_, rfl⟩
  rw [hz] at c0
  have HZ := Lib.hid hz
  have hkl : k < zs.length := by omega
  clear hg1 ht1 hz hl
  go_wp2_with fail
  go_ret
  refine ⟨k, hkl, ?_, HG.out, HT1.out⟩
  rw [HZ.out]
  rfl

end Go.Proofs.Ytamcjhibdcbdnaa.Cl
