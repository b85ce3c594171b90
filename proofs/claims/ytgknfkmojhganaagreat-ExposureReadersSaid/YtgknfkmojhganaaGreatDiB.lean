import Derived.Test.YtgknfkmojhganaaGreatDiA
namespace Go.Proofs.YtgknfkmojhganaaGreat.Di
open Go.RowKit
open Go.Proofs.YtgknfkmojhganaaGreat.Tp
set_option linter.unusedVariables false

set_option maxRecDepth 100000 in
set_option maxHeartbeats 400000 in
theorem kind_yes (k : Nat) (w : World) (h1 : 1 ≤ k) (h3 : k ≤ 3) : Calls Tryz.prog 81 #[.int .i64 (k : Int)] w fun e w' => e = .returned (.bool true) ∧ w = w' := by
  rcases (by omega : k = 1 ∨ k = 2 ∨ k = 3) with rfl | rfl | rfl <;>
  · go_enter Tryz.func81, Tryz.ntmps81
    go_wp2_with fail
    go_ret
    exact ⟨by first | rfl | simp, rfl⟩

set_option maxRecDepth 100000 in
set_option maxHeartbeats 400000 in
theorem wrong_call (k g : Nat) (w : World) (h1 : 1 ≤ k) (h3 : k ≤ 3) (hg : w.cell? ⟨g, 0, none⟩ = some (.func (.func 81) #[] #[])) :
    Calls Tryz.prog 82 (#[.int .i64 (k : Int)] ++ #[.pointer (some ⟨g, 0, none⟩)]) w fun e w' => e = .returned (.bool false) ∧ w = w' := by
  have HK := Lib.hid (kind_yes k w h1 h3)
  show Calls Tryz.prog 82 #[.int .i64 (k : Int), .pointer (some ⟨g, 0, none⟩)] w _
  go_enter Tryz.func82, Tryz.ntmps82
  go_wp2_with (go_at_call 81; refine HK.out.mono ?_; rintro e w2 ⟨rfl, rfl⟩)
  go_ret
  exact ⟨rfl, rfl⟩

set_option maxRecDepth 100000 in
set_option maxHeartbeats 400000 in
theorem kinds_idx (l : List Nat) (g : Nat) (A : Option Addr) (n c : Nat) (w : World) (hn : n ≤ 1000) (h : Row w 0 1 A n (iv l))
    (hp : ∀ i, i < n → 1 ≤ l.getD i 0 ∧ l.getD i 0 ≤ 3) (hg : w.cell? ⟨g, 0, none⟩ = some (.func (.func 81) #[] #[])) :
    Calls Tryz.prog 92 #[.slice A n c, .func (.func 82) #[] #[.pointer (some ⟨g, 0, none⟩)]] w fun e w' => e = .returned (.int .i64 (-1)) ∧ w' = w := by
  have H := Lib.hid h
  have HP := Lib.hid (fun i (hi : i < n) => wrong_call (l.getD i 0) g w (hp i hi).1 (hp i hi).2 hg)
  clear h hp hg
  go_enter Tryz.func92, Tryz.ntmps92
  go_wp2
  go_loopw [8] (fun i wr => ∃ k : Nat, k ≤ n ∧ i = .int .i64 k ∧ wr = w) (fun i _ => n - (intOf i).toNat)
  case atStart => exact ⟨0, by omega, rfl, rfl⟩
  case round =>
    obtain ⟨k, hk, rfl, rfl⟩ := hrel
    by_cases hlt : k < n
    · obtain ⟨b, off, rfl, hB, hbk, y0⟩ := H.out.int hlt
      have HC := Lib.hid (HP.out k hlt)
      have j0 : (0 : Int) ≤ (k : Int) := by omega
      have j1 : (k : Int) < (n : Int) := by omega
      generalize l.getD k 0 = x at *
      go_wp2_with (go_at_call 82; refine HC.out.mono ?_; rintro e w2 ⟨rfl, rfl⟩)
      exact ⟨⟨k + 1, by omega, by go_num, by first | rfl | trivial⟩, by simp [intOf]; omega⟩
    · obtain rfl : n = k := by omega
      go_wp2
      go_ret
      exact ⟨rfl, rfl⟩

set_option maxRecDepth 100000 in
set_option maxHeartbeats 400000 in
theorem kinds_any (l : List Nat) (g : Nat) (A : Option Addr) (n c : Nat) (w : World) (hn : n ≤ 1000) (h : Row w 0 1 A n (iv l))
    (hp : ∀ i, i < n → 1 ≤ l.getD i 0 ∧ l.getD i 0 ≤ 3) (hg : w.cell? ⟨g, 0, none⟩ = some (.func (.func 81) #[] #[])) :
    Calls Tryz.prog 62 #[.slice A n c, .func (.func 82) #[] #[.pointer (some ⟨g, 0, none⟩)]] w fun e w' => e = .returned (.bool false) ∧ w' = w := by
  have HC := Lib.hid (kinds_idx l g A n c w hn h hp hg)
  clear h hp
  go_enter Tryz.func62, Tryz.ntmps62
  go_wp2_with (go_at_call 92; refine HC.out.mono ?_; rintro e w' ⟨rfl, rfl⟩)
  go_ret
  exact ⟨rfl, rfl⟩

end Go.Proofs.YtgknfkmojhganaaGreat.Di
