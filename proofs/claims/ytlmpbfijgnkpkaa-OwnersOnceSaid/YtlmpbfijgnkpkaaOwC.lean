import Derived.Test.YtlmpbfijgnkpkaaOwB
namespace Go.Proofs.Ytlmpbfijgnkpkaa.Di
open Go.RowKit
open Go.Proofs.Ytlmpbfijgnkpkaa.Tp
set_option linter.unusedVariables false

def befS (l : List Sw) (k : Nat) : Nat := if k = 0 then 0 else (sg l (k - 1)).t
theorem befS_le {n : Nat} {l : List Sw} (h : SOk n l) {k : Nat} (hk : k < l.length) : befS l k ≤ (sg l k).t := by
  unfold befS
  by_cases e : k = 0
  · rw [if_pos e]; omega
  · rw [if_neg e]
    have := h.up (k - 1) (by omega)
    rwa [show k - 1 + 1 = k by omega] at this
theorem befS_succ (l : List Sw) (k : Nat) : befS l (k + 1) = (sg l k).t := by unfold befS; rw [if_neg (by omega)]; rfl

set_option maxRecDepth 100000 in
set_option maxHeartbeats 2000000 in
theorem check13_any (B : Nat) (d : Dy) (v : Vd) (l : List Sw) (A : Option Addr) (cc : Nat) (w : World) (h : DL w B d v) (hs : Row w 0 3 A l.length (sv l)) (hok : Ok d) (hso : SOk d.k.length l) :
    Calls Try.prog 13 #[.agg (gd d v), .slice A l.length cc] w fun e w' => e = .returned (.int .i64 0) ∧ Below w.heap.size w w' := by
  have HB0 := Lib.hid (box_below w (.cells (gd d v) 25))
  have HR0 := Lib.hid (heap_alloc_new w (.cells (gd d v) 25))
  have hm := hso.m
  have HSO := Lib.hid hso
  have HD := Lib.hid h
  have HS := Lib.hid hs
  have HCK := Lib.hid (check_any B d v (w.alloc (.cells (gd d v) 25)) (h.below HB0.out) hok)
  have HF := Lib.hid (show (#[.slice v.A1 d.k.length v.c1, .slice v.A2 d.e.length v.c2] : Array Value) = gd d v from rfl)
  obtain ⟨c0, c1⟩ := gdCells HR0.out
  clear h hok hs hso
  go_enter Try.func13, Try.ntmps13
  go_wp2_with fail
  rw [HF.out]
  refine HCK.out.mono ?_
  rintro e w1 ⟨rfl, hb1⟩
  have HB1 := Lib.hid (HB0.out.trans (hb1.mono HB0.out.size))
  have M1 := Lib.hid ((hb1.block _ (row_lt HR0.out)).trans HR0.out)
  clear hb1 c0 c1
  go_wp2_with fail
  clear HB0 HR0 HCK
  go_loopw [6, 19] (fun ll ii wr => ∃ k : Nat, k ≤ l.length ∧ ii = .int .i64 k ∧ ll = .int .i64 ((befS l k : Nat) : Int) ∧ Below w1.heap.size w1 wr) (fun _ ii _ => l.length - (intOf ii).toNat)
  case atStart => exact ⟨0, by omega, rfl, rfl, Below.refl _ _⟩
  case round =>
    obtain ⟨k, hk, rfl, rfl, hbl⟩ := hrel
    have HBL := Lib.hid hbl
    have MK := Lib.hid ((hbl.block _ (row_lt M1.out)).trans M1.out)
    have HBK := Lib.hid (HB1.out.trans (hbl.mono HB1.out.size))
    clear hbl
    obtain ⟨c0, c1⟩ := gdCells MK.out
    by_cases hlt : k < l.length
    · obtain ⟨b, off, hA, -, hbk, y0, y1, y2⟩ := (HS.out.below HBK.out).sw hlt
      obtain ⟨hxt, hxs, hxw⟩ := HSO.out.e k hlt
      have hbe := befS_le HSO.out hlt
      have BS := Lib.hid (befS_succ l k)
      have hex := fun p w' => exists30_any d v p w'
      generalize sg l k = x at *
      generalize befS l k = t0 at *
      obtain ⟨xt, xs, xw⟩ := x
      simp only at hxt hxs hxw hbe y0 y1 y2 BS
      have hl3 : decide ((xt : Int) < (t0 : Int)) = false := decide_eq_false (by omega)
      have hl4 : decide ((1099511627776 : Int) < (xt : Int)) = false := decide_eq_false (by omega)
      simp only [gd] at hex
      have HEX := Lib.hid hex
      have HX1 := Lib.hid (hex xs)
      have HXS := Lib.hid (decide_eq_true hxs)
      rw [HXS.out] at HX1
      have j0 : (0 : Int) ≤ (k : Int) := by omega
      have j1 : (k : Int) < (l.length : Int) := by omega
      have hbx := box_below wr (.cells #[.int .i64 (xt : Int), .int .i64 (xs : Int), .int .i64 xw] 35)
      have NX := Lib.hid (heap_alloc_new wr (.cells #[.int .i64 (xt : Int), .int .i64 (xs : Int), .int .i64 xw] 35))
      have HBX := Lib.hid (HBL.out.trans (hbx.mono HBL.out.size))
      have MX := Lib.hid ((hbx.block _ (row_lt MK.out)).trans MK.out)
      have hkx : ∀ w', Below (wr.alloc (.cells #[.int .i64 (xt : Int), .int .i64 (xs : Int), .int .i64 xw] 35)).heap.size (wr.alloc (.cells #[.int .i64 (xt : Int), .int .i64 (xs : Int), .int .i64 xw] 35)) w' → ((w'.cell? ⟨wr.heap.size, 0, none⟩ = some (.int .i64 (xt : Int)) ∧ w'.cell? ⟨wr.heap.size, 1, none⟩ = some (.int .i64 (xs : Int)) ∧ w'.cell? ⟨wr.heap.size, 2, none⟩ = some (.int .i64 xw)) ∧ (w'.cell? ⟨w.heap.size, 0, none⟩ = some (.slice v.A1 d.k.length v.c1) ∧ w'.cell? ⟨w.heap.size, 1, none⟩ = some (.slice v.A2 d.e.length v.c2))) := fun w' hw => ⟨scCells (x := ⟨xt, xs, xw⟩) ((hw.block _ (row_lt NX.out)).trans NX.out), gdCells ((hw.block _ (row_lt MX.out)).trans MX.out)⟩
      have HKX := Lib.hid hkx
      clear hbx hkx hex hxs hxt
      subst hA
      obtain ⟨⟨n0, n1, n2⟩, m0, m1⟩ := HKX.out _ (Below.refl _ _)
      by_cases hw1 : xw = -1
      · have e1 : (xw != -1) = false := by rw [hw1]; rfl
        subst hw1
        clear hxw
        go_wp2_with (first
          | (go_at_call 30; (with_reducible refine (HX1.out _).mono ?_); rintro e wa ⟨rfl, hba⟩; have HBa := Lib.hid hba; obtain ⟨⟨a0, a1, a2⟩, b0, b1⟩ := HKX.out _ hba; clear hba))
        exact ⟨⟨k + 1, by omega, by go_num, by rw [BS.out], HBX.out.trans (HBa.out.mono HBX.out.size)⟩, by simp [intOf]; omega⟩
      · obtain ⟨hw0, hwn, hwne⟩ := hxw.resolve_left hw1
        obtain ⟨q, rfl⟩ : ∃ q : Nat, xw = q := ⟨xw.toNat, by omega⟩
        have e1 : ((q : Int) != -1) = true := by rw [bne, beq_eq_false_iff_ne.2 hw1]; rfl
        have e2 : ((q : Int) == (xs : Int)) = false := beq_eq_false_iff_ne.2 hwne
        have HX2 := Lib.hid (HEX.out q)
        have HQ := Lib.hid (decide_eq_true (show q < d.k.length by omega))
        rw [HQ.out] at HX2
        clear hxw hw1 hw0 hwn hwne
        go_wp2_with (first
          | (go_at_call 30; (with_reducible refine (HX1.out _).mono ?_); rintro e wa ⟨rfl, hba⟩; have HBa := Lib.hid hba; obtain ⟨⟨a0, a1, a2⟩, b0, b1⟩ := HKX.out _ hba; clear hba HX1)
          | (go_at_call 30; (with_reducible refine (HX2.out _).mono ?_); rintro e wb ⟨rfl, hbb⟩; have HBb := Lib.hid (HBa.out.trans (hbb.mono HBa.out.size)); obtain ⟨⟨a0, a1, a2⟩, b0, b1⟩ := HKX.out _ HBb.out; clear hbb))
        exact ⟨⟨k + 1, by omega, by go_num, by rw [BS.out], HBX.out.trans (HBb.out.mono HBX.out.size)⟩, by simp [intOf]; omega⟩
    · obtain rfl : k = l.length := by omega
      go_wp2_with fail
      go_ret
      exact ⟨rfl, HBK.out⟩

set_option maxRecDepth 100000 in
set_option maxHeartbeats 1000000 in
theorem of_any (B : Nat) (d : Dy) (v : Vd) (l : List Sw) (A : Option Addr) (cc : Nat) (p t : Int) (w : World) (h : DL w B d v) (hs : Row w 0 3 A l.length (sv l)) (hok : Ok d) (hso : SOk d.k.length l) :
    Calls Try.prog 17 #[.agg (gd d v), .slice A l.length cc, .int .i64 p, .int .i64 t] w fun e w' => e = .returned (.int .i64 (stw l p t)) ∧ Below w.heap.size w w' := by
  have HB0 := Lib.hid (box_below w (.cells (gd d v) 25))
  have HR0 := Lib.hid (heap_alloc_new w (.cells (gd d v) 25))
  have hm := hso.m
  have HS := Lib.hid hs
  have HCK := Lib.hid (check13_any B d v l A cc (w.alloc (.cells (gd d v) 25)) (h.below HB0.out) (hs.below HB0.out) hok hso)
  have HF := Lib.hid (show (#[.slice v.A1 d.k.length v.c1, .slice v.A2 d.e.length v.c2] : Array Value) = gd d v from rfl)
  obtain ⟨c0, c1⟩ := gdCells HR0.out
  clear h hok hs hso
  go_enter Try.func17, Try.ntmps17
  go_wp2_with fail
  rw [HF.out]
  refine HCK.out.mono ?_
  rintro e w1 ⟨rfl, hb1⟩
  have HB1 := Lib.hid (HB0.out.trans (hb1.mono HB0.out.size))
  have HST := Lib.hid (steward_any l p t A cc w1 (HS.out.below HB1.out) (by omega))
  clear hb1 c0 c1
  go_wp2_with fail
  refine HST.out.mono ?_
  rintro e w2 ⟨rfl, hb2⟩
  have HB2 := Lib.hid (HB1.out.trans (hb2.mono HB1.out.size))
  clear hb2
  go_wp2_with fail
  go_ret
  exact ⟨rfl, HB2.out⟩

end Go.Proofs.Ytlmpbfijgnkpkaa.Di
