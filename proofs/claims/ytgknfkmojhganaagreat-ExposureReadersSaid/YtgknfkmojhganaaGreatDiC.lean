import Derived.Test.YtgknfkmojhganaaGreatDiB
namespace Go.Proofs.YtgknfkmojhganaaGreat.Di
open Go.RowKit
open Go.Proofs.YtgknfkmojhganaaGreat.Tp
set_option linter.unusedVariables false

/-- The time of the event ahead of the k-th. -/
def befT (d : Dy) (k : Nat) : Nat := if k = 0 then 0 else (eg d (k - 1)).t
theorem bef_le {d : Dy} (h : Ok d) {k : Nat} (hk : k < d.e.length) : befT d k ≤ (eg d k).t := by
  unfold befT
  by_cases e : k = 0
  · rw [if_pos e]; omega
  · rw [if_neg e]
    have := h.up (k - 1) (by omega)
    rwa [show k - 1 + 1 = k by omega] at this
theorem bef_succ (d : Dy) (k : Nat) : befT d (k + 1) = (eg d k).t := by unfold befT; rw [if_neg (by omega)]; rfl

set_option maxRecDepth 100000 in
set_option maxHeartbeats 2000000 in
theorem check_any (B : Nat) (d : Dy) (v : Vd) (w : World) (h : DL w B d v) (hok : Ok d) :
    Calls Tryz.prog 44 #[.agg (gd d v)] w fun e w' => e = .returned (.int .i64 0) ∧ Below w.heap.size w w' := by
  have HB0 := Lib.hid (box_below w (.cells (gd d v) 25))
  have HR0 := Lib.hid (heap_alloc_new w (.cells (gd d v) 25))
  have hn := hok.n
  have hm := hok.m
  have HOK := Lib.hid hok
  have HD := Lib.hid h
  have hz : (w.alloc (.cells (gd d v) 25)).heap.size = w.heap.size + 1 := by simp
  have n1 := heap_alloc_new (w.alloc (.cells (gd d v) 25)) (.cells #[.nilFunc] 100)
  have hset := set_new (w.alloc (.cells (gd d v) 25)) #[.nilFunc] 100 0 (.func (.func 81) #[] #[])
  have n2 := heap_alloc_new (w.alloc (.cells (gd d v) 25)) (.cells #[.func (.func 81) #[] #[]] 100)
  have hb2 := box_below (w.alloc (.cells (gd d v) 25)) (.cells #[.func (.func 81) #[] #[]] 100)
  have m2 : ((w.alloc (.cells (gd d v) 25)).alloc (.cells #[.func (.func 81) #[] #[]] 100)).heap[w.heap.size]? = some (.cells (gd d v) 25 (0, 0)) := (heap_alloc_old _ _ (row_lt HR0.out)).trans HR0.out
  have HB1 := Lib.hid (HB0.out.trans (hb2.mono HB0.out.size))
  have k0 := cell_of_row _ _ 0 _ _ _ n2
  rw [hz] at n1 n2 hset k0
  have hset2 : ((w.alloc (.cells (gd d v) 25)).alloc (.cells #[.nilFunc] 100)).setCell ⟨w.heap.size + 1, 0, none⟩ (.func (.func 81) #[] #[]) = (w.alloc (.cells (gd d v) 25)).alloc (.cells #[.func (.func 81) #[] #[]] 100) := hset
  have d0 : ((w.alloc (.cells (gd d v) 25)).alloc (.cells #[.nilFunc] 100)).cell? ⟨w.heap.size + 1, 0, none⟩ = some .nilFunc := by rw [cell_of_row _ _ _ _ _ _ n1]; rfl
  have f0 : ((w.alloc (.cells (gd d v) 25)).alloc (.cells #[.nilFunc] 100)).frozen? ⟨w.heap.size + 1, 0, none⟩ = false := frozen_of_row _ _ _ _ _ n1
  have hka := kinds_any d.k (w.heap.size + 1) v.A1 d.k.length v.c1 ((w.alloc (.cells (gd d v) 25)).alloc (.cells #[.func (.func 81) #[] #[]] 100)) (by omega) ((h.below HB1.out).base (Nat.zero_le _)).r1 (fun i hi => hok.k i hi) (k0.trans rfl)
  have HKA := Lib.hid hka
  have M2 := Lib.hid m2
  obtain ⟨c0, c1⟩ := gdCells HR0.out
  obtain ⟨x0, x1⟩ := gdCells m2
  clear h hok n1 n2 hset hb2 m2 k0 hka hz
  have hsf : ∀ (W : World) (a : Addr) (fn : Go.Fn) (f ca : Array Value), (store a (.func fn f ca)).run Tryz.prog W = stored Tryz.prog W a (.func fn f ca) .plain := fun W a fn f ca => run_store Tryz.prog W a _ .plain rfl
  go_enter Tryz.func44, Tryz.ntmps44
  go_wp2_with (go_at_call 62; refine HKA.out.mono ?_; rintro e w1 ⟨rfl, rfl⟩)
  clear x0 x1 c0 c1 hset2 d0 f0 hsf
  generalize (w.alloc (.cells (gd d v) 25)).alloc (.cells #[.func (.func 81) #[] #[]] 100) = W1 at *
  clear HB0 HR0 HKA
  go_loopw [5, 28] (fun ll ii wr => ∃ k : Nat, k ≤ d.e.length ∧ ii = .int .i64 k ∧ ll = .int .i64 ((befT d k : Nat) : Int) ∧ Below W1.heap.size W1 wr) (fun _ ii _ => d.e.length - (intOf ii).toNat)
  case atStart => exact ⟨0, by omega, rfl, rfl, Below.refl _ _⟩
  case round =>
    obtain ⟨k, hk, rfl, rfl, hbl⟩ := hrel
    have HBL := Lib.hid hbl
    have MK := Lib.hid ((hbl.block _ (row_lt M2.out)).trans M2.out)
    have HBK := Lib.hid (HB1.out.trans (hbl.mono HB1.out.size))
    clear hbl
    obtain ⟨c0, c1⟩ := gdCells MK.out
    by_cases hlt : k < d.e.length
    · obtain ⟨b, off, hA, -, hbk, y0, y1, y2, y3⟩ := (HD.out.below HBK.out).r2.evt hlt
      have hK : d.e.getD k m0 = eg d k := rfl
      rw [hK] at y0 y1 y2 y3
      have hx := HOK.out.e k hlt
      have hbe := bef_le HOK.out hlt
      have BS := Lib.hid (bef_succ d k)
      have hxk := hx.k
      have hxt : ((eg d k).t : Int) ≤ 1099511627776 := by have := hx.t; omega
      have hex := fun w' => exists_any d v (eg d k).p w'
      rw [decide_eq_true hx.p] at hex
      have hgr := fun w' (hw : Below w.heap.size w w') => group_any B d v (eg d k).g w' (HD.out.below hw)
      have hgb : gB d (eg d k).g = true := by
        unfold gB
        rw [decide_eq_true hx.g, hx.gr]; rfl
      rw [hgb] at hgr
      have hne : (((eg d k).p : Int) == ((eg d k).g : Int)) = false := beq_eq_false_iff_ne.2 (by have := hx.ne; omega)
      have hne2 : ¬ (eg d k).p = (eg d k).g := hx.ne
      clear hK hx hgb
      generalize eg d k = x at *
      generalize befT d k = l at *
      have hl2 : ¬ x.t < l := by omega
      have hl3 : decide ((x.t : Int) < (l : Int)) = false := decide_eq_false (by omega)
      simp only [gd] at hex hgr
      have HEX := Lib.hid hex
      have HGR := Lib.hid hgr
      have HNE := Lib.hid hne2
      have j0 : (0 : Int) ≤ (k : Int) := by omega
      have j1 : (k : Int) < (d.e.length : Int) := by omega
      have hbx := box_below wr (.cells (ec x) 79)
      have NX := Lib.hid (heap_alloc_new wr (.cells (ec x) 79))
      have HBX := Lib.hid (HBL.out.trans (hbx.mono HBL.out.size))
      have MX := Lib.hid ((hbx.block _ (row_lt MK.out)).trans MK.out)
      have HBX2 := Lib.hid (HBK.out.trans (hbx.mono HBK.out.size))
      have hkx : ∀ w', Below (wr.alloc (.cells (ec x) 79)).heap.size (wr.alloc (.cells (ec x) 79)) w' → ((w'.cell? ⟨wr.heap.size, 0, none⟩ = some (.int .i64 (x.t : Int)) ∧ w'.cell? ⟨wr.heap.size, 1, none⟩ = some (.int .i64 (x.k : Int)) ∧ w'.cell? ⟨wr.heap.size, 2, none⟩ = some (.int .i64 (x.p : Int)) ∧ w'.cell? ⟨wr.heap.size, 3, none⟩ = some (.int .i64 (x.g : Int))) ∧ (w'.cell? ⟨w.heap.size, 0, none⟩ = some (.slice v.A1 d.k.length v.c1) ∧ w'.cell? ⟨w.heap.size, 1, none⟩ = some (.slice v.A2 d.e.length v.c2))) := fun w' hw => ⟨ecCells ((hw.block _ (row_lt NX.out)).trans NX.out), gdCells ((hw.block _ (row_lt MX.out)).trans MX.out)⟩
      have HKX := Lib.hid hkx
      clear hbx hkx hex hgr
      unfold ec at NX HBX HBX2 HKX MX
      rw [hA]
      clear hA
      obtain ⟨⟨n0, n1, n2, n3⟩, m0, m1⟩ := HKX.out _ (Below.refl _ _)
      rcases hxk with hk1 | hk1
      · have e1 : ((x.k : Int) != 1) = false := by rw [hk1]; rfl
        clear hk1
        go_wp2_with (first
          | (go_at_call 83; (with_reducible refine (HEX.out _).mono ?_); rintro e wa ⟨rfl, hba⟩; have HBa := Lib.hid hba; obtain ⟨⟨a0, a1, a2, a3⟩, b0, b1⟩ := HKX.out _ hba; clear hba)
          | (go_at_call 84; (with_reducible refine (HGR.out _ (HBX2.out.trans (HBa.out.mono HBX2.out.size))).mono ?_); rintro e wb ⟨rfl, hbb⟩; have HBb := Lib.hid (HBa.out.trans (hbb.mono HBa.out.size)); obtain ⟨⟨a0, a1, a2, a3⟩, b0, b1⟩ := HKX.out _ HBb.out; clear hbb))
        exact ⟨⟨k + 1, by omega, by go_num, by rw [BS.out], HBX.out.trans (HBb.out.mono HBX.out.size)⟩, by simp [intOf]; omega⟩
      · have e1 : ((x.k : Int) != 1) = true := by rw [hk1]; rfl
        have e2 : ((x.k : Int) != 2) = false := by rw [hk1]; rfl
        clear hk1
        go_wp2_with (first
          | (go_at_call 83; (with_reducible refine (HEX.out _).mono ?_); rintro e wa ⟨rfl, hba⟩; have HBa := Lib.hid hba; obtain ⟨⟨a0, a1, a2, a3⟩, b0, b1⟩ := HKX.out _ hba; clear hba)
          | (go_at_call 84; (with_reducible refine (HGR.out _ (HBX2.out.trans (HBa.out.mono HBX2.out.size))).mono ?_); rintro e wb ⟨rfl, hbb⟩; have HBb := Lib.hid (HBa.out.trans (hbb.mono HBa.out.size)); obtain ⟨⟨a0, a1, a2, a3⟩, b0, b1⟩ := HKX.out _ HBb.out; clear hbb))
        exact ⟨⟨k + 1, by omega, by go_num, by rw [BS.out], HBX.out.trans (HBb.out.mono HBX.out.size)⟩, by simp [intOf]; omega⟩
    · obtain rfl : k = d.e.length := by omega
      go_wp2_with fail
      go_ret
      exact ⟨rfl, HBK.out⟩

end Go.Proofs.YtgknfkmojhganaaGreat.Di
