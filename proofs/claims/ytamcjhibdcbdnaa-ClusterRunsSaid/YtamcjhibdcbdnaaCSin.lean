import Derived.Test.YtamcjhibdcbdnaaCAcc
namespace Go.Proofs.Ytamcjhibdcbdnaa.Cl
open Go.RowKit
open Go.Proofs.Ytamcjhibdcbdnaa.Tp
set_option linter.unusedVariables false

/-- How many sets there are up to the last one that has the bit. -/
def sn (s : List Nat) : Nat → Nat
  | 0 => 0
  | g + 1 => if has (s.getD g 0) 1 then g + 1 else sn s g
theorem sn_le (s : List Nat) : ∀ n, sn s n ≤ n
  | 0 => Nat.le_refl _
  | n + 1 => by
    rw [sn]
    split
    · exact Nat.le_refl _
    · have := sn_le s n; omega
theorem sn_behind (s : List Nat) : ∀ n i, sn s n ≤ i → i < n → has (s.getD i 0) 1 = false
  | 0, i, _, h => absurd h (by omega)
  | n + 1, i, h1, h2 => by
    rw [sn] at h1
    by_cases hh : has (s.getD n 0) 1 = true
    · rw [if_pos hh] at h1
      omega
    · rw [if_neg hh] at h1
      by_cases e : i = n
      · rw [e]; simpa using hh
      · exact sn_behind s n i h1 (by omega)

/-- Since when the newest set has not the bit, if so. -/
def SPost (c : Cl) (w : World) (e : Ending) (w' : World) : Prop :=
  e = .returned (.tuple #[.int .i64 (if sn c.s c.s.length = c.s.length then 0 else (sn c.s c.s.length : Nat) : Int), .bool (!(sn c.s c.s.length == c.s.length))]) ∧ Below w.heap.size w w'

theorem spost_eq {c : Cl} {w w' : World} {e : Ending} {N : Nat} (hN : c.s.length = N) (h : sn c.s N = N) (he : e = .returned (.tuple #[.int .i64 0, .bool false])) (hb : Below w.heap.size w w') : SPost c w e w' := by
  refine ⟨?_, hb⟩
  rw [he, hN, h, if_pos rfl]
  simp
theorem spost_ne {c : Cl} {w w' : World} {e : Ending} {N g : Nat} (hN : c.s.length = N) (h : sn c.s N = g) (hg : g < N) (he : e = .returned (.tuple #[.int .i64 (g : Int), .bool true])) (hb : Below w.heap.size w w') : SPost c w e w' := by
  refine ⟨?_, hb⟩
  have h1 : (g == N) = false := beq_eq_false_iff_ne.2 (by omega)
  rw [he, hN, h, if_neg (by omega), h1]
  rfl

set_option maxRecDepth 100000 in
set_option maxHeartbeats 1000000 in
theorem since_any (m B : Nat) (c : Cl) (v : Vl) (w : World) (h : CL w B c v) (hok : Ok m c) (hm : m ≤ 100) :
    Calls Try.prog 43 #[.agg (cv c v), .int .i64 1] w (SPost c w) := by
  have HB0 := Lib.hid (box_below w (.cells (cv c v) 25))
  have HR0 := Lib.hid (heap_alloc_new w (.cells (cv c v) 25))
  have hch : ∀ w', Below w.heap.size w w' → Calls Try.prog 21 #[.agg #[.bool c.f, .slice v.A1 c.s.length v.c1, .slice v.A2 c.r.length v.c2, .slice v.A3 c.p.length v.c3]] w' fun e w'' => e = .returned (.int .i64 0) ∧ Below w'.heap.size w' w'' := fun w' hw => check_any m B c v w' (h.below hw) hok hm
  have HCH := Lib.hid hch
  have s2 := hok.s2
  have HSB := Lib.hid hok.sb
  have HC := Lib.hid h
  have hrow : (w.alloc (.cells (cv c v) 25)).heap[w.heap.size]? = some (.cells (cv c v) 25 (0, 0)) := HR0.out
  clear h hch hok
  obtain ⟨c0, c1, c2, c3⟩ := cvCells _ _ _ _ _ _ hrow
  clear hrow
  go_enter Try.func43, Try.ntmps43
  go_wp2_with fail
  refine (HCH.out _ HB0.out).mono ?_
  rintro e w1 ⟨rfl, hb1⟩
  have R1 := Lib.hid ((hb1.block w.heap.size (row_lt HR0.out)).trans HR0.out)
  have HB1 := Lib.hid (HB0.out.trans (hb1.mono HB0.out.size))
  clear hb1 c0 c1 c2 c3
  obtain ⟨c0, c1, c2, c3⟩ := cvCells _ _ _ _ _ _ R1.out
  obtain ⟨N, hN⟩ : ∃ N, c.s.length = N := ⟨_, rfl⟩
  have HN := Lib.hid hN
  rw [hN] at c1 s2
  clear hN c0 c2 c3
  go_wp2_with fail
  go_loop [6] (fun gg => ∃ g : Nat, g ≤ N ∧ gg = .int .i64 g ∧ sn c.s N = sn c.s g) (fun gg => (intOf gg).toNat)
  case atStart => exact ⟨N, by omega, rfl, rfl⟩
  case round =>
    obtain ⟨g, hg, rfl, hsn⟩ := hrel
    have HSN := Lib.hid hsn
    clear hsn
    by_cases h0 : 0 < g
    · obtain ⟨p, rfl⟩ : ∃ p, g = p + 1 := ⟨g - 1, by omega⟩
      obtain ⟨b, off, hA, -, -, d0⟩ := (HC.out.below HB1.out).r1.int (i := p) (by have := HN.out; omega)
      have hs := HSB.out p (by have := HN.out; omega)
      have hd := has_dec (c.s.getD p 0) 1 hs (by omega)
      have HST := Lib.hid (show sn c.s (p + 1) = if has (c.s.getD p 0) 1 then p + 1 else sn c.s p from rfl)
      rw [hA] at c1
      generalize c.s.getD p 0 = x at *
      cases hH : has x 1 with
      | true =>
        have HH := Lib.hid hH
        rw [hH] at hd
        clear hH
        have hd2 : (bits .and .i64 (x : Int) 1 == 0) = false := hd
        clear hd
        have hsv : sn c.s N = p + 1 := by rw [HSN.out, HST.out, if_pos HH.out]
        have HSV := Lib.hid hsv
        clear hsv
        by_cases hpN : p + 1 = N
        · subst hpN
          go_wp2_with fail
          go_ret2
          exact spost_eq HN.out HSV.out rfl HB1.out
        · have hq : (((p : Int) + 1) == (N : Int)) = false := beq_eq_false_iff_ne.2 (by omega)
          go_wp2_with fail
          go_ret2
          exact spost_ne (g := p + 1) HN.out HSV.out (by omega) (by go_num) HB1.out
      | false =>
        have HH := Lib.hid hH
        rw [hH] at hd
        clear hH
        have hd2 : (bits .and .i64 (x : Int) 1 == 0) = true := hd
        clear hd
        have hsv : sn c.s N = sn c.s p := by rw [HSN.out, HST.out, if_neg (by rw [HH.out]; decide)]
        have HSV := Lib.hid hsv
        clear hsv
        go_wp2_with fail
        exact ⟨⟨p, by omega, by go_num, HSV.out⟩, by simp [intOf]⟩
    · obtain rfl : g = 0 := by omega
      have hs1 := HN.out
      by_cases hN0 : N = 0
      · subst hN0
        go_wp2_with fail
        go_ret2
        exact spost_eq HN.out rfl rfl HB1.out
      · have hq : ((0 : Int) == (N : Int)) = false := beq_eq_false_iff_ne.2 (by omega)
        have HN0 := Lib.hid hN0
        have hpos : 0 < N := by omega
        clear hN0 hs1
        go_wp2_with fail
        go_ret2
        exact spost_ne (g := 0) HN.out HSN.out hpos rfl HB1.out

end Go.Proofs.Ytamcjhibdcbdnaa.Cl
