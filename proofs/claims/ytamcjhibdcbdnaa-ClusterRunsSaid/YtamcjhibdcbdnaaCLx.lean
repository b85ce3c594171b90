import Derived.Test.YtamcjhibdcbdnaaCAw
import Derived.Test.YtamcjhibdcbdnaaCSt
namespace Go.Proofs.Ytamcjhibdcbdnaa.Cl
open Go.RowKit
open Go.Proofs.Ytamcjhibdcbdnaa.Tp
set_option linter.unusedVariables false

theorem sync_p {m B i : Nat} {c : Cl} {v : Vl} {w : World} (h : CL w B c v) (hok : Ok m c) (hi : i < c.r.length) (hm : m ≤ 90) : Calls Try.prog 24 #[.agg #[.bool c.f, .slice v.A1 c.s.length v.c1, .slice v.A2 c.r.length v.c2, .slice v.A3 c.p.length v.c3], .agg #[.int .i64 2, .int .i64 (i : Int), .int .i64 0, .int .i64 0]] w (RPost (sy1 c i) w) := ap2 m B c v i w h hok hm hi
theorem pub_p {m B b : Nat} {c : Cl} {v : Vl} {w : World} (h : CL w B c v) (hok : Ok m c) (hb : b ≤ 3) (hm : m ≤ 90) : Calls Try.prog 24 #[.agg #[.bool c.f, .slice v.A1 c.s.length v.c1, .slice v.A2 c.r.length v.c2, .slice v.A3 c.p.length v.c3], .agg #[.int .i64 1, .int .i64 0, .int .i64 0, .int .i64 (b : Int)]] w (RPost ⟨c.f, c.s ++ [b], c.r, c.p⟩ w) := ap1 m B c v b hb w h hok hm
theorem snap_p {m B i : Nat} {c : Cl} {v : Vl} {w : World} (h : CL w B c v) (hok : Ok m c) (hi : i < c.r.length) (hm : m ≤ 90) : Calls Try.prog 24 #[.agg #[.bool c.f, .slice v.A1 c.s.length v.c1, .slice v.A2 c.r.length v.c2, .slice v.A3 c.p.length v.c3], .agg #[.int .i64 3, .int .i64 (i : Int), .int .i64 0, .int .i64 0]] w (RPost ⟨c.f, c.s, c.r, c.p ++ [(rd c.r i).1]⟩ w) := ap3 m B c v i hi w h hok hm
theorem rest_p {m B i q : Nat} {c : Cl} {v : Vl} {w : World} (h : CL w B c v) (hok : Ok m c) (hi : i < c.r.length) (hq : q < c.p.length) (hm : m ≤ 90) : Calls Try.prog 24 #[.agg #[.bool c.f, .slice v.A1 c.s.length v.c1, .slice v.A2 c.r.length v.c2, .slice v.A3 c.p.length v.c3], .agg #[.int .i64 4, .int .i64 (i : Int), .int .i64 (q : Int), .int .i64 0]] w (RPost ⟨c.f, c.s, c.r.set i (c.p.getD q 0, !c.f), c.p⟩ w) := ap4 m B c v i q hi hq w h hok hm
theorem accb_p {m B i b : Nat} {c : Cl} {v : Vl} {w : World} (h : CL w B c v) (hok : Ok m c) (hm : m ≤ 100) (hi : i < c.r.length) (hb : b = 1 ∨ b = 2) : Calls Try.prog 29 #[.agg #[.bool c.f, .slice v.A1 c.s.length v.c1, .slice v.A2 c.r.length v.c2, .slice v.A3 c.p.length v.c3], .int .i64 (i : Int), .int .i64 (b : Int)] w (fun e w' => e = .returned (.bool (acc c i b)) ∧ Below w.heap.size w w') := Accepts_any m B i b c v w h hok hm hi hb

theorem ok_snap {m : Nat} {c : Cl} (h : Ok m c) {i : Nat} (hi : i < c.r.length) : Ok (m + 1) ⟨c.f, c.s, c.r, c.p ++ [(rd c.r i).1]⟩ := by
  have := ok_ap (x := ⟨3, i, 0, 0⟩) h (.inr (.inr (.inl ⟨rfl, hi, rfl, rfl⟩))) (by simp [fitB])
  rwa [ap, if_neg (by simp), if_neg (by simp), if_pos rfl] at this
theorem ok_pub {m : Nat} {c : Cl} (h : Ok m c) {b : Nat} (hb : b ≤ 3) : Ok (m + 1) ⟨c.f, c.s ++ [b], c.r, c.p⟩ := by
  have := ok_ap (x := ⟨1, 0, 0, b⟩) h (.inl ⟨rfl, rfl, rfl, hb⟩) (by simp [fitB])
  rwa [ap, if_pos rfl] at this
theorem ok_sync {m : Nat} {c : Cl} (h : Ok m c) {i : Nat} (hi : i < c.r.length) : Ok m (sy1 c i) := by
  obtain ⟨s1, s2, r1, r2, p2, sb, rb, pb⟩ := h
  refine ⟨s1, s2, by simpa [sy1] using r1, by simpa [sy1] using r2, p2, sb, fun j hj => ?_, pb⟩
  show (rd (c.r.set i _) j).1 < c.s.length
  rw [rd_set _ _ _ _ hi]
  split
  · show c.s.length - 1 < _
    omega
  · exact rb j (by simpa [sy1] using hj)
theorem acc_sync {c : Cl} {i b : Nat} (hi : i < c.r.length) : acc (sy1 c i) i b = has (newest c) b := by
  show ((rd (c.r.set i (c.s.length - 1, true)) i).2 && has (c.s.getD (rd (c.r.set i (c.s.length - 1, true)) i).1 0) b) = _
  rw [rd_set _ _ _ _ hi, if_pos rfl]
  rfl

end Go.Proofs.Ytamcjhibdcbdnaa.Cl
