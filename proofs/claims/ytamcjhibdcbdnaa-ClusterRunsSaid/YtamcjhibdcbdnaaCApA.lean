import Derived.Test.YtamcjhibdcbdnaaCAp3
namespace Go.Proofs.Ytamcjhibdcbdnaa.Cl
open Go.RowKit
open Go.Proofs.Ytamcjhibdcbdnaa.Tp
set_option linter.unusedVariables false

/-- The product's Apply of an event of the maker's. -/
theorem apply_any (m B : Nat) (c : Cl) (v : Vl) (x : Ev) (w : World) (h : CL w B c v) (hok : Ok m c) (hm : m ≤ 90) (hg : Good c x) :
    Calls Try.prog 24 #[.agg (cv c v), .agg (ev x)] w (APost c x w) := by
  obtain ⟨k, i, q, b⟩ := x
  rcases hg with ⟨hk, h1, h2, h3⟩ | ⟨hk, h1, h2, h3⟩ | ⟨hk, h1, h2, h3⟩ | ⟨hk, h1, h2, h3⟩
  · simp only at hk h1 h2 h3
    subst hk h1 h2
    exact (ap1 m B c v b h3 w h hok hm).mono fun e w' hp => .inl ⟨by simp [fitB], by rw [ap, if_pos rfl]; exact hp⟩
  · simp only at hk h1 h2 h3
    subst hk h2 h3
    exact (ap2 m B c v i w h hok hm h1).mono fun e w' hp => .inl ⟨by simp [fitB], by rw [ap, if_neg (by simp), if_pos rfl]; exact hp⟩
  · simp only at hk h1 h2 h3
    subst hk h2 h3
    exact (ap3 m B c v i h1 w h hok hm).mono fun e w' hp => .inl ⟨by simp [fitB], by rw [ap, if_neg (by simp), if_neg (by simp), if_pos rfl]; exact hp⟩
  · simp only at hk h1 h2 h3
    subst hk h3
    by_cases hq : q = c.p.length
    · exact (ap4n m B c v i q h1 hq w h hok hm).mono fun e w' hp => .inr ⟨by simp [fitB, hq], hp⟩
    · exact (ap4 m B c v i q h1 (by omega) w h hok hm).mono fun e w' hp => .inl ⟨by simp [fitB, hq], by rw [ap, if_neg (by simp), if_neg (by simp), if_neg (by simp)]; exact hp⟩

theorem apply_p {m B : Nat} {c : Cl} {v : Vl} {x : Ev} {w : World} (h : CL w B c v) (hok : Ok m c) (hg : Good c x) (hm : m ≤ 90) : Calls Try.prog 24 #[.agg #[.bool c.f, .slice v.A1 c.s.length v.c1, .slice v.A2 c.r.length v.c2, .slice v.A3 c.p.length v.c3], .agg #[.int .i64 (x.k : Int), .int .i64 (x.i : Int), .int .i64 (x.q : Int), .int .i64 (x.b : Int)]] w (AForm c x w) := (apply_any m B c v x w h hok hm hg).mono fun _ _ hp => aform hp

end Go.Proofs.Ytamcjhibdcbdnaa.Cl
