import Derived.Test.YtamcjhibdcbdnaaCRef1
import Derived.Test.YtamcjhibdcbdnaaCRef2
import Derived.Test.YtamcjhibdcbdnaaCRef3
import Derived.Test.YtamcjhibdcbdnaaCRef4
import Derived.Test.YtamcjhibdcbdnaaCRef5
namespace Go.Proofs.Ytamcjhibdcbdnaa.Cl
open Go.RowKit
open Go.Proofs.Ytamcjhibdcbdnaa.Tp
set_option linter.unusedVariables false

def APost (c : Cl) (x : Ev) (w : World) (e : Ending) (w' : World) : Prop := (fitB c x = true ∧ RPost (ap c x) w e w') ∨ (fitB c x = false ∧ BPost w e w')

def ev (x : Ev) : Array Value := ec x.k x.i x.q x.b

theorem refapply_any (m B : Nat) (c : Cl) (v : Vl) (x : Ev) (w : World) (h : CL w B c v) (hok : Ok m c) (hm : m ≤ 90) (hg : Good c x) :
    Calls Try.prog 25 #[.agg (cv c v), .agg (ev x)] w (APost c x w) := by
  obtain ⟨k, i, q, b⟩ := x
  rcases hg with ⟨hk, h1, h2, h3⟩ | ⟨hk, h1, h2, h3⟩ | ⟨hk, h1, h2, h3⟩ | ⟨hk, h1, h2, h3⟩
  · simp only at hk h1 h2 h3
    subst hk h1 h2
    exact (rap1 m B c v b w h hok hm h3).mono fun e w' hp => .inl ⟨by simp [fitB], by rw [ap, if_pos rfl]; exact hp⟩
  · simp only at hk h1 h2 h3
    subst hk h2 h3
    exact (rap2 m B c v i w h hok hm h1).mono fun e w' hp => .inl ⟨by simp [fitB], by rw [ap, if_neg (by simp), if_pos rfl]; exact hp⟩
  · simp only at hk h1 h2 h3
    subst hk h2 h3
    exact (rap3 m B c v i w h hok hm h1).mono fun e w' hp => .inl ⟨by simp [fitB], by rw [ap, if_neg (by simp), if_neg (by simp), if_pos rfl]; exact hp⟩
  · simp only at hk h1 h2 h3
    subst hk h3
    by_cases hq : q = c.p.length
    · subst hq
      exact (rap5 m B c v i w h hok hm h1).mono fun e w' hp => .inr ⟨by simp [fitB], hp⟩
    · exact (rap4 m B c v i q _ w h hok hm h1 (by omega) rfl).mono fun e w' hp => .inl ⟨by simp [fitB, hq], by rw [ap, if_neg (by simp), if_neg (by simp), if_neg (by simp)]; exact hp⟩

end Go.Proofs.Ytamcjhibdcbdnaa.Cl
