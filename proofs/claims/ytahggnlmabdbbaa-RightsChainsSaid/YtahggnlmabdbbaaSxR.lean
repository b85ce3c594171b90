import Derived.Test.YtahggnlmabdbbaaSxP
import Derived.Test.YtahggnlmabdbbaaSxM
import Derived.Test.YtahggnlmabdbbaaRtH
namespace Go.Proofs.Ytahggnlmabdbbaa.Di
open Go.RowKit Go.Shelf
open Go.Proofs.Ytahggnlmabdbbaa.Tp
open Go.Proofs.Ytahggnlmabdbbaa.Sx
set_option linter.unusedVariables false
theorem Has.row {w : World} {B s n : Nat} {A : Option Addr} {xs : List Value} (h : Row w B s A n xs) : Has w B w.heap.size (fun w => Row w B s A n xs) :=
  ⟨Nat.le_refl _, h, fun w' h0 hb => ⟨h.len, fun hn => by
    obtain ⟨b, off, e, hB, hlt, hc⟩ := h.mem hn
    exact ⟨b, off, e, hB, Nat.lt_of_lt_of_le hlt h0, fun j u hj => (World.cell?_of_block (w := w) (a := ⟨b, off + j, none⟩) (hb b hB hlt)).trans (hc j u hj)⟩⟩⟩
theorem Has.rl {w : World} {B : Nat} {x : Rt} {v : Vr} (h : RL w B x v) : Has w B w.heap.size (fun w => RL w B x v) :=
  (((Has.row h.r1).and (Has.row h.r2)).and (Has.row h.r3)).map (fun _ h => ⟨h.1.1, h.1.2, h.2⟩)
theorem At2.seg {w : World} {b o : Nat} {x : T2} (h : At2 w b o x) : w.rangeAt b o [.int .i64 x.a, .int .i64 x.b] := fun j v hj => by
  match j with
  | 0 => simp at hj; subst hj; exact h.1
  | 1 => simp at hj; subst hj; exact h.2
  | j + 2 => simp at hj
theorem At3.seg {w : World} {b o : Nat} {x : T3} (h : At3 w b o x) : w.rangeAt b o [.int .i64 x.a, .int .i64 x.b, .int .i64 x.c] := fun j v hj => by
  match j with
  | 0 => simp at hj; subst hj; exact h.1
  | 1 => simp at hj; subst hj; exact h.2.1
  | 2 => simp at hj; subst hj; exact h.2.2
  | j + 3 => simp at hj
theorem At4.seg {w : World} {b o : Nat} {x : T4} (h : At4 w b o x) : w.rangeAt b o [.int .i64 x.a, .int .i64 x.b, .int .i64 x.c, .int .i64 x.d] := fun j v hj => by
  match j with
  | 0 => simp at hj; subst hj; exact h.1
  | 1 => simp at hj; subst hj; exact h.2.1
  | 2 => simp at hj; subst hj; exact h.2.2.1
  | 3 => simp at hj; subst hj; exact h.2.2.2
  | j + 4 => simp at hj
theorem At5.seg {w : World} {b o : Nat} {x : T5} (h : At5 w b o x) : w.rangeAt b o [.int .i64 x.l.a, .int .i64 x.l.b, .int .i64 x.l.c, .int .i64 x.l.d, .int .i64 x.t] := fun j v hj => by
  match j with
  | 0 => simp at hj; subst hj; exact h.1
  | 1 => simp at hj; subst hj; exact h.2.1
  | 2 => simp at hj; subst hj; exact h.2.2.1
  | 3 => simp at hj; subst hj; exact h.2.2.2.1
  | 4 => simp at hj; subst hj; exact h.2.2.2.2
  | j + 5 => simp at hj
theorem same_lit (x y : Int) : (Lit.int .i64 x).sameKey (.int .i64 y) = (x == y) := by
  simp [Lit.sameKey]; rfl
end Go.Proofs.Ytahggnlmabdbbaa.Di
