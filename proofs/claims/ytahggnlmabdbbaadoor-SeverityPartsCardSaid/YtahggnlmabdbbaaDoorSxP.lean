import Derived.Test.YtahggnlmabdbbaaDoorTape
import Derived.Test.YtahggnlmabdbbaaDoorSxT
namespace Go.Proofs.YtahggnlmabdbbaaDoor.Sx
open Go.RowKit Go.Shelf
open Go.Proofs.YtahggnlmabdbbaaDoor.Tp
theorem tape_rel {c : Nat → Prop} {w w' : World} {T : Nat} (h : TapeOk w T) (r : Rel c w w') (hc : ∀ b, b ≤ T → ¬ c b) : TapeOk w' T := by
  obtain ⟨A, n, cc, z, p, hT, hmax, hp, hmem⟩ := h
  have hlt : T < w.heap.size := (Array.getElem?_eq_some_iff.1 hT).1
  refine ⟨A, n, cc, z, p, (r.block T hlt (hc T (Nat.le_refl _))).trans hT, hmax, hp, fun hn => ?_⟩
  obtain ⟨b, off, rfl, hb, hm⟩ := hmem hn
  exact ⟨b, off, rfl, hb, fun j hj => (World.cell?_of_block (w := w) (r.block b (by omega) (hc b (by omega)))).trans (hm j hj)⟩
theorem tape_lt {w : World} {T : Nat} (h : TapeOk w T) : T < w.heap.size := by
  obtain ⟨A, n, cc, z, p, hT, _⟩ := h
  exact (Array.getElem?_eq_some_iff.1 hT).1
end Go.Proofs.YtahggnlmabdbbaaDoor.Sx
