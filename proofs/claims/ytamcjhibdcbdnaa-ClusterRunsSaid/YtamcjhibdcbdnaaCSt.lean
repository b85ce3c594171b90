import Derived.Test.YtamcjhibdcbdnaaCEx
namespace Go.Proofs.Ytamcjhibdcbdnaa.Cl
open Go.RowKit
open Go.Proofs.Ytamcjhibdcbdnaa.Tp
set_option linter.unusedVariables false

/-! ### Behind the fence, what is dead stays dead while no set with the bit is published -/

theorem sn_left (s : List Nat) (x : Nat) : ∀ n, n ≤ s.length → sn (s ++ [x]) n = sn s n
  | 0, _ => rfl
  | n + 1, h => by
    rw [sn, sn, gd_left _ _ _ (by omega), sn_left s x n (by omega)]

theorem newest_add (f : Bool) (s : List Nat) (b : Nat) (r : List (Nat × Bool)) (p : List Nat) : newest ⟨f, s ++ [b], r, p⟩ = b := by
  show (s ++ [b]).getD ((s ++ [b]).length - 1) 0 = b
  rw [show (s ++ [b]).length - 1 = s.length by simp]
  exact gd_end _ _

/-- What holds on the way: fenced, and no bit in the newest set. -/
structure Fn (c : Cl) : Prop where
  f : c.f = true
  n : has (newest c) 1 = false

theorem fn_pub {c : Cl} (hf : c.f = true) {b : Nat} (hb : has b 1 = false) : Fn ⟨c.f, c.s ++ [b], c.r, c.p⟩ := ⟨hf, by rw [newest_add]; exact hb⟩
theorem fn_sync {c : Cl} (h : Fn c) (i : Nat) : Fn (sy1 c i) := ⟨h.f, h.n⟩

theorem fn_ap {c : Cl} {x : Ev} (h : Fn c) (hg : Good c x) (hb : x.k = 1 → has x.b 1 = false) : Fn (ap c x) := by
  unfold ap
  rcases hg with ⟨hk, -, -, -⟩ | ⟨hk, -, -, -⟩ | ⟨hk, -, -, -⟩ | ⟨hk, -, -, -⟩
  · rw [if_pos hk]; exact fn_pub h.f (hb hk)
  · rw [if_neg (by omega), if_pos hk]; exact ⟨h.f, h.n⟩
  · rw [if_neg (by omega), if_neg (by omega), if_pos hk]; exact ⟨h.f, h.n⟩
  · rw [if_neg (by omega), if_neg (by omega), if_neg (by omega)]; exact ⟨h.f, h.n⟩

theorem ap_r {c : Cl} {x : Ev} (hg : Good c x) : (ap c x).r.length = c.r.length := by
  unfold ap
  rcases hg with ⟨hk, -, -, -⟩ | ⟨hk, -, -, -⟩ | ⟨hk, -, -, -⟩ | ⟨hk, -, -, -⟩
  · rw [if_pos hk]
  · rw [if_neg (by omega), if_pos hk]; simp
  · rw [if_neg (by omega), if_neg (by omega), if_pos hk]
  · rw [if_neg (by omega), if_neg (by omega), if_neg (by omega)]; simp

theorem acc_ap {m : Nat} {c : Cl} {x : Ev} (h : Ok m c) (hn : Fn c) (hd : ∀ i, i < c.r.length → acc c i 1 = false) (hg : Good c x) : ∀ i, i < c.r.length → acc (ap c x) i 1 = false := by
  intro i hi
  have hr := h.rb i hi
  have h0 := hd i hi
  unfold ap
  rcases hg with ⟨hk, -, -, -⟩ | ⟨hk, hx, -, -⟩ | ⟨hk, -, -, -⟩ | ⟨hk, hx, -, -⟩
  · rw [if_pos hk]
    show ((rd c.r i).2 && has ((c.s ++ [x.b]).getD (rd c.r i).1 0) 1) = false
    rw [gd_left _ _ _ hr]
    exact h0
  · rw [if_neg (by omega), if_pos hk]
    show ((rd (c.r.set x.i (c.s.length - 1, true)) i).2 && has (c.s.getD (rd (c.r.set x.i (c.s.length - 1, true)) i).1 0) 1) = false
    rw [rd_set _ _ _ _ hx]
    split
    · have h2 : has (c.s.getD (c.s.length - 1) 0) 1 = false := hn.n
      show (true && has (c.s.getD (c.s.length - 1) 0) 1) = false
      rw [h2]
      rfl
    · exact h0
  · rw [if_neg (by omega), if_neg (by omega), if_pos hk]
    exact h0
  · rw [if_neg (by omega), if_neg (by omega), if_neg (by omega), hn.f]
    show ((rd (c.r.set x.i (c.p.getD x.q 0, !true)) i).2 && has (c.s.getD (rd (c.r.set x.i (c.p.getD x.q 0, !true)) i).1 0) 1) = false
    rw [rd_set _ _ _ _ hx]
    split
    · rfl
    · exact h0

theorem ss_ap {m : Nat} {c : Cl} {x : Ev} (h : Ok m c) (hn : Fn c) (hg : Good c x) (hb : x.k = 1 → has x.b 1 = false) (hf : fitB c x = true) : sO (ap c x) = true ∧ sS (ap c x) = sS c ∧ c.s.length ≤ (ap c x).s.length := by
  have so : sO c = true := (so_iff h).2 hn.n
  have so' : sO (ap c x) = true := (so_iff (ok_ap h hg hf)).2 (fn_ap hn hg hb).n
  refine ⟨so', ?_⟩
  rw [so_ss so', so_ss so]
  clear so so'
  unfold ap
  rcases hg with ⟨hk, -, -, -⟩ | ⟨hk, -, -, -⟩ | ⟨hk, -, -, -⟩ | ⟨hk, -, -, -⟩
  · rw [if_pos hk]
    show sn (c.s ++ [x.b]) (c.s ++ [x.b]).length = sn c.s c.s.length ∧ c.s.length ≤ (c.s ++ [x.b]).length
    rw [show (c.s ++ [x.b]).length = c.s.length + 1 by simp]
    refine ⟨?_, by omega⟩
    rw [sn, gd_end, hb hk, if_neg (by simp), sn_left _ _ _ (Nat.le_refl _)]
  · rw [if_neg (by omega), if_pos hk]; exact ⟨rfl, Nat.le_refl _⟩
  · rw [if_neg (by omega), if_neg (by omega), if_pos hk]; exact ⟨rfl, Nat.le_refl _⟩
  · rw [if_neg (by omega), if_neg (by omega), if_neg (by omega)]; exact ⟨rfl, Nat.le_refl _⟩

/-- What holds in the walk of events: the evidence is enough, and the bit is dead. -/
structure St (m : Nat) (l : List En) (c : Cl) : Prop where
  ok : Ok m c
  fn : Fn c
  dead : ∀ i, i < c.r.length → acc c i 1 = false
  fnd : ∀ i, i < c.r.length → fnd c l i = true

theorem st_ap {m : Nat} {l : List En} {c : Cl} {x : Ev} (h : St m l c) (hg : Good c x) (hb : x.k = 1 → has x.b 1 = false) (hf : fitB c x = true) : St (m + 1) l (ap c x) := by
  have hr := ap_r hg
  obtain ⟨s1, s2, s3⟩ := ss_ap h.ok h.fn hg hb hf
  refine ⟨ok_ap h.ok hg hf, fn_ap h.fn hg hb, fun i hi => acc_ap h.ok h.fn h.dead hg i (by omega), fun i hi => ?_⟩
  obtain ⟨j, j1, -, j3, j4, j5, j6⟩ := (fnd_iff c l i).1 (h.fnd i (by omega))
  exact (fnd_iff _ l i).2 ⟨j, j1, s1, j3, j4, by rw [s2]; exact j5, by omega⟩
theorem St.mono {m n : Nat} {l : List En} {c : Cl} (h : St m l c) (hm : m ≤ n) : St n l c := ⟨h.ok.mono hm, h.fn, h.dead, h.fnd⟩
theorem St.dies {m : Nat} {l : List En} {c : Cl} (h : St m l c) : Cl.dead c 1 = true := (dead_iff c 1).2 ⟨h.fn.n, h.dead⟩
theorem St.enough {m : Nat} {l : List En} {c : Cl} (h : St m l c) : Cl.enough c l = true := enough_of h.fnd
theorem st_start {m : Nat} {c : Cl} (h : Ok m c) (hf : Fn c) (he : enough c (ans c c.r.length) = true) : St m (ans c c.r.length) c :=
  ⟨h, hf, ((dead_iff c 1).1 (enough_dead h he).1).2, enough_all he⟩

/-- The event, with the bit taken out of what it publishes. -/
def cut (x : Ev) : Ev := if x.k = 1 then ⟨x.k, x.i, x.q, x.b / 2 * 2⟩ else x
theorem has_cut (b : Nat) (h : b ≤ 3) : has (b / 2 * 2) 1 = false := by
  rcases (by omega : b = 0 ∨ b = 1 ∨ b = 2 ∨ b = 3) with rfl | rfl | rfl | rfl <;> decide
theorem good_cut {c : Cl} {x : Ev} (h : Good c x) : Good c (cut x) ∧ ((cut x).k = 1 → has (cut x).b 1 = false) := by
  unfold cut
  rcases h with ⟨hk, h1, h2, h3⟩ | ⟨hk, h1⟩ | ⟨hk, h1⟩ | ⟨hk, h1⟩
  · rw [if_pos hk]
    exact ⟨.inl ⟨hk, h1, h2, by show x.b / 2 * 2 ≤ 3; omega⟩, fun _ => has_cut _ h3⟩
  · rw [if_neg (by omega)]; exact ⟨.inr (.inl ⟨hk, h1⟩), fun h => by omega⟩
  · rw [if_neg (by omega)]; exact ⟨.inr (.inr (.inl ⟨hk, h1⟩)), fun h => by omega⟩
  · rw [if_neg (by omega)]; exact ⟨.inr (.inr (.inr ⟨hk, h1⟩)), fun h => by omega⟩
theorem bits_cut (b : Nat) (h : b ≤ 3) : bits .andNot .i64 (b : Int) 1 = ((b / 2 * 2 : Nat) : Int) := by
  rcases (by omega : b = 0 ∨ b = 1 ∨ b = 2 ∨ b = 3) with rfl | rfl | rfl | rfl <;> decide
theorem bits_one (b : Nat) (h : b ≤ 3) : bits .and .i64 (b : Int) 1 = if has b 1 then 1 else 0 := by
  rcases (by omega : b = 0 ∨ b = 1 ∨ b = 2 ∨ b = 3) with rfl | rfl | rfl | rfl <;> decide

theorem zc_one : zC.all (·.oneCell') = true := by simp [zC, Value.oneCell']

theorem refapply_x {m B : Nat} {c : Cl} {v : Vl} {x : Ev} {w : World} (h : CL w B c v) (hok : Ok m c) (hg : Good c x) (hm : m ≤ 90) : Calls Try.prog 25 #[.agg #[.bool c.f, .slice v.A1 c.s.length v.c1, .slice v.A2 c.r.length v.c2, .slice v.A3 c.p.length v.c3], .agg #[.int .i64 (x.k : Int), .int .i64 (x.i : Int), .int .i64 (x.q : Int), .int .i64 (x.b : Int)]] w (APost c x w) := refapply_any m B c v x w h hok hm hg

end Go.Proofs.Ytamcjhibdcbdnaa.Cl
