import Derived.Test.YtidpkkekoldkgaaFpChunk
import Derived.Laws.CopyOwn
import Derived.RangeFuncFrom
namespace Go.Proofs.Ytidpkkekoldkgaa.Fp
open Go.RowKit Go.Shelf
open Go.Proofs.Ytidpkkekoldkgaa.Ent (Bytes)
open Go.Proofs.Ytidpkkekoldkgaa.Tp
set_option linter.unusedVariables false
attribute [local go_sem] Oper.semAt_some

set_option maxRecDepth 100000 in
set_option maxHeartbeats 1000000 in
/-- No bytes: no round. -/
theorem chunk0_in (F : Fence) (n : Nat) (h7 : F.fn 39) (hro : F.round = none) (l Bs Bn cap : Nat) (A : Option Addr) (J : List Nat → World → Prop) (W : World)
    (hBs : W.cell? ⟨Bs, 0, none⟩ = some (.slice A 0 cap)) (hBn : W.cell? ⟨Bn, 0, none⟩ = some (.int .i64 8)) (h0 : J [] W) :
    CallsIn F n Try.prog 39 #[.func (.yield l) #[] #[], .pointer (some ⟨Bs, 0, none⟩), .pointer (some ⟨Bn, 0, none⟩)] W fun e W' => (∃ v, e = .returned v) ∧ J [] W' := by
  refine callsIn_of_wp Try.func39 rfl h7 ?_ hro
  simp only [Try.ntmps39, List.size_toArray, List.length_cons, List.length_nil, Nat.reduceAdd, Nat.reduceSub, Array.replicate_succ, Array.replicate_zero, List.push_toArray, List.append_toArray, List.nil_append, List.cons_append]
  gi_wp2
  gi_loopw [4, 5] (fun i _ wr => i = .int .i64 0 ∧ J [] wr ∧ wr.cell? ⟨Bs, 0, none⟩ = some (.slice A 0 cap)) (fun _ _ _ => 0)
  case atStart => exact ⟨rfl, h0, hBs⟩
  case round =>
    obtain ⟨rfl, hJs, c1⟩ := hrel
    gi_wp2
    go_end0
    exact ⟨⟨_, rfl⟩, hJs⟩

set_option maxHeartbeats 1000000 in
theorem chunk_in (F : Fence) (n : Nat) (h5 : F.fn 35) (hro : F.round = none) (a : Option Addr) (len cap : Nat) (w : World) :
    CallsIn F n Try.prog 35 #[.slice a len cap, .int .i64 8] w fun e w' => e = .returned (.func (.func 39) #[] #[.pointer (some ⟨w.heap.size, 0, none⟩), .pointer (some ⟨w.heap.size + 1, 0, none⟩)]) ∧ w' = (w.alloc (.cells #[.slice a len cap] 27)).alloc (.cells #[.int .i64 8] 3) := by
  refine callsIn_of_wp Try.func35 rfl h5 ?_ hro
  simp only [Try.ntmps35, List.size_toArray, List.length_cons, List.length_nil, Nat.reduceAdd, Nat.reduceSub, Array.replicate_succ, Array.replicate_zero, List.push_toArray, List.append_toArray, List.nil_append, List.cons_append]
  gi_wp2
  go_ret
  exact ⟨rfl, rfl⟩

/-- slices.Chunk(s, 8): the chunks, in order; every slice of few bytes, nil or not. -/
theorem chunk_stops (F : Fence) (n : Nat) (h7 : F.fn 39) (hro : F.round = none) (hn : 1 ≤ n) (Bs Bn b off len cap : Nat) (a : Option Addr) (hlen : len ≤ 65536) (hcap : len ≤ cap) (w : World) (hBs0 : Bs < w.heap.size) (hBn0 : Bn < w.heap.size)
    (ha : 0 < len → a = some ⟨b, off, none⟩) (hBs : w.cell? ⟨Bs, 0, none⟩ = some (.slice a len cap)) (hBn : w.cell? ⟨Bn, 0, none⟩ = some (.int .i64 8)) :
    SeqStopsK F n Try.prog 39 #[.pointer (some ⟨Bs, 0, none⟩), .pointer (some ⟨Bn, 0, none⟩)] (fun j : Nat => #[chunkV b off len j]) (KB Bs Bn) (fun ys => ys = List.range (numC len)) (fun _ => True) (numC len) w := fun l J Jx W hW hJ _ hY h0 => by
  have c1 := (hW.cell (p := ⟨Bs, 0, none⟩) hBs0).trans hBs
  have c2 := (hW.cell (p := ⟨Bn, 0, none⟩) hBn0).trans hBn
  by_cases h : 0 < len
  · obtain rfl := ha h
    exact (chunk1_in F n h7 hro hn l Bs Bn b off len cap hlen hcap J Jx hY W hJ c1 c2 h0)
  · obtain rfl : len = 0 := by omega
    exact (chunk0_in F n h7 hro l Bs Bn cap a J W c1 c2 h0).mono fun e W' ⟨he, hj⟩ => ⟨he, .inl ⟨[], rfl, hj⟩⟩

/-- The fingerprint: the chunks, one after the other. -/
def chunkB (bs : List Nat) (j : Nat) : List Nat := (bs.drop (8 * j)).take 8
def h0I (key kind : Int) (len : Nat) : Int := mixI (bits .xor .u64 (mixI (bits .xor .u64 (mixI key) (IntKind.u64.wrap kind))) (len : Int))
def stepI (bs : List Nat) (h : Int) (j : Nat) : Int := IntKind.u64.wrap (mixI (bits .xor .u64 h (wTo (chunkB bs j) (min 8 (bs.length - 8 * j)))) + 11400714819323198485)
def hOf (key kind : Int) (bs : List Nat) (xs : List Nat) : Int := xs.foldl (stepI bs) (h0I key kind bs.length)
theorem hOf_snoc (key kind : Int) (bs xs : List Nat) (j : Nat) : hOf key kind bs (xs ++ [j]) = stepI bs (hOf key kind bs xs) j := by simp [hOf]
def ofI (key kind : Int) (bs : List Nat) : Int := if 65536 < bs.length then 0 else hOf key kind bs (List.range (numC bs.length))

/-- The j-th chunk, read as a slice. -/
theorem chunk_bytes {w : World} {A : Option Addr} {b off len : Nat} {bs : List Nat} (ha : 0 < len → A = some ⟨b, off, none⟩) (h : Bytes w A len bs) (j : Nat) : Bytes w (some ⟨b, off + 8 * j, none⟩) (min 8 (len - 8 * j)) (chunkB bs j) := by
  obtain ⟨h1, h2, h3, h4⟩ := h
  have hl : (chunkB bs j).length = min 8 (len - 8 * j) := by simp [chunkB, h1]
  refine ⟨hl, fun x hx => h2 x (List.mem_of_mem_drop (List.mem_of_mem_take hx)), by omega, fun h0 => ?_⟩
  obtain ⟨b', off', e, hb, hc⟩ := h4 (by omega)
  rw [ha (by omega)] at e
  cases e
  refine ⟨b, off + 8 * j, rfl, hb, fun i hi => ?_⟩
  have := hc (8 * j + i) (by omega)
  rw [← Nat.add_assoc] at this
  rw [this]
  have e2 : (chunkB bs j).getD i 0 = bs.getD (8 * j + i) 0 := by
    have hi8 : i < 8 := by omega
    simp [chunkB, List.getD_eq_getElem?_getD, hi8, List.getElem?_drop]
  rw [e2]

theorem bytes_drew {w : World} {A : Option Addr} {n : Nat} {bs : List Nat} (h : Bytes w A n bs) : Bytes w.drew A n bs := h
theorem kb_t {Bs Bn : Nat} {A B C : World} (h : KB Bs Bn A B) (k : KB Bs Bn B C) : KB Bs Bn A C := ⟨k.1.trans h.1, k.2.trans h.2⟩
theorem kb_b {Bs Bn : Nat} {w : World} (h1 : Bs < w.heap.size) (h2 : Bn < w.heap.size) (W : World) (l : Nat) (o o' : Obj) (hl : w.heap.size ≤ l) (_ : W.heap[l]? = some o) (_ : o.isCells = false) (_ : o.isWalk = false) : KB Bs Bn W (W.putObj l o') :=
  ⟨World.cell?_of_block (w := W) (World.putObj_heap_other (show Bs ≠ l by omega)), World.cell?_of_block (w := W) (World.putObj_heap_other (show Bn ≠ l by omega))⟩

/-- Bytes below n₀ are kept by whatever keeps the blocks below it. -/
def BytesAt (n₀ : Nat) (W : World) (A : Option Addr) (len : Nat) (bs : List Nat) : Prop := Bytes W A len bs ∧ ∀ b off, 0 < len → A = some ⟨b, off, none⟩ → b < n₀

theorem BytesAt.kept {n₀ : Nat} {W W' : World} {A : Option Addr} {len : Nat} {bs : List Nat} (h : BytesAt n₀ W A len bs) (hs : n₀ ≤ W.heap.size) (hb : Below n₀ W W') : BytesAt n₀ W' A len bs := by
  obtain ⟨⟨h1, h2, h3, h4⟩, h5⟩ := h
  refine ⟨⟨h1, h2, h3, fun h0 => ?_⟩, h5⟩
  obtain ⟨b, off, e, hlt, hc⟩ := h4 h0
  have hbn := h5 b off h0 e
  exact ⟨b, off, e, Nat.lt_of_lt_of_le hlt hb.size, fun j hj => (hb.cell (p := ⟨b, off + j, none⟩) hbn).trans (hc j hj)⟩

theorem box_s (w : World) (x : Value) (A : Option Addr) (len cap : Nat) (y : Value) : (((w.alloc (.cells #[x] 40)).alloc (.cells #[.slice A len cap] 27)).alloc (.cells #[y] 3)).cell? ⟨w.heap.size + 1, 0, none⟩ = some (.slice A len cap) := by
  rw [World.cell?_alloc_lt _ _ _ (by simp)]
  rw [cell_of_row _ _ 0 _ _ _ (heap_alloc2_new w (.cells #[x] 40) (.cells #[.slice A len cap] 27))]
  rfl
theorem box_n (w : World) (x : Value) (A : Option Addr) (len cap : Nat) (y : Value) : (((w.alloc (.cells #[x] 40)).alloc (.cells #[.slice A len cap] 27)).alloc (.cells #[y] 3)).cell? ⟨w.heap.size + 1 + 1, 0, none⟩ = some y := by
  have h := heap_alloc_new ((w.alloc (.cells #[x] 40)).alloc (.cells #[.slice A len cap] 27)) (.cells #[y] 3)
  rw [show ((w.alloc (.cells #[x] 40)).alloc (.cells #[.slice A len cap] 27)).heap.size = w.heap.size + 1 + 1 from by simp] at h
  rw [cell_of_row _ _ 0 _ _ _ h]
  rfl

set_option maxRecDepth 100000 in
set_option maxHeartbeats 2000000 in
theorem of_in (F : Fence) (n : Nat) (h26 : F.fn 26) (h28 : F.fn 28) (h35 : F.fn 35) (h36 : F.fn 36) (h39 : F.fn 39) (hro : F.round = none) (hn : 4 ≤ n) (key kind : Int) (A : Option Addr) (len cap : Nat) (bs : List Nat) (w : World) (h : Bytes w A len bs) (hcap : len ≤ cap) (hl : len ≤ 65536)
    (hmix : ∀ (x : Int) (m : Nat) (w : World), CallsIn F m Try.prog 28 #[.int .u64 x] w fun e w' => e = .returned (.int .u64 (mixI x)) ∧ w = w')
    (hword : ∀ (A : Option Addr) (n c m : Nat) (bs : List Nat) (w : World), Bytes w A n bs → n ≤ 8 → CallsIn F m Try.prog 36 #[.slice A n c] w fun e w' => e = .returned (.int .u64 (wTo bs n)) ∧ w = w') :
    CallsIn F n Try.prog 26 #[.int .u64 key, .int .i64 kind, .slice A len cap] w fun e w' => e = .returned (.int .u64 (hOf key kind bs (List.range (numC len)))) ∧ Below w.heap.size w w' := by
  have h1 : 1 ≤ n := by omega
  refine callsIn_of_wp_marks Try.func26 rfl h26 ?_ hro
  simp only [Try.ntmps26, List.size_toArray, List.length_cons, List.length_nil, Nat.reduceAdd, Nat.reduceSub, Array.replicate_succ, Array.replicate_zero, List.push_toArray, List.append_toArray, List.nil_append, List.cons_append]
  have HMIX := Lib.hid hmix
  have HWORD := Lib.hid hword
  have HB := Lib.hid h
  clear hmix hword h
  gi_wp2_with (first
    | (gi_at_call 28; refine (HMIX.out _ _ _).mono ?_; rintro e w' ⟨rfl, rfl⟩)
    | (gi_at_call 35; refine (chunk_in F (n - 1) h35 hro _ _ _ _).mono ?_; rintro e w' ⟨rfl, rfl⟩))
  obtain ⟨b, off, ha, hbw⟩ : ∃ b off, (0 < len → A = some ⟨b, off, none⟩) ∧ (0 < len → b < w.heap.size) := by
    by_cases h0 : 0 < len
    · obtain ⟨b, off, e, hb, _⟩ := HB.out.2.2.2 h0
      exact ⟨b, off, fun _ => e, fun _ => hb⟩
    · exact ⟨0, 0, fun h => absurd h h0, fun h => absurd h h0⟩
  have hlen : bs.length = len := HB.out.1
  have hba : BytesAt w.heap.size w A len bs := ⟨HB.out, fun b' off' h0 e => by rw [ha h0] at e; cases e; exact hbw h0⟩
  have hbelow : Below w.heap.size w (((w.alloc (.cells #[.int .u64 (h0I key kind len)] 40)).alloc (.cells #[.slice A len cap] 27)).alloc (.cells #[.int .i64 8] 3)) := (((Below.refl _ w).alloc (Nat.le_refl _) _).alloc (by simp) _).alloc (by simp; omega) _
  have hbox : Boxed (((w.alloc (.cells #[.int .u64 (h0I key kind len)] 40)).alloc (.cells #[.slice A len cap] 27)).alloc (.cells #[.int .i64 8] 3)) w.heap.size 40 (.int .u64 (h0I key kind len)) := ((Boxed.new w 40 _).alloc _).alloc _
  refine wpIn_rangeFunc_ownF hro h1 (gf := 39) (lb := #[.pointer (some ⟨w.heap.size + 1, 0, none⟩), .pointer (some ⟨w.heap.size + 1 + 1, 0, none⟩)]) rfl h39 (enters_of Try.func39 (by kernel_rfl) rfl)
    (chunk_stops F (n - 1) h39 hro (by omega) (w.heap.size + 1) (w.heap.size + 1 + 1) b off len cap A hl hcap (((w.alloc (.cells #[.int .u64 (h0I key kind len)] 40)).alloc (.cells #[.slice A len cap] 27)).alloc (.cells #[.int .i64 8] 3)) (by simp) (by simp) ha (box_s w _ _ _ _ _) (box_n w _ _ _ _ _))
    kb_t (kb_b (by simp) (by simp)) (Below.refl _ _) (fun _ => rfl)
    (fun pre W => Boxed W w.heap.size 40 (.int .u64 (hOf key kind bs pre)) ∧ Below w.heap.size w W)
    (fun _ _ _ => False)
    (OwnFrom.and (Own.from (boxed_own _ _ _) _) (ownFrom_below (Nat.le_refl _) (by simp; omega)))
    (fun _ _ _ _ _ hs _ _ => hs)
    ⟨by rw [show hOf key kind bs [] = h0I key kind len from by rw [← hlen]; rfl]; exact hbox, hbelow⟩
    (fun x => { tmps := #[.int .u64 key, .int .i64 kind, .slice A len cap, undef, undef, undef, .int .u64 0, .pointer (some ⟨w.heap.size, 0, none⟩), chunkV b off len x,
      .slice A len cap, .int .i64 (len : Int), .bool (decide ((65536 : Int) < (len : Int))), .int .u64 key, .int .u64 (mixI key), .int .u64 (mixI key), .int .i64 kind, .int .u64 (IntKind.u64.wrap kind),
      .int .u64 (bits .xor .u64 (mixI key) (IntKind.u64.wrap kind)), .int .u64 (mixI (bits .xor .u64 (mixI key) (IntKind.u64.wrap kind))), .int .u64 (mixI (bits .xor .u64 (mixI key) (IntKind.u64.wrap kind))),
      .slice A len cap, .int .i64 (len : Int), .int .u64 (len : Int), .int .u64 (bits .xor .u64 (mixI (bits .xor .u64 (mixI key) (IntKind.u64.wrap kind))) (len : Int)), .int .u64 (h0I key kind len),
      .slice A len cap, .func (.func 39) #[] #[.pointer (some ⟨w.heap.size + 1, 0, none⟩), .pointer (some ⟨w.heap.size + 1 + 1, 0, none⟩)], chunkV b off len x, undef, undef, undef, undef, undef, undef, undef], defers := [] }) ?assign ?body ?done ?stop
  case assign =>
    intro l x W K hK
    gi_wp2
    exact hK
  case body =>
    rintro l pre x W ⟨hbx, hbl⟩ _
    have hc := hbx.cell
    have hf := hbx.frozen
    have hby := chunk_bytes ha (hba.kept (Nat.le_refl _) hbl).1 x
    have HBY := Lib.hid (bytes_drew hby)
    have HBX := Lib.hid hbx
    have HBL := Lib.hid hbl
    have hn1 : 1 ≤ n - 1 - 1 := by omega
    have hsn := hOf_snoc key kind bs pre x
    unfold stepI at hsn
    rw [hlen] at hsn
    have HSN := Lib.hid hsn
    clear hby hbx hbl hbox hbelow hba hsn ha
    generalize hOf key kind bs pre = S at *
    have hmx : Try.prog.follows .mixedOrders = true := by kernel_rfl
    gi_wp2
    gi_region_with_o (first
      | (gi_at_call 36; refine (CallsIn.inRound l (HWORD.out (some ⟨b, off + 8 * x, none⟩) (min 8 (len - 8 * x)) (min 8 (len - 8 * x)) _ (chunkB bs x) _ HBY.out (Nat.min_le_left _ _))).mono ?_; rintro e w' ⟨rfl, rfl⟩)
      | (gi_at_call 28; refine (CallsIn.inRound l (HMIX.out _ _ _)).mono ?_; rintro e w' ⟨rfl, rfl⟩))
    all_goals gi_wp2
    all_goals (try go_bits)
    all_goals exact ⟨(KeepsOthers.setCell _ _ _).trans (KeepsOthers.drew _), ⟨World.cell?_of_block (w := W) (Below.heap_setCell W _ _ _ (by simp)), World.cell?_of_block (w := W) (Below.heap_setCell W _ _ _ (by simp; omega))⟩, by rw [HSN.out]; exact HBX.out.set _, (HBL.out.setCell (p := ⟨w.heap.size, 0, none⟩) (Nat.le_refl _) _).drew⟩
  case done =>
    rintro D ys W hD rfl ⟨hbx, hbl⟩ hK
    have hc := hbx.cell
    gi_wp2
    refine ⟨by simp, .inl ⟨_, _, rfl, run_takeDeferred hK, ?_⟩⟩
    exact ⟨_, results_tmp rfl _ _ _, rfl, hbl.trans (belowK_b (w := w) (Nat.le_refl _) W D _ _ (by simp at hD; omega) hK rfl rfl)⟩
  case stop =>
    rintro D c pre W _ _ h _
    exact h.elim

/-- The plain contract. -/
theorem of_any (key kind : Int) (A : Option Addr) (len cap : Nat) (bs : List Nat) (w : World) (h : Bytes w A len bs) (hcap : len ≤ cap) :
    Calls Try.prog 26 #[.int .u64 key, .int .i64 kind, .slice A len cap] w fun e w' => e = .returned (.int .u64 (ofI key kind bs)) ∧ Below w.heap.size w w' := by
  have hlen : bs.length = len := h.1
  by_cases hl : len ≤ 65536
  · have e : ofI key kind bs = hOf key kind bs (List.range (numC len)) := by
      unfold ofI
      rw [if_neg (by omega), hlen]
    rw [e]
    refine callsIn_wide.1 (of_in Fence.wide 4 trivial trivial trivial trivial trivial rfl (by omega) key kind A len cap bs w h hcap hl (fun x m w => ?_) (fun A n c m bs w hb hn => ?_))
    · exact callsIn_wide.2 (mix_any x w)
    · exact callsIn_wide.2 (word_any A n c bs w hb hn)
  · have e : ofI key kind bs = 0 := if_pos (by omega)
    have E := Lib.hid e
    have hmax := h.2.2.1
    clear h e hcap
    have hgt : (65536 : Int) < (len : Int) := by omega
    go_enter Try.func26, Try.ntmps26
    go_wp2
    go_ret
    exact ⟨by rw [E.out]; rfl, Below.refl _ _⟩
end Go.Proofs.Ytidpkkekoldkgaa.Fp
