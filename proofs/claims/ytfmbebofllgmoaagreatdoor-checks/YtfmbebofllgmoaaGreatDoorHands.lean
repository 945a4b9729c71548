/-
  PROVED HERE: rerunlaw.handlers copies a list of handlers, with four behind it, and old memory stays.
-/
import Derived.Test.YtfmbebofllgmoaaGreatDoorOps
namespace Go.Proofs.YtfmbebofllgmoaaGreatDoor
open Go.RowKit

/-- A slice value whose n elements are handlers: the i-th has ln i operations f i 0, f i 1, .. -/
def HandsIn (w : World) (v : Value) (n : Nat) (ln : Nat → Nat) (f : Nat → Nat → O3) : Prop :=
  ∃ a c, v = .slice a n c ∧ n * 24 ≤ 140737488351232 ∧ (n = 0 ∨ ∃ b off, a = some ⟨b, off, none⟩ ∧ ∀ i, i < n → ∃ vi, w.cell? ⟨b, off + i, none⟩ = some vi ∧ OpsIn w vi (ln i) (f i))

theorem handsIn_below {w w' : World} (h : Below w.heap.size w w') {v : Value} {n : Nat} {ln : Nat → Nat} {f : Nat → Nat → O3} (hx : HandsIn w v n ln f) : HandsIn w' v n ln f := by
  obtain ⟨a, c, hv, hn, hc⟩ := hx
  refine ⟨a, c, hv, hn, ?_⟩
  rcases hc with hc | ⟨b, off, ha, hc⟩
  · exact .inl hc
  · refine .inr ⟨b, off, ha, fun i hi => ?_⟩
    obtain ⟨vi, h1, h2⟩ := hc i hi
    exact ⟨vi, (h.cell (p := ⟨b, _, none⟩) (World.block_lt_of_cell? w _ h1)).trans h1, opsIn_below h h2⟩

theorem opAt_lt {w : World} {b o : Nat} {x : O3} (h : OpAt w b o x) : b < w.heap.size := World.block_lt_of_cell? w ⟨b, o, none⟩ h.1
theorem opAt_setCell {w : World} {b o : Nat} {x : O3} (h : OpAt w b o x) {a : Addr} (hne : a.block ≠ b) (v : Value) : OpAt (w.setCell a v) b o x := by
  have e : ∀ o, a ≠ ⟨b, o, none⟩ := fun o he => hne (by rw [he])
  exact ⟨(World.cell?_setCell_other _ _ _ _ (e _)).trans h.1, (World.cell?_setCell_other _ _ _ _ (e _)).trans h.2.1, (World.cell?_setCell_other _ _ _ _ (e _)).trans h.2.2⟩
theorem Writable.below {w w' : World} {B g m : Nat} (h : Writable w g m) (hb : Below B w w') (hg : g < B) : Writable w' g m := by
  intro k hk
  rw [hb.cell (p := ⟨g, k, none⟩) hg, hb.frozen (p := ⟨g, k, none⟩) hg]
  exact h k hk
theorem opAt_below' {w w' : World} {B b o : Nat} {x : O3} (h : Below B w w') (hx : OpAt w b o x) (hb : b < B) : OpAt w' b o x :=
  ⟨(h.cell (p := ⟨b, _, none⟩) hb).trans hx.1, (h.cell (p := ⟨b, _, none⟩) hb).trans hx.2.1, (h.cell (p := ⟨b, _, none⟩) hb).trans hx.2.2⟩
theorem OwnOps.below {w w' : World} {B g m : Nat} {f : Nat → O3} (h : OwnOps w g m f) (hb : Below B w w') (hg : g < B) : OwnOps w' g m f :=
  ⟨h.there.below hb hg, fun i hi => opAt_below' hb (h.cells i hi) hg⟩
theorem OwnOps.setCell {w : World} {g m : Nat} {f : Nat → O3} (h : OwnOps w g m f) {a : Addr} (hne : a.block ≠ g) (v : Value) : OwnOps (w.setCell a v) g m f :=
  ⟨h.there.setCell _ _, fun i hi => opAt_setCell (h.cells i hi) hne v⟩

/-- The copy of n handlers in memory, as far as it is made (k of n + 4): block g, the handlers' own blocks G i. -/
structure OwnHands (w : World) (g n k : Nat) (ln : Nat → Nat) (f : Nat → Nat → O3) (G : Nat → Nat) : Prop where
  there : Writable w g (n + 4)
  heads : ∀ i, i < k → i < n → w.cell? ⟨g, i, none⟩ = some (.slice (some ⟨G i, 0, none⟩) (ln i) (ln i + 4))
  pads : ∀ i, i < k → n ≤ i → w.cell? ⟨g, i, none⟩ = some (.slice (some ⟨G i, 0, none⟩) 1 1)
  far : ∀ i, i < k → g < G i ∧ G i < w.heap.size
  own : ∀ i, i < k → i < n → OwnOps w (G i) (ln i + 4) (padF (ln i) (f i))
  pad : ∀ i, i < k → n ≤ i → OpAt w (G i) 0 (9, 0, 0)

theorem OwnHands.below {w w' : World} {B g n k : Nat} {ln : Nat → Nat} {f : Nat → Nat → O3} {G : Nat → Nat} (h : OwnHands w g n k ln f G) (hb : Below B w w') (hg : g < B) (hG : ∀ i, i < k → G i < B) : OwnHands w' g n k ln f G :=
  ⟨h.there.below hb hg, fun i hi hn => (hb.cell (p := ⟨g, _, none⟩) hg).trans (h.heads i hi hn), fun i hi hn => (hb.cell (p := ⟨g, _, none⟩) hg).trans (h.pads i hi hn),
   fun i hi => ⟨(h.far i hi).1, Nat.lt_of_lt_of_le (h.far i hi).2 hb.size⟩, fun i hi hn => (h.own i hi hn).below hb (hG i hi), fun i hi hn => opAt_below' hb (h.pad i hi hn) (hG i hi)⟩

/-- One more header is stored: a handler's. -/
theorem OwnHands.step {w : World} {g n k q : Nat} {ln : Nat → Nat} {f : Nat → Nat → O3} {G : Nat → Nat} (h : OwnHands w g n k ln f G) (hk : k < n) (hq : g < q ∧ q < w.heap.size) (ho : OwnOps w q (ln k + 4) (padF (ln k) (f k))) :
    OwnHands (w.setCell ⟨g, k, none⟩ (.slice (some ⟨q, 0, none⟩) (ln k) (ln k + 4))) g n (k + 1) ln f (fun i => if i = k then q else G i) := by
  refine ⟨h.there.setCell _ _, ?_, ?_, ?_, ?_, ?_⟩
  · intro i hi hn
    by_cases e : i = k
    · subst e
      simp only [if_true]
      exact World.cell?_setCell_same' _ _ _ (h.there _ (by omega)).1
    · simp only [e, if_false]
      rw [World.cell?_setCell_other _ _ _ _ (by intro he; injection he; omega)]
      exact h.heads i (by omega) hn
  · intro i hi hn; omega
  · intro i hi
    by_cases e : i = k
    · simp only [e, if_true]; simpa using hq
    · simp only [e, if_false]; simpa using h.far i (by omega)
  · intro i hi hn
    by_cases e : i = k
    · subst e
      simp only [if_true]
      exact ho.setCell (by simp; omega) _
    · simp only [e, if_false]
      exact (h.own i (by omega) hn).setCell (by have := (h.far i (by omega)).1; simp; omega) _
  · intro i hi hn; omega

/-- One more header is stored: one of the four behind them. -/
theorem OwnHands.stepPad {w : World} {g n k q : Nat} {ln : Nat → Nat} {f : Nat → Nat → O3} {G : Nat → Nat} (h : OwnHands w g n k ln f G) (hk : n ≤ k) (hk' : k < n + 4) (hq : g < q ∧ q < w.heap.size) (ho : OpAt w q 0 (9, 0, 0)) :
    OwnHands (w.setCell ⟨g, k, none⟩ (.slice (some ⟨q, 0, none⟩) 1 1)) g n (k + 1) ln f (fun i => if i = k then q else G i) := by
  refine ⟨h.there.setCell _ _, ?_, ?_, ?_, ?_, ?_⟩
  · intro i hi hn
    have e : i ≠ k := by omega
    simp only [e, if_false]
    rw [World.cell?_setCell_other _ _ _ _ (by intro he; injection he; omega)]
    exact h.heads i (by omega) hn
  · intro i hi hn
    by_cases e : i = k
    · subst e
      simp only [if_true]
      exact World.cell?_setCell_same' _ _ _ (h.there _ (by omega)).1
    · simp only [e, if_false]
      rw [World.cell?_setCell_other _ _ _ _ (by intro he; injection he; omega)]
      exact h.pads i (by omega) hn
  · intro i hi
    by_cases e : i = k
    · simp only [e, if_true]; simpa using hq
    · simp only [e, if_false]; simpa using h.far i (by omega)
  · intro i hi hn
    have e : i ≠ k := by omega
    simp only [e, if_false]
    exact (h.own i (by omega) hn).setCell (by have := (h.far i (by omega)).1; simp; omega) _
  · intro i hi hn
    by_cases e : i = k
    · subst e
      simp only [if_true]
      exact opAt_setCell ho (by simp; omega) _
    · simp only [e, if_false]
      exact opAt_setCell (h.pad i (by omega) hn) (by have := (h.far i (by omega)).1; simp; omega) _

theorem info31 : (Tryz.prog.info? 31).map (fun i => (i.zero, i.size, i.bytes)) = some (some (.slice none 0 0), 1, 24) := by kernel_rfl

theorem make_hands (n : Nat) (hn : n * 24 ≤ 140737488351232) (w : World) : (Instr.makeSlice 25 (.int .i64 ((n : Int) + 4)) (.int .i64 ((n : Int) + 4))).run Tryz.prog w =
    .ok (.slice (some ⟨w.heap.size, 0, none⟩) (n + 4) (n + 4)) (w.alloc (.cells (madeCells #[.slice none 0 0] (n + 4)) 31)) := by
  have h := info31
  cases hi : Tryz.prog.info? 31 with
  | none => rw [hi] at h; cases h
  | some i =>
    rw [hi] at h
    simp only [Option.map_some, Option.some.injEq, Prod.mk.injEq] at h
    obtain ⟨hz, hs, hb⟩ := h
    have := run_make (P := Tryz.prog) w 25 31 i _ Tryz.underlying25 hi hz .i64 .i64 ((n : Int) + 4) ((n : Int) + 4) (by omega) (by omega) (by rw [hb]; omega) (by omega)
    rw [this, hs]
    have e : ((n : Int) + 4).toNat = n + 4 := by omega
    rw [e, Nat.mul_one]
    rfl

set_option maxHeartbeats 400000 in
theorem handlers_any (v : Value) (n : Nat) (ln : Nat → Nat) (f : Nat → Nat → O3) (w : World) (hv : HandsIn w v n ln f) :
    Calls Tryz.prog 66 #[v] w fun e w' => e = .returned (.slice (some ⟨w.heap.size, 0, none⟩) n (n + 4)) ∧ Below w.heap.size w w' ∧ w.heap.size < w'.heap.size ∧ ∃ G, OwnHands w' w.heap.size n (n + 4) ln f G := by
  obtain ⟨a, c, rfl, hn, hf⟩ := hv
  have hmk := make_hands n hn
  go_enter Tryz.func66, Tryz.ntmps66
  go_wp2
  go_loopw [4] (fun i wr => ∃ k : Nat, k ≤ n + 4 ∧ i = .int .i64 k ∧ Below w.heap.size w wr ∧ w.heap.size < wr.heap.size ∧ ∃ G, OwnHands wr w.heap.size n k ln f G) (fun i _ => n + 4 - (intOf i).toNat)
  case atStart =>
    exact ⟨0, Nat.zero_le _, rfl, (Below.refl _ _).alloc (Nat.le_refl _) _, by simp, fun _ => 0,
      ⟨writable_made _ _ _ _, fun i hi => absurd hi (Nat.not_lt_zero _), fun i hi => absurd hi (Nat.not_lt_zero _), fun i hi => absurd hi (Nat.not_lt_zero _), fun i hi => absurd hi (Nat.not_lt_zero _), fun i hi => absurd hi (Nat.not_lt_zero _)⟩⟩
  case round =>
    obtain ⟨k, hk, rfl, hb, hsz, G, hG⟩ := hrel
    by_cases hlt : k < n + 4
    · obtain ⟨t0, z0⟩ := hG.there k (by omega)
      obtain ⟨v0, c0⟩ := Option.isSome_iff_exists.1 t0
      clear t0
      have HF := hide hf
      clear hf
      by_cases hkn : k < n
      · rcases unhide HF with hz | ⟨b, off, rfl, hf⟩
        · omega
        obtain ⟨vi, g0, gi⟩ := hf k hkn
        have hlt' : b < w.heap.size := World.block_lt_of_cell? w _ g0
        rw [← hb.cell (p := ⟨b, _, none⟩) hlt'] at g0
        have hi : OpsIn wr vi (ln k) (f k) := opsIn_below hb gi
        clear hf
        go_wp2_with fail
        refine (ops_any vi (ln k) (f k) wr hi).mono ?_
        rintro e w1 ⟨rfl, hb1, hs1, ho1⟩
        have c1 : w1.cell? ⟨w.heap.size, k, none⟩ = some v0 := (hb1.cell (p := ⟨_, _, none⟩) hsz).trans c0
        have z1 : w1.frozen? ⟨w.heap.size, k, none⟩ = false := (hb1.frozen (p := ⟨_, _, none⟩) hsz).trans z0
        have hG1 := hG.below hb1 hsz (fun i hi => (hG.far i hi).2)
        have hb2 := hb.trans (hb1.mono (Nat.le_of_lt hsz))
        have hs2 : w.heap.size < w1.heap.size := by omega
        go_wp2
        go_roundw
        case rel =>
          exact ⟨k + 1, by omega, by go_num, hb2.setCell (Nat.le_refl _) _, by simpa using hs2, _, hG1.step hkn ⟨hsz, hs1⟩ ho1⟩
        case measure => simp [intOf]; omega
      · go_wp2
        go_roundw
        case rel =>
          have hb2 := hb.alloc (Nat.le_of_lt hsz) (.cells #[.int .i64 9, .int .i64 0, .int .i64 0] 70)
          have hb1 : Below wr.heap.size wr (wr.alloc (.cells #[.int .i64 9, .int .i64 0, .int .i64 0] 70)) := (Below.refl _ _).alloc (Nat.le_refl _) _
          have hG1 := hG.below hb1 hsz (fun i hi => (hG.far i hi).2)
          rw [← World.setCell_alloc_past _ _ _ _ hsz]
          refine ⟨k + 1, by omega, by go_num, hb2.setCell (Nat.le_refl _) _, by simp; omega, _, hG1.stepPad (by omega) hlt ⟨hsz, by simp⟩ ⟨by simp, by simp, by simp⟩⟩
        case measure => simp [intOf]; omega
    · go_wp2
      go_ret
      obtain rfl : k = n + 4 := by omega
      exact ⟨rfl, hb, hsz, G, hG⟩
end Go.Proofs.YtfmbebofllgmoaaGreatDoor
