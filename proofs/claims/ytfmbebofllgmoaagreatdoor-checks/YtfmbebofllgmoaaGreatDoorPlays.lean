/-
  PROVED HERE: one step of kind KCheck of a script is as the document says.
-/
import Derived.Test.YtfmbebofllgmoaaGreatDoorProgcheck
namespace Go.Proofs.YtfmbebofllgmoaaGreatDoor
open Go.RowKit

theorem OwnOps.opsIn {w : World} {g n : Nat} {f : Nat → O3} (h : OwnOps w g (n + 4) (padF n f)) (hn : n * 24 ≤ 140737488351232) : OpsIn w (.slice (some ⟨g, 0, none⟩) n (n + 4)) n f := by
  refine ⟨_, _, rfl, hn, .inr ⟨g, 0, rfl, fun i hi => ?_⟩⟩
  have := h.cells i (by omega)
  rw [Nat.zero_add]
  simpa [padF, hi] using this
theorem OwnHands.handsIn {w : World} {g n : Nat} {ln : Nat → Nat} {f : Nat → Nat → O3} {G : Nat → Nat} (h : OwnHands w g n (n + 4) ln f G) (hn : n * 24 ≤ 140737488351232) (hl : ∀ i, i < n → ln i * 24 ≤ 140737488351232) :
    HandsIn w (.slice (some ⟨g, 0, none⟩) n (n + 4)) n ln f := by
  refine ⟨_, _, rfl, hn, .inr ⟨g, 0, rfl, fun i hi => ⟨_, ?_, (h.own i (by omega) hi).opsIn (hl i hi)⟩⟩⟩
  rw [Nat.zero_add]
  exact h.heads i (by omega) hi

set_option maxHeartbeats 1000000 in
/-- One step of kind KCheck. -/
theorem plays_check (bk : Nat) (v1 v2 v3 y4 y5 y6 y7 y8 y9 : Value) (ns nt nf : Nat) (s : Nat → O3) (tl fl : Nat → Nat) (t f : Nat → Nat → O3) (w : World) (ht : TabIn w) (h1 : OpsIn w v1 ns s) (h2 : HandsIn w v2 nt tl t) (h3 : HandsIn w v3 nf fl f) :
    Calls Tryz.prog 23 #[.pointer (some ⟨bk, 0, none⟩), .agg #[.int .i64 1, v1, v2, v3, y4, y5, y6, y7, y8, y9]] w fun e w' => e = .returned (.bool true) ∧ Below w.heap.size w w' := by
  have n1 := opsIn_len h1
  have n2 := handsIn_len h2
  have n3 := handsIn_len h3
  have e2 := handsIn_each h2
  have e3 := handsIn_each h3
  obtain ⟨W0, hW⟩ : ∃ W0, W0 = w.alloc (.cells #[.int .i64 1, v1, v2, v3, y4, y5, y6, y7, y8, y9] 67) := ⟨_, rfl⟩
  have hB0 : Below w.heap.size w W0 := by subst hW; exact (Below.refl _ _).alloc (Nat.le_refl _) _
  have hs0 : W0.heap.size = w.heap.size + 1 := by subst hW; simp
  have i1 := opsIn_below hB0 h1
  have i2 := handsIn_below hB0 h2
  have i3 := handsIn_below hB0 h3
  have x1 : W0.cell? ⟨w.heap.size, 1, none⟩ = some v1 := by subst hW; simp
  have x2 : W0.cell? ⟨w.heap.size, 2, none⟩ = some v2 := by subst hW; simp
  have x3 : W0.cell? ⟨w.heap.size, 3, none⟩ = some v3 := by subst hW; simp
  have HT := hide (tabIn_below hB0 (tabIn_lt ht) ht)
  have HW := hide hW
  clear hW ht h1 h2 h3
  go_enter Tryz.func23, Tryz.ntmps23
  go_wp2_with fail
  rw [← unhide HW]
  refine (program_any v1 v2 v3 ns nt nf s tl fl t f W0 i1 i2 i3).mono ?_
  rintro e w1 ⟨g1, g2, g3, G2, G3, rfl, hb1, k1, k12, k23, kG, o1, o2, o3⟩
  have p1 := (bcel hb1 _ 1 (show w.heap.size < W0.heap.size by omega)).trans x1
  have p2 := (bcel hb1 _ 2 (show w.heap.size < W0.heap.size by omega)).trans x2
  have p3 := (bcel hb1 _ 3 (show w.heap.size < W0.heap.size by omega)).trans x3
  have hs1 : w.heap.size < w1.heap.size := by have := hb1.size; omega
  obtain ⟨W2, hW2⟩ : ∃ W2, W2 = w1.alloc (.cells #[.slice (some ⟨g1, 0, none⟩) ns (ns + 4), .slice (some ⟨g2, 0, none⟩) nt (nt + 4), .slice (some ⟨g3, 0, none⟩) nf (nf + 4)] 33) := ⟨_, rfl⟩
  have hb2 : Below w1.heap.size w1 W2 := by subst hW2; exact (Below.refl _ _).alloc (Nat.le_refl _) _
  have l1 : g1 < w1.heap.size := opAt_lt (o1.cells 0 (by omega))
  have l2 : g2 < w1.heap.size := World.block_lt_of_cell? w1 ⟨g2, nt, none⟩ (o2.pads nt (by omega) (by omega))
  have l3 : g3 < w1.heap.size := World.block_lt_of_cell? w1 ⟨g3, nf, none⟩ (o3.pads nf (by omega) (by omega))
  have q1 := o1.below hb2 l1
  have q2 := o2.below hb2 l2 (fun i hi => (o2.far i hi).2)
  have q3 := o3.below hb2 l3 (fun i hi => (o3.far i hi).2)
  have r0 : W2.cell? ⟨w1.heap.size, 0, none⟩ = some (.slice (some ⟨g1, 0, none⟩) ns (ns + 4)) := by subst hW2; simp
  have r1 : W2.cell? ⟨w1.heap.size, 1, none⟩ = some (.slice (some ⟨g2, 0, none⟩) nt (nt + 4)) := by subst hW2; simp
  have r2 : W2.cell? ⟨w1.heap.size, 2, none⟩ = some (.slice (some ⟨g3, 0, none⟩) nf (nf + 4)) := by subst hW2; simp
  have hs2 : W2.heap.size = w1.heap.size + 1 := by subst hW2; simp
  have hb02 : Below W0.heap.size W0 W2 := hb1.trans (hb2.mono hb1.size)
  have HT2 := hide (tabIn_below hb02 (by omega) (unhide HT))
  have HW2 := hide hW2
  clear hW2 x1 x2 x3 HW
  go_wp2_with fail
  rw [← unhide HW2]
  refine (check_any _ _ _ ns nt nf s tl fl t f W2 (unhide HT2) (q1.opsIn n1) (q2.handsIn n2 e2) (q3.handsIn n3 e3)).mono ?_
  rintro e w3 ⟨x, rfl, ha, hb3⟩
  clear HW2
  have hb03 : Below W0.heap.size W0 w3 := hb02.trans (hb3.mono (by omega))
  have t0 := (bcel hb3 _ 0 (show w1.heap.size < W2.heap.size by omega)).trans r0
  have t1 := (bcel hb3 _ 1 (show w1.heap.size < W2.heap.size by omega)).trans r1
  have t2 := (bcel hb3 _ 2 (show w1.heap.size < W2.heap.size by omega)).trans r2
  have p1' := (bcel (hb2.trans (hb3.mono (by omega))) _ 1 hs1).trans p1
  have p2' := (bcel (hb2.trans (hb3.mono (by omega))) _ 2 hs1).trans p2
  have p3' := (bcel (hb2.trans (hb3.mono (by omega))) _ 3 hs1).trans p3
  have m1 := q1.below hb3 (by omega)
  have m2 := q2.below hb3 (by omega) (fun i hi => (q2.far i hi).2)
  have m3 := q3.below hb3 (by omega) (fun i hi => (q3.far i hi).2)
  clear p1 p2 p3 r0 r1 r2 q1 q2 q3 o1 o2 o3
  have HA := hide ha
  clear ha
  go_wp2_with fail
  refine (still_any W0.heap.size v1 v2 v3 g1 g2 g3 ns nt nf s tl fl G2 G3 t f w3 (opsIn_below hb03 i1) (handsIn_below hb03 i2) (handsIn_below hb03 i3) m1 m2 m3 k1 k12 k23 kG).mono ?_
  rintro e w4 ⟨rfl, hb4⟩
  have hb04 : Below W0.heap.size W0 w4 := hb03.trans hb4
  have u1 := (bcel hb4 w.heap.size 1 (by omega)).trans p1'
  have u2 := (bcel hb4 w.heap.size 2 (by omega)).trans p2'
  have u3 := (bcel hb4 w.heap.size 3 (by omega)).trans p3'
  clear p1' p2' p3' t0 t1 t2 m1 m2 m3
  go_wp2_with fail
  refine (rcheck_any v1 v2 v3 ns nt nf s tl fl t f w4 (opsIn_below hb04 i1) (handsIn_below hb04 i2) (handsIn_below hb04 i3)).mono ?_
  rintro e w5 ⟨x', rfl, ha', hb5⟩
  obtain rfl : x = x' := (unhide HA).one ha'
  have HB := hide hb5
  have hb05 : Below w.heap.size w w5 := hB0.trans ((hb04.trans (hb5.mono hb04.size)).mono (by omega))
  clear HA ha'
  go_wp2
  go_ret
  exact ⟨by simp, hb05⟩
end Go.Proofs.YtfmbebofllgmoaaGreatDoor
