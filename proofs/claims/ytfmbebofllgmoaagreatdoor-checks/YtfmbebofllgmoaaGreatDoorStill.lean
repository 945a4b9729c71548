/-
  PROVED HERE: rerunlaw.still answers true of a copy that was not written into, and writes over that copy alone.
-/
import Derived.Test.YtfmbebofllgmoaaGreatDoorProgram
namespace Go.Proofs.YtfmbebofllgmoaaGreatDoor
open Go.RowKit

/-- What 'still' may lean on while it writes over the copy: q's block is written, the headers stay. -/
structure StillInv (B : Nat) (w wr : World) (x g1 g2 g3 ns nt nf : Nat) (tl fl G2 G3 : Nat → Nat) : Prop where
  below : Below B w wr
  size : w.heap.size ≤ wr.heap.size
  c0 : wr.cell? ⟨x, 0, none⟩ = some (.slice (some ⟨g1, 0, none⟩) ns (ns + 4))
  c1 : wr.cell? ⟨x, 1, none⟩ = some (.slice (some ⟨g2, 0, none⟩) nt (nt + 4))
  c2 : wr.cell? ⟨x, 2, none⟩ = some (.slice (some ⟨g3, 0, none⟩) nf (nf + 4))
  h2 : ∀ i, i < nt → wr.cell? ⟨g2, i, none⟩ = some (.slice (some ⟨G2 i, 0, none⟩) (tl i) (tl i + 4))
  h3 : ∀ i, i < nf → wr.cell? ⟨g3, i, none⟩ = some (.slice (some ⟨G3 i, 0, none⟩) (fl i) (fl i + 4))
  w1 : Writable wr g1 (ns * 3)
  w2 : ∀ i, i < nt → Writable wr (G2 i) (tl i * 3)
  w3 : ∀ i, i < nf → Writable wr (G3 i) (fl i * 3)

theorem Wiped.cell {q : Nat} {w w' : World} (h : Wiped q w w') {b o : Nat} (hb : b ≠ q) : w'.cell? ⟨b, o, none⟩ = w.cell? ⟨b, o, none⟩ := World.cell?_of_block (w := w) (h.block b hb)
theorem Wiped.writable {q g m : Nat} {w w' : World} (h : Wiped q w w') (hw : Writable w g m) : Writable w' g m :=
  fun k hk => ⟨h.there _ (hw k hk).1, (h.frozen _).trans (hw k hk).2⟩
theorem Wiped.below {q B : Nat} {w w' : World} (h : Wiped q w w') (hq : B ≤ q) : Below B w w' :=
  ⟨h.os, h.tape, h.output, Nat.le_of_eq h.size.symm, fun k hk => h.block k (by omega)⟩

theorem StillInv.wiped {B : Nat} {w wr w' : World} {x g1 g2 g3 ns nt nf q : Nat} {tl fl G2 G3 : Nat → Nat} (h : StillInv B w wr x g1 g2 g3 ns nt nf tl fl G2 G3) (hw : Wiped q wr w') (hB : B ≤ q) (hx : x ≠ q) (h2 : g2 ≠ q) (h3 : g3 ≠ q) :
    StillInv B w w' x g1 g2 g3 ns nt nf tl fl G2 G3 :=
  ⟨h.below.trans (hw.below hB), by rw [hw.size]; exact h.size, (hw.cell hx).trans h.c0, (hw.cell hx).trans h.c1, (hw.cell hx).trans h.c2, fun i hi => (hw.cell h2).trans (h.h2 i hi), fun i hi => (hw.cell h3).trans (h.h3 i hi),
    hw.writable h.w1, fun i hi => hw.writable (h.w2 i hi), fun i hi => hw.writable (h.w3 i hi)⟩

theorem Dr.below {w w' : World} (B : Nat) (h : Dr w w') : Below B w w' := by
  obtain ⟨m, rfl⟩ := h
  exact ⟨rfl, rfl, rfl, Nat.le_refl _, fun _ _ => rfl⟩
theorem OwnHands.dr {w w' : World} {g n k : Nat} {ln : Nat → Nat} {f : Nat → Nat → O3} {G : Nat → Nat} (h : OwnHands w g n k ln f G) (hd : Dr w w') : OwnHands w' g n k ln f G := by
  obtain ⟨m, rfl⟩ := hd
  exact ⟨h.there, h.heads, h.pads, h.far, fun i hi hn => ⟨(h.own i hi hn).there, (h.own i hi hn).cells⟩, h.pad⟩

theorem opsIn_len {w : World} {v : Value} {n : Nat} {f : Nat → O3} (h : OpsIn w v n f) : n * 24 ≤ 140737488351232 := by obtain ⟨_, _, _, h, _⟩ := h; exact h
theorem handsIn_len {w : World} {v : Value} {n : Nat} {ln : Nat → Nat} {f : Nat → Nat → O3} (h : HandsIn w v n ln f) : n * 24 ≤ 140737488351232 := by obtain ⟨_, _, _, h, _⟩ := h; exact h
theorem handsIn_each {w : World} {v : Value} {n : Nat} {ln : Nat → Nat} {f : Nat → Nat → O3} (h : HandsIn w v n ln f) : ∀ i, i < n → ln i * 24 ≤ 140737488351232 := by
  obtain ⟨_, _, _, _, h⟩ := h
  intro i hi
  rcases h with h | ⟨b, off, _, h⟩
  · omega
  · obtain ⟨vi, _, hv⟩ := h i hi; exact opsIn_len hv

theorem StillInv.dr {B : Nat} {w wr w' : World} {x g1 g2 g3 ns nt nf : Nat} {tl fl G2 G3 : Nat → Nat} (h : StillInv B w wr x g1 g2 g3 ns nt nf tl fl G2 G3) (hd : Dr wr w') : StillInv B w w' x g1 g2 g3 ns nt nf tl fl G2 G3 := by
  obtain ⟨m, rfl⟩ := hd
  exact ⟨h.below.trans (Dr.below B ⟨m, rfl⟩), h.size, h.c0, h.c1, h.c2, h.h2, h.h3, h.w1, h.w2, h.w3⟩

set_option maxHeartbeats 1000000 in
theorem still_any (B : Nat) (v1 v2 v3 : Value) (g1 g2 g3 ns nt nf : Nat) (s : Nat → O3) (tl fl G2 G3 : Nat → Nat) (t f : Nat → Nat → O3) (w : World) (h1 : OpsIn w v1 ns s) (h2 : HandsIn w v2 nt tl t) (h3 : HandsIn w v3 nf fl f)
    (ho1 : OwnOps w g1 (ns + 4) (padF ns s)) (ho2 : OwnHands w g2 nt (nt + 4) tl t G2) (ho3 : OwnHands w g3 nf (nf + 4) fl f G3) (hB : B ≤ g1) (h12 : g1 < g2) (h23 : g2 < g3) (hG : ∀ i, i < nt + 4 → G2 i < g3) :
    Calls Tryz.prog 40 #[.agg #[.slice (some ⟨g1, 0, none⟩) ns (ns + 4), .slice (some ⟨g2, 0, none⟩) nt (nt + 4), .slice (some ⟨g3, 0, none⟩) nf (nf + 4)], .agg #[v1, v2, v3]] w fun e w' => e = .returned (.bool true) ∧ Below B w w' := by
  have ln1 := opsIn_len h1
  have ln2 := handsIn_len h2
  have ln3 := handsIn_len h3
  have l2 := handsIn_each h2
  have l3 := handsIn_each h3
  obtain ⟨W0, hW⟩ : ∃ W0, W0 = (w.alloc (.cells #[.slice (some ⟨g1, 0, none⟩) ns (ns + 4), .slice (some ⟨g2, 0, none⟩) nt (nt + 4), .slice (some ⟨g3, 0, none⟩) nf (nf + 4)] 33)).alloc (.cells #[v1, v2, v3] 33) := ⟨_, rfl⟩
  have hB0 : Below w.heap.size w W0 := by subst hW; exact bl2 _ _
  have hg1 : g1 < w.heap.size := opAt_lt (ho1.cells 0 (by omega))
  have hg2 : g2 < w.heap.size := World.block_lt_of_cell? w ⟨g2, nt, none⟩ (ho2.pads nt (by omega) (by omega))
  have hg3 : g3 < w.heap.size := World.block_lt_of_cell? w ⟨g3, nf, none⟩ (ho3.pads nf (by omega) (by omega))
  have i1 := opsIn_below hB0 h1
  have i2 := handsIn_below hB0 h2
  have i3 := handsIn_below hB0 h3
  have j1 := ho1.below hB0 hg1
  have j2 := ho2.below hB0 hg2 (fun i hi => (ho2.far i hi).2)
  have j3 := ho3.below hB0 hg3 (fun i hi => (ho3.far i hi).2)
  have inv0 : StillInv B w W0 w.heap.size g1 g2 g3 ns nt nf tl fl G2 G3 :=
    ⟨hB0.mono (by omega), hB0.size, by subst hW; simp, by subst hW; simp, by subst hW; simp, fun i hi => j2.heads i (by omega) hi, fun i hi => j3.heads i (by omega) hi,
      fun k hk => j1.there k (by omega), fun i hi k hk => (j2.own i (by omega) hi).there k (by omega), fun i hi k hk => (j3.own i (by omega) hi).there k (by omega)⟩
  have far2 : ∀ i, i < nt → g2 < G2 i ∧ G2 i < g3 := fun i hi => ⟨(ho2.far i (by omega)).1, hG i (by omega)⟩
  have far3 : ∀ i, i < nf → g3 < G3 i ∧ G3 i < w.heap.size := fun i hi => ho3.far i (by omega)
  have b0 : W0.cell? ⟨w.heap.size + 1, 0, none⟩ = some v1 := by subst hW; simp
  have b1 : W0.cell? ⟨w.heap.size + 1, 1, none⟩ = some v2 := by subst hW; simp
  have b2 : W0.cell? ⟨w.heap.size + 1, 2, none⟩ = some v3 := by subst hW; simp
  have HW := hide hW
  clear ho1 ho2 ho3 h1 h2 h3 hG hW
  go_enter Tryz.func40, Tryz.ntmps40
  go_wp2_with fail
  rw [← unhide HW]
  clear HW
  refine (sameOps_any g1 ns v1 s W0 i1 j1).mono ?_
  rintro e w1 ⟨rfl, hd1⟩
  have inv1 := inv0.dr hd1
  have a0 := inv1.c0; have a1 := inv1.c1; have a2 := inv1.c2
  rw [← hd1.cell] at b0 b1 b2
  go_wp2_with fail
  refine (sameHandlers_any g2 nt G2 v2 tl t w1 (handsIn_dr hd1 i2) (j2.dr hd1)).mono ?_
  rintro e w2 ⟨rfl, hd2⟩
  have inv2 := inv1.dr hd2
  clear a0 a1 a2
  have a0 := inv2.c0; have a1 := inv2.c1; have a2 := inv2.c2
  rw [← hd2.cell] at b0 b1 b2
  go_wp2_with fail
  refine (sameHandlers_any g3 nf G3 v3 fl f w2 (handsIn_dr (hd1.trans hd2) i3) (j3.dr (hd1.trans hd2))).mono ?_
  rintro e w3 ⟨rfl, hd3⟩
  have inv3 := inv2.dr hd3
  clear a0 a1 a2 b0 b1 b2 i1 i2 i3 j1 j2 j3
  have a0 := inv3.c0; have a1 := inv3.c1; have a2 := inv3.c2
  go_wp2_with fail
  refine (wipe_any g1 ns (ns + 4) w3 (by omega) inv3.w1).mono ?_
  rintro e w4 ⟨rfl, hw4⟩
  have inv4 := inv3.wiped hw4 hB (by omega) (by omega) (by omega)
  clear a0 a1 a2 inv0 inv1 inv2 inv3 hd1 hd2 hd3 hw4
  go_wp2
  go_loopw [8] (fun i wr => ∃ k : Nat, k ≤ nt ∧ i = .int .i64 k ∧ StillInv B w wr w.heap.size g1 g2 g3 ns nt nf tl fl G2 G3) (fun i _ => nt - (intOf i).toNat)
  case atStart => exact ⟨0, Nat.zero_le _, rfl, inv4⟩
  case round =>
    obtain ⟨k, hk, rfl, inv⟩ := hrel
    have a0 := inv.c0; have a1 := inv.c1; have a2 := inv.c2
    by_cases hlt : k < nt
    · have hh := inv.h2 k hlt
      obtain ⟨p1, p2⟩ := far2 k hlt
      have hl := l2 k hlt
      go_wp2_with fail
      refine (wipe_any (G2 k) (tl k) (tl k + 4) wr (by omega) (inv.w2 k hlt)).mono ?_
      rintro e w5 ⟨rfl, hw5⟩
      have inv5 := inv.wiped hw5 (by omega) (by omega) (by omega) (by omega)
      go_wp2
      go_roundw
      case rel => exact ⟨k + 1, by omega, by go_num, inv5⟩
      case measure => simp [intOf]; omega
    · go_wp2
      clear a0 a1 a2
      go_loopw [9] (fun i wr => ∃ k : Nat, k ≤ nf ∧ i = .int .i64 k ∧ StillInv B w wr w.heap.size g1 g2 g3 ns nt nf tl fl G2 G3) (fun i _ => nf - (intOf i).toNat)
      case atStart => exact ⟨0, Nat.zero_le _, rfl, inv⟩
      case round =>
        obtain ⟨k', hk', rfl, inv'⟩ := hrel
        have a0 := inv'.c0; have a1 := inv'.c1; have a2 := inv'.c2
        by_cases hlt' : k' < nf
        · have hh := inv'.h3 k' hlt'
          obtain ⟨p1, p2⟩ := far3 k' hlt'
          have hl := l3 k' hlt'
          go_wp2_with fail
          refine (wipe_any (G3 k') (fl k') (fl k' + 4) _ (by omega) (inv'.w3 k' hlt')).mono ?_
          rintro e w6 ⟨rfl, hw6⟩
          have inv6 := inv'.wiped hw6 (by omega) (by omega) (by omega) (by omega)
          go_wp2
          go_roundw
          case rel => exact ⟨k' + 1, by omega, by go_num, inv6⟩
          case measure => simp [intOf]; omega
        · go_wp2
          go_ret
          exact ⟨rfl, inv'.below⟩
end Go.Proofs.YtfmbebofllgmoaaGreatDoor
