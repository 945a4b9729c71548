/-
  PROVED HERE: rerunlaw.program copies a program, and old memory stays.
-/
import Derived.Test.YtfmbebofllgmoaaGreatDoorSame
import Derived.Test.YtfmbebofllgmoaaGreatDoorRight
import Derived.Deep.RegionHeld3
namespace Go.Proofs.YtfmbebofllgmoaaGreatDoor
open Go.RowKit

theorem bcel {B : Nat} {w w' : World} (h : Below B w w') (b o : Nat) (hb : b < B) : w'.cell? ⟨b, o, none⟩ = w.cell? ⟨b, o, none⟩ := h.cell (p := ⟨b, o, none⟩) hb
theorem bfro {B : Nat} {w w' : World} (h : Below B w w') (b o : Nat) (hb : b < B) : w'.frozen? ⟨b, o, none⟩ = w.frozen? ⟨b, o, none⟩ := h.frozen (p := ⟨b, o, none⟩) hb

theorem OwnHands.setCell {w : World} {g n k : Nat} {ln : Nat → Nat} {f : Nat → Nat → O3} {G : Nat → Nat} (h : OwnHands w g n k ln f G) {a : Addr} (hne : a.block < g) (v : Value) : OwnHands (w.setCell a v) g n k ln f G := by
  have e : ∀ o, a ≠ ⟨g, o, none⟩ := fun o he => by rw [he] at hne; exact absurd hne (Nat.lt_irrefl _)
  exact ⟨h.there.setCell _ _, fun i hi hn => (World.cell?_setCell_other _ _ _ _ (e _)).trans (h.heads i hi hn), fun i hi hn => (World.cell?_setCell_other _ _ _ _ (e _)).trans (h.pads i hi hn),
    fun i hi => by simpa using h.far i hi, fun i hi hn => (h.own i hi hn).setCell (by have := (h.far i hi).1; omega) _, fun i hi hn => opAt_setCell (h.pad i hi hn) (by have := (h.far i hi).1; omega) _⟩

theorem keep3 {w : World} {g o : Nat} {v : Value} (x y z : Value) (h : w.cell? ⟨g, o, none⟩ = some v) :
    (((w.setCell ⟨g + 1, 0, none⟩ x).setCell ⟨g + 1, 1, none⟩ y).setCell ⟨g + 1, 2, none⟩ z).cell? ⟨g, o, none⟩ = some v := by
  rw [World.cell?_setCell_other _ _ _ _ (by simp), World.cell?_setCell_other _ _ _ _ (by simp), World.cell?_setCell_other _ _ _ _ (by simp)]
  exact h

set_option maxHeartbeats 1000000 in
theorem program_any (v1 v2 v3 : Value) (ns nt nf : Nat) (s : Nat → O3) (tl fl : Nat → Nat) (t f : Nat → Nat → O3) (w : World) (h1 : OpsIn w v1 ns s) (h2 : HandsIn w v2 nt tl t) (h3 : HandsIn w v3 nf fl f) :
    Calls Tryz.prog 39 #[.agg #[v1, v2, v3]] w fun e w' => ∃ g1 g2 g3 G2 G3, e = .returned (.agg #[.slice (some ⟨g1, 0, none⟩) ns (ns + 4), .slice (some ⟨g2, 0, none⟩) nt (nt + 4), .slice (some ⟨g3, 0, none⟩) nf (nf + 4)]) ∧
      Below w.heap.size w w' ∧ w.heap.size ≤ g1 ∧ g1 < g2 ∧ g2 < g3 ∧ (∀ i, i < nt + 4 → G2 i < g3) ∧ OwnOps w' g1 (ns + 4) (padF ns s) ∧ OwnHands w' g2 nt (nt + 4) tl t G2 ∧ OwnHands w' g3 nf (nf + 4) fl f G3 := by
  obtain ⟨W0, hW⟩ : ∃ W0, W0 = ((w.alloc (.cells #[v1, v2, v3] 33)).alloc (.cells #[.slice none 0 0, .slice none 0 0, .slice none 0 0] 33)).drew := ⟨_, rfl⟩
  have hB0 : Below w.heap.size w W0 := by subst hW; exact (bl2 _ _).drew
  have hsz : W0.heap.size = w.heap.size + 2 := by subst hW; simp
  have c00 : W0.cell? ⟨w.heap.size, 0, none⟩ = some v1 := by subst hW; simp
  have c01 : W0.cell? ⟨w.heap.size, 1, none⟩ = some v2 := by subst hW; simp
  have c02 : W0.cell? ⟨w.heap.size, 2, none⟩ = some v3 := by subst hW; simp
  have d0 : ∀ j, j < 3 → W0.cell? ⟨w.heap.size + 1, j, none⟩ = some (.slice none 0 0) ∧ W0.frozen? ⟨w.heap.size + 1, j, none⟩ = false := by
    subst hW
    intro j hj
    have : j = 0 ∨ j = 1 ∨ j = 2 := by omega
    rcases this with rfl | rfl | rfl <;> simp
  have HW := hide hW
  have HS := hide hsz
  have H1 := hide h1
  have H2 := hide h2
  have H3 := hide h3
  have HD := hide d0
  clear hsz h1 h2 h3 d0 hW
  go_enter Tryz.func39, Tryz.ntmps39
  go_wp2
  go_region_held3 (fun w' => w'.cell? ⟨w.heap.size, 0, none⟩ = some v1 ∧ w'.cell? ⟨w.heap.size, 1, none⟩ = some v2 ∧ w'.cell? ⟨w.heap.size, 2, none⟩ = some v3) (first | with_reducible exact ⟨e0, e1, e2⟩ | with_reducible exact ⟨f0, f1, f2⟩ | with_reducible exact ⟨k0, k1, k2⟩ | with_reducible exact ⟨keep3 _ _ _ k0, keep3 _ _ _ k1, keep3 _ _ _ k2⟩ | (simp [go_sem, World.cell?_alloc_past]; done))
    (first
      | (go_at_call 65; rw [← unhide HW]; refine (ops_any v1 ns s W0 (opsIn_below hB0 (unhide H1))).mono ?_; rintro e w1 ⟨rfl, hb1, hs1, ho1⟩
         have hsz := unhide HS
         have e0 : w1.cell? ⟨w.heap.size, 0, none⟩ = some v1 := (bcel hb1 _ _ (by omega)).trans c00
         have e1 : w1.cell? ⟨w.heap.size, 1, none⟩ = some v2 := (bcel hb1 _ _ (by omega)).trans c01
         have e2 : w1.cell? ⟨w.heap.size, 2, none⟩ = some v3 := (bcel hb1 _ _ (by omega)).trans c02
         have hB1 : Below w.heap.size w w1 := hB0.trans (hb1.mono (by omega))
         clear hsz)
      | (go_at_call_of 66 v2; refine (handlers_any v2 nt tl t w1 (handsIn_below hB1 (unhide H2))).mono ?_; rintro e w2 ⟨rfl, hb2, hs2, G2, hG2⟩
         have hsz := unhide HS
         have f0 : w2.cell? ⟨w.heap.size, 0, none⟩ = some v1 := (bcel hb2 _ _ (by omega)).trans e0
         have f1 : w2.cell? ⟨w.heap.size, 1, none⟩ = some v2 := (bcel hb2 _ _ (by omega)).trans e1
         have f2 : w2.cell? ⟨w.heap.size, 2, none⟩ = some v3 := (bcel hb2 _ _ (by omega)).trans e2
         have hB2 : Below w.heap.size w w2 := hB1.trans (hb2.mono (by omega))
         clear hsz)
      | (go_at_call_of 66 v3; refine (handlers_any v3 nf fl f w2 (handsIn_below hB2 (unhide H3))).mono ?_; rintro e w3 ⟨rfl, hb3, hs3, G3, hG3⟩
         have hsz := unhide HS
         have k0 : w3.cell? ⟨w.heap.size, 0, none⟩ = some v1 := (bcel hb3 _ _ (by omega)).trans f0
         have k1 : w3.cell? ⟨w.heap.size, 1, none⟩ = some v2 := (bcel hb3 _ _ (by omega)).trans f1
         have k2 : w3.cell? ⟨w.heap.size, 2, none⟩ = some v3 := (bcel hb3 _ _ (by omega)).trans f2
         have hB3 : Below w.heap.size w w3 := hB2.trans (hb3.mono (by omega))
         have hb03 : Below W0.heap.size W0 w3 := (hb1.trans (hb2.mono (by omega))).trans (hb3.mono (by omega))
         have l0 : w3.cell? ⟨w.heap.size + 1, 0, none⟩ = some (.slice none 0 0) := (bcel hb03 _ _ (by omega)).trans (unhide HD 0 (by omega)).1
         have l1 : w3.cell? ⟨w.heap.size + 1, 1, none⟩ = some (.slice none 0 0) := (bcel hb03 _ _ (by omega)).trans (unhide HD 1 (by omega)).1
         have l2 : w3.cell? ⟨w.heap.size + 1, 2, none⟩ = some (.slice none 0 0) := (bcel hb03 _ _ (by omega)).trans (unhide HD 2 (by omega)).1
         have m0 : w3.frozen? ⟨w.heap.size + 1, 0, none⟩ = false := (bfro hb03 _ _ (by omega)).trans (unhide HD 0 (by omega)).2
         have m1 : w3.frozen? ⟨w.heap.size + 1, 1, none⟩ = false := (bfro hb03 _ _ (by omega)).trans (unhide HD 1 (by omega)).2
         have m2 : w3.frozen? ⟨w.heap.size + 1, 2, none⟩ = false := (bfro hb03 _ _ (by omega)).trans (unhide HD 2 (by omega)).2
         clear hsz))
  go_wp2
  have hsz := unhide HS
  refine bodyPost_ret (v := .agg #[.slice (some ⟨W0.heap.size, 0, none⟩) ns (ns + 4), .slice (some ⟨w1.heap.size, 0, none⟩) nt (nt + 4), .slice (some ⟨w2.heap.size, 0, none⟩) nf (nf + 4)]) ?_ rfl ⟨W0.heap.size, w1.heap.size, w2.heap.size, G2, G3, rfl, ?_, by omega, hs1, hs2, fun i hi => (hG2.far i hi).2, ?_, ?_, ?_⟩
  · simp [results, Tryz.results39, go_sem, l0, l1, l2]
  · exact ((hB3.setCell (by simp) _).setCell (by simp) _).setCell (by simp) _
  · exact ((((ho1.below hb2 hs1).below hb3 (by omega)).setCell (by simp; omega) _).setCell (by simp; omega) _).setCell (by simp; omega) _
  · exact (((hG2.below hb3 hs2 (fun i hi => (hG2.far i hi).2)).setCell (by simp; omega) _).setCell (by simp; omega) _).setCell (by simp; omega) _
  · exact ((hG3.setCell (by simp; omega) _).setCell (by simp; omega) _).setCell (by simp; omega) _
end Go.Proofs.YtfmbebofllgmoaaGreatDoor
