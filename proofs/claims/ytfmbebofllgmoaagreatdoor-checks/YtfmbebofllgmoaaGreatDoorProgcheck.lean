/-
  PROVED HERE: check.Program and rerun.Check answer what P3 says (Ans), for every program in memory.
-/
import Derived.Test.YtfmbebofllgmoaaGreatDoorConcat
namespace Go.Proofs.YtfmbebofllgmoaaGreatDoor
open Go.RowKit

theorem tabIn_below {B : Nat} {w w' : World} (h : Below B w w') (hB : 0 < B) (ht : TabIn w) : TabIn w' := fun c h1 h2 =>
  ⟨(bcel h 0 _ hB).trans (ht c h1 h2).1, (bcel h 0 _ hB).trans (ht c h1 h2).2⟩
theorem tabIn_lt {w : World} (ht : TabIn w) : 0 < w.heap.size := World.block_lt_of_cell? _ _ (ht 1 (by omega) (by omega)).1

set_option maxHeartbeats 1000000 in
theorem pcheck_any (v1 v2 v3 : Value) (ns nt nf : Nat) (s : Nat → O3) (tl fl : Nat → Nat) (t f : Nat → Nat → O3) (w : World) (ht : TabIn w) (h1 : OpsIn w v1 ns s) (h2 : HandsIn w v2 nt tl t) (h3 : HandsIn w v3 nf fl f) :
    Calls Tryz.prog 27 #[.agg #[v1, v2, v3]] w fun e w' => ∃ x, e = .returned (.int .i64 x) ∧ Ans nt nf (1 + nt + nf) (allL ns nt tl fl) (allF nt s t f) x ∧ Below w.heap.size w w' := by
  have H2 := hide h2
  have H3 := hide h3
  generalize eN : 1 + nt + nf = N
  generalize eL : allL ns nt tl fl = L
  generalize eF : allF nt s t f = F
  have EN := hide eN
  have EL := hide eL
  have EF := hide eF
  clear eN eL eF
  have H1 := hide h1
  obtain ⟨a1, c1, rfl, l1, r1⟩ := h1
  obtain ⟨a2, c2, rfl, l2, r2⟩ := h2
  obtain ⟨a3, c3, rfl, l3, r3⟩ := h3
  clear r1 r2 r3
  by_cases q2 : 8 < nt
  · go_enter Tryz.func27, Tryz.ntmps27
    go_wp2
    go_ret
    exact ⟨1, rfl, .inl ⟨q2, rfl⟩, (Below.refl _ _).alloc (Nat.le_refl _) _⟩
  by_cases q3 : 8 < nf
  · go_enter Tryz.func27, Tryz.ntmps27
    go_wp2
    go_ret
    exact ⟨2, rfl, .inr (.inl ⟨by omega, q3, rfl⟩), (Below.refl _ _).alloc (Nat.le_refl _) _⟩
  obtain ⟨W1, hW⟩ : ∃ W1, W1 = ((w.alloc (.cells #[.slice a1 ns c1, .slice a2 nt c2, .slice a3 nf c3] 33)).alloc (.cells #[.slice a1 ns c1] 31)).alloc (.cells #[.slice (some ⟨w.heap.size + 1, 0, none⟩) 1 1, .slice a2 nt c2, .slice a3 nf c3] 25) := ⟨_, rfl⟩
  have hB1 : Below w.heap.size w W1 := by subst hW; exact bl3 _ _ _
  have i1 : HandsIn W1 (.slice (some ⟨w.heap.size + 1, 0, none⟩) 1 1) 1 (fun _ => ns) (fun _ => s) := by
    refine ⟨_, _, rfl, by omega, .inr ⟨_, _, rfl, fun i hi => ⟨.slice a1 ns c1, ?_, opsIn_below hB1 (unhide H1)⟩⟩⟩
    obtain rfl : i = 0 := by omega
    subst hW; simp [World.cell?_alloc_past]
  have i2 := handsIn_below hB1 (unhide H2)
  have i3 := handsIn_below hB1 (unhide H3)
  have b0 : W1.cell? ⟨w.heap.size, 0, none⟩ = some (.slice a1 ns c1) := by subst hW; rw [World.cell?_alloc_past _ _ _ (by simp; omega), World.cell?_alloc_past _ _ _ (by simp)]; simp
  have b1 : W1.cell? ⟨w.heap.size, 1, none⟩ = some (.slice a2 nt c2) := by subst hW; rw [World.cell?_alloc_past _ _ _ (by simp; omega), World.cell?_alloc_past _ _ _ (by simp)]; simp
  have b2 : W1.cell? ⟨w.heap.size, 2, none⟩ = some (.slice a3 nf c3) := by subst hW; rw [World.cell?_alloc_past _ _ _ (by simp; omega), World.cell?_alloc_past _ _ _ (by simp)]; simp
  have x0 : W1.cell? ⟨w.heap.size + 2, 0, none⟩ = some (.slice (some ⟨w.heap.size + 1, 0, none⟩) 1 1) := by subst hW; simp [World.cell?_alloc_at]
  have x1 : W1.cell? ⟨w.heap.size + 2, 1, none⟩ = some (.slice a2 nt c2) := by subst hW; simp [World.cell?_alloc_at]
  have x2 : W1.cell? ⟨w.heap.size + 2, 2, none⟩ = some (.slice a3 nf c3) := by subst hW; simp [World.cell?_alloc_at]
  have hlt : w.heap.size < W1.heap.size := by subst hW; simp; omega
  have HW := hide hW
  clear hW H1 H2 H3
  have d2 : decide ((8 : Int) < (nt : Int)) = false := by simp; omega
  have d3 : decide ((8 : Int) < (nf : Int)) = false := by simp; omega
  have HT := hide (tabIn_below hB1 (tabIn_lt ht) ht)
  clear ht
  go_enter Tryz.func27, Tryz.ntmps27
  go_wp2_with fail
  rw [← unhide HW]
  refine (concat_any (w.heap.size + 2) (some ⟨w.heap.size + 1, 0, none⟩) 1 _ _ ns nt nf s tl fl t f W1 i1 i2 i3 x0 x1 x2 (by omega) (by omega)).mono ?_
  rintro e w3 ⟨u3, rfl, o3, k3⟩
  obtain ⟨g, cap, hu, hc⟩ := ownH_form o3 k3 (by omega)
  have hc' : ∀ i, i < N → ∃ vi, w3.cell? ⟨g, i, none⟩ = some vi ∧ OpsIn w3 vi (L i) (F i) := by
    rw [← unhide EN, ← unhide EL, ← unhide EF]; exact hc
  rw [unhide EN] at hu
  rw [hu]
  have hN : N ≤ 17 := by have := unhide EN; omega
  have hB3 : Below w.heap.size w w3 := hB1.trans (k3.mono (by omega))
  have y0 := (bcel k3 _ 0 hlt).trans b0
  have y1 := (bcel k3 _ 1 hlt).trans b1
  have y2 := (bcel k3 _ 2 hlt).trans b2
  have hls : w.heap.size < w3.heap.size := Nat.lt_of_lt_of_le hlt k3.size
  have HT3 := hide (tabIn_below k3 (by omega) (unhide HT))
  have HC := hide hc'
  clear hc hc' hu o3 k3 i1 i2 i3 HW b0 b1 b2 x0 x1 x2 hB1 hlt EN EL EF HT
  go_wp2
  go_loop [31] (fun i => ∃ k : Nat, k ≤ N ∧ i = .int .i64 k ∧ Hid (∀ j, j < k → L j ≤ 32)) (fun i => N - (intOf i).toNat)
  case atStart => exact ⟨0, Nat.zero_le _, rfl, fun j hj => absurd hj (Nat.not_lt_zero _)⟩
  case round =>
    obtain ⟨k, hk, rfl, hle⟩ := hrel
    by_cases hlt : k < N
    · obtain ⟨vi, ci, hvi⟩ := unhide HC k hlt
      obtain ⟨ai, cc, rfl, li, ri⟩ := hvi
      clear ri
      by_cases hlong : 32 < L k
      · have HL := hide hlong
        go_wp2
        go_ret
        exact ⟨3, rfl, .inr (.inr (.inl ⟨by omega, by omega, ⟨k, hlt, unhide HL⟩, rfl⟩)), hB3⟩
      · go_wp2
        go_round
        case rel =>
          refine ⟨k + 1, by omega, by go_num, fun j hj => ?_⟩
          by_cases e : j = k
          · subst e; omega
          · exact unhide hle j (by omega)
        case measure => simp [intOf]; omega
    · have HA : Hid (∀ j, j < N → L j ≤ 32) := fun j hj => unhide hle j (by omega)
      clear hle
      go_wp2
      go_loopw [41] (fun i wr => ∃ k : Nat, k ≤ N ∧ i = .int .i64 k ∧ Below w3.heap.size w3 wr ∧ Hid (∀ j m, j < k → m < L j → rt (F j m) nt nf = true)) (fun i _ => N - (intOf i).toNat)
      case atStart => exact ⟨0, Nat.zero_le _, rfl, Below.refl _ _, fun j m hj => absurd hj (Nat.not_lt_zero _)⟩
      case round =>
        obtain ⟨k', hk', rfl, hb, hall⟩ := hrel
        by_cases hlt' : k' < N
        · obtain ⟨vi, ci, hvi⟩ := unhide HC k' hlt'
          obtain ⟨ai, cc, rfl, li, ri⟩ := hvi
          have HR := hide ri
          have hl32 := unhide HA k' hlt'
          clear ri
          have cg := (bcel hb g k' (World.block_lt_of_cell? _ _ ci)).trans ci
          go_wp2
          clear cg
          go_loopw [47] (fun i wr => ∃ m : Nat, m ≤ L k' ∧ i = .int .i64 m ∧ Below w3.heap.size w3 wr ∧ Hid (∀ m', m' < m → rt (F k' m') nt nf = true)) (fun i _ => L k' - (intOf i).toNat)
          case atStart => exact ⟨0, Nat.zero_le _, rfl, hb, fun j hj => absurd hj (Nat.not_lt_zero _)⟩
          case round =>
            obtain ⟨m, hm, rfl, hbm, hgood⟩ := hrel
            by_cases hml : m < L k'
            · rcases unhide HR with hz | ⟨b, off, rfl, hf⟩
              · omega
              have hop := opAt_below hbm (hf m hml)
              have q1 := opAt_lt hop
              obtain ⟨g0, g1, g2⟩ := hop
              have z0 := (bcel hbm _ 0 hls).trans y0
              have z1 := (bcel hbm _ 1 hls).trans y1
              have z2 := (bcel hbm _ 2 hls).trans y2
              have q4 := World.block_lt_of_cell? _ _ z0
              have HTm := hide (tabIn_below hbm (by omega) (unhide HT3))
              clear hf
              generalize hx : F k' m = x at g0 g1 g2
              have HX := hide hx
              clear hx
              cases hr : rightB x.1 x.2.1 x.2.2 nt nf
              all_goals
                go_wp2_with fail
                refine (cright_any x.1 x.2.1 x.2.2 _ a2 a3 nt c2 nf c3 _ (tabIn_below ((Below.refl _ _).alloc (Nat.le_refl _) _) (by omega) (unhide HTm))).mono ?_
                rintro e wz ⟨rfl, hz⟩
              · have hbz : Below w3.heap.size w3 wz := (hbm.alloc hbm.size _).trans (hz.mono (by have := hbm.size; simp; omega))
                have HR2 := hide hr
                go_wp2
                go_ret
                refine ⟨4, rfl, .inr (.inr (.inr (.inl ⟨by omega, by omega, unhide HA, ⟨k', m, hlt', hml, ?_⟩, rfl⟩))), hB3.trans (hbz.mono (by omega))⟩
                rw [unhide HX]; exact unhide HR2
              · have hbz : Below w3.heap.size w3 wz := (hbm.alloc hbm.size _).trans (hz.mono (by have := hbm.size; simp; omega))
                have HR2 := hide hr
                go_wp2
                go_roundw
                case rel =>
                  refine ⟨m + 1, by omega, by go_num, hbz, fun m' hm' => ?_⟩
                  by_cases e : m' = m
                  · subst e; rw [unhide HX]; exact unhide HR2
                  · exact unhide hgood m' (by omega)
                case measure => simp [intOf]; omega
            · go_wp2
              go_roundw
              case rel =>
                refine ⟨k' + 1, by omega, by go_num, hbm, fun j m' hj hm' => ?_⟩
                by_cases e : j = k'
                · subst e; exact unhide hgood m' (by omega)
                · exact unhide hall j m' (by omega) hm'
              case measure => simp [intOf]; omega
        · go_wp2
          go_ret
          exact ⟨0, rfl, .inr (.inr (.inr (.inr ⟨by omega, by omega, unhide HA, fun i m hi hm => unhide hall i m (by omega) hm, rfl⟩))), hB3.trans (hb.mono (by omega))⟩

/-- rerun.Check. -/
theorem check_any (v1 v2 v3 : Value) (ns nt nf : Nat) (s : Nat → O3) (tl fl : Nat → Nat) (t f : Nat → Nat → O3) (w : World) (ht : TabIn w) (h1 : OpsIn w v1 ns s) (h2 : HandsIn w v2 nt tl t) (h3 : HandsIn w v3 nf fl f) :
    Calls Tryz.prog 25 #[.agg #[v1, v2, v3]] w fun e w' => ∃ x, e = .returned (.int .i64 x) ∧ Ans nt nf (1 + nt + nf) (allL ns nt tl fl) (allF nt s t f) x ∧ Below w.heap.size w w' := by
  have hB : Below w.heap.size w (w.alloc (.cells #[v1, v2, v3] 33)) := (Below.refl _ _).alloc (Nat.le_refl _) _
  have hc := pcheck_any v1 v2 v3 ns nt nf s tl fl t f (w.alloc (.cells #[v1, v2, v3] 33)) (tabIn_below hB (tabIn_lt ht) ht) (opsIn_below hB h1) (handsIn_below hB h2) (handsIn_below hB h3)
  have HC := hide hc
  clear hc
  go_enter Tryz.func25, Tryz.ntmps25
  go_wp2_with fail
  refine (unhide HC).mono ?_
  rintro e w1 ⟨x, rfl, ha, hb⟩
  go_wp2
  go_ret
  exact ⟨x, rfl, ha, hB.trans (hb.mono (by simp))⟩
end Go.Proofs.YtfmbebofllgmoaaGreatDoor
