/-
  PROVED HERE: rerunref.Check answers what P3 says (Ans), for every program in memory.
-/
import Derived.Test.YtfmbebofllgmoaaGreatDoorApp
namespace Go.Proofs.YtfmbebofllgmoaaGreatDoor
open Go.RowKit

def rt (x : O3) (nt nf : Nat) : Bool := rightB x.1 x.2.1 x.2.2 nt nf
def allL (ns nt : Nat) (tl fl : Nat → Nat) : Nat → Nat := cat (1 + nt) (cat 1 (cat 0 (fun _ => 0) (fun _ => ns)) tl) fl
def allF (nt : Nat) (s : Nat → O3) (t f : Nat → Nat → O3) : Nat → Nat → O3 := cat (1 + nt) (cat 1 (cat 0 (fun _ _ => (0, 0, 0)) (fun _ => s)) t) f

/-- What P3 asks: the error of a program. -/
def Ans (nt nf N : Nat) (L : Nat → Nat) (F : Nat → Nat → O3) (e : Int) : Prop :=
  (8 < nt ∧ e = 1) ∨ (nt ≤ 8 ∧ 8 < nf ∧ e = 2) ∨ (nt ≤ 8 ∧ nf ≤ 8 ∧ (∃ i, i < N ∧ 32 < L i) ∧ e = 3) ∨
  (nt ≤ 8 ∧ nf ≤ 8 ∧ (∀ i, i < N → L i ≤ 32) ∧ (∃ i k, i < N ∧ k < L i ∧ rt (F i k) nt nf = false) ∧ e = 4) ∨
  (nt ≤ 8 ∧ nf ≤ 8 ∧ (∀ i, i < N → L i ≤ 32) ∧ (∀ i k, i < N → k < L i → rt (F i k) nt nf = true) ∧ e = 0)

theorem Ans.one {nt nf N : Nat} {L : Nat → Nat} {F : Nat → Nat → O3} {e e' : Int} (h : Ans nt nf N L F e) (h' : Ans nt nf N L F e') : e = e' := by
  rcases h with ⟨h1, h2⟩ | ⟨h1, h2, h3⟩ | ⟨h1, h2, ⟨i, h3, h4⟩, h5⟩ | ⟨h1, h2, h3, ⟨i, k, h4, h5, h6⟩, h7⟩ | ⟨h1, h2, h3, h4, h5⟩ <;>
  rcases h' with ⟨g1, g2⟩ | ⟨g1, g2, g3⟩ | ⟨g1, g2, ⟨j, g3, g4⟩, g5⟩ | ⟨g1, g2, g3, ⟨j, m, g4, g5, g6⟩, g7⟩ | ⟨g1, g2, g3, g4, g5⟩ <;>
  first
  | omega
  | (have := g3 i h3; omega)
  | (have := h3 j g3; omega)
  | (have := g4 i k h4 h5; rw [this] at h6; cases h6)
  | (have := h4 j m g4 g5; rw [this] at g6; cases g6)

theorem ret_int {a b : Int} (h : a = b) : Ending.returned (.int .i64 a) = .returned (.int .i64 b) := by rw [h]

theorem rright_below (c a b : Int) (v1 : Value) (a2 a3 : Option Addr) (nt c2 nf c3 : Nat) (w : World) :
    Calls Tryz.prog 70 #[.agg #[.int .i64 c, .int .i64 a, .int .i64 b], .agg #[v1, .slice a2 nt c2, .slice a3 nf c3]] w fun e w' => e = .returned (.bool (rightB c a b nt nf)) ∧ Below w.heap.size w w' :=
  (rright_any c a b v1 a2 a3 nt c2 nf c3 w).mono fun _ _ ⟨h1, h2⟩ => ⟨h1, by rw [h2]; exact bl2 _ _⟩

set_option maxHeartbeats 1000000 in
theorem rcheck_any (v1 v2 v3 : Value) (ns nt nf : Nat) (s : Nat → O3) (tl fl : Nat → Nat) (t f : Nat → Nat → O3) (w : World) (h1 : OpsIn w v1 ns s) (h2 : HandsIn w v2 nt tl t) (h3 : HandsIn w v3 nf fl f) :
    Calls Tryz.prog 41 #[.agg #[v1, v2, v3]] w fun e w' => ∃ x, e = .returned (.int .i64 x) ∧ Ans nt nf (1 + nt + nf) (allL ns nt tl fl) (allF nt s t f) x ∧ Below w.heap.size w w' := by
  have H2 := hide h2
  have H3 := hide h3
  generalize eN : 1 + nt + nf = N
  generalize eL : allL ns nt tl fl = L
  generalize eF : allF nt s t f = F
  have EN := hide eN
  have EL := hide eL
  have EF := hide eF
  clear eN eL eF
  have H1 := hide h1
  obtain ⟨a1, c1, rfl, l1, r1⟩ := h1
  obtain ⟨a2, c2, rfl, l2, r2⟩ := h2
  obtain ⟨a3, c3, rfl, l3, r3⟩ := h3
  clear r1 r2 r3
  by_cases q2 : 8 < nt
  · go_enter Tryz.func41, Tryz.ntmps41
    go_wp2
    go_ret
    exact ⟨1, rfl, .inl ⟨q2, rfl⟩, (Below.refl _ _).alloc (Nat.le_refl _) _⟩
  by_cases q3 : 8 < nf
  · go_enter Tryz.func41, Tryz.ntmps41
    go_wp2
    go_ret
    exact ⟨2, rfl, .inr (.inl ⟨by omega, q3, rfl⟩), (Below.refl _ _).alloc (Nat.le_refl _) _⟩
  obtain ⟨W1, hW⟩ : ∃ W1, W1 = (w.alloc (.cells #[(.slice a1 ns c1), .slice a2 nt c2, .slice a3 nf c3] 33)).alloc (.cells #[(.slice a1 ns c1)] 31) := ⟨_, rfl⟩
  have hB1 : Below w.heap.size w W1 := by subst hW; exact bl2 _ _
  have i1 : HandsIn W1 (.slice (some ⟨w.heap.size + 1, 0, none⟩) 1 1) 1 (fun _ => ns) (fun _ => s) := by
    refine ⟨_, _, rfl, by omega, .inr ⟨_, _, rfl, fun i hi => ⟨(.slice a1 ns c1), ?_, opsIn_below hB1 (unhide H1)⟩⟩⟩
    obtain rfl : i = 0 := by omega
    subst hW; simp
  have i2 := handsIn_below hB1 (unhide H2)
  have i3 := handsIn_below hB1 (unhide H3)
  have b0 : W1.cell? ⟨w.heap.size, 0, none⟩ = some (.slice a1 ns c1) := by subst hW; simp
  have b1 : W1.cell? ⟨w.heap.size, 1, none⟩ = some (.slice a2 nt c2) := by subst hW; simp
  have b2 : W1.cell? ⟨w.heap.size, 2, none⟩ = some (.slice a3 nf c3) := by subst hW; simp
  have hlt : w.heap.size < W1.heap.size := by subst hW; simp; omega
  have HW := hide hW
  clear hW H1 H2 H3
  have d2 : decide ((8 : Int) < (nt : Int)) = false := by simp; omega
  have d3 : decide ((8 : Int) < (nf : Int)) = false := by simp; omega
  go_enter Tryz.func41, Tryz.ntmps41
  go_wp2_with (first
    | (at_builtin; refine wpList_app (w0 := W1) rfl (.tmp 16) (.tmp 19) rfl rfl rfl (by rw [← unhide HW]; exact Below.refl _ _) (by rw [← unhide HW]; exact ownH_nil W1 W1 (fun _ => 0) (fun _ _ => (0, 0, 0))) i1 (by omega) ?_; intro u1 w1 o1 k1; have e1 := (bcel k1 _ 1 hlt).trans b1; have e2 := (bcel k1 _ 2 hlt).trans b2; rw [Nat.zero_add] at o1)
    | (at_builtin; refine wpList_app (w0 := W1) rfl (.tmp 21) (.tmp 23) rfl rfl rfl k1 o1 i2 (by omega) ?_; intro u2 w2 o2 k2; have e3 := (bcel k2 _ 2 hlt).trans b2)
    | (at_builtin; refine wpList_app (w0 := W1) rfl (.tmp 25) (.tmp 27) rfl rfl rfl k2 o2 i3 (by omega) ?_; intro u3 w3 o3 k3))
  obtain ⟨g, cap, hu, hc⟩ := ownH_form o3 k3 (by omega)
  have hc' : ∀ i, i < N → ∃ vi, w3.cell? ⟨g, i, none⟩ = some vi ∧ OpsIn w3 vi (L i) (F i) := by
    rw [← unhide EN, ← unhide EL, ← unhide EF]; exact hc
  rw [unhide EN] at hu
  rw [hu]
  have hN : N ≤ 17 := by have := unhide EN; omega
  have hB3 : Below w.heap.size w w3 := hB1.trans (k3.mono (by omega))
  have x0 := (bcel k3 _ 0 hlt).trans b0
  have x1 := (bcel k3 _ 1 hlt).trans b1
  have x2 := (bcel k3 _ 2 hlt).trans b2
  have hls : w.heap.size < w3.heap.size := Nat.lt_of_lt_of_le hlt k3.size
  have HC := hide hc'
  clear hc hc' hu o1 o2 o3 k1 k2 k3 e1 e2 e3 i1 i2 i3 HW b0 b1 b2 hB1 hlt EN EL EF
  go_loop [4] (fun i => ∃ k : Nat, k ≤ N ∧ i = .int .i64 k ∧ Hid (∀ j, j < k → L j ≤ 32)) (fun i => N - (intOf i).toNat)
  case atStart => exact ⟨0, Nat.zero_le _, rfl, fun j hj => absurd hj (Nat.not_lt_zero _)⟩
  case round =>
    obtain ⟨k, hk, rfl, hle⟩ := hrel
    by_cases hlt : k < N
    · obtain ⟨vi, ci, hvi⟩ := unhide HC k hlt
      obtain ⟨ai, cc, rfl, li, ri⟩ := hvi
      clear ri
      by_cases hlong : 32 < L k
      · have HL := hide hlong
        go_wp2
        go_ret
        exact ⟨3, rfl, .inr (.inr (.inl ⟨by omega, by omega, ⟨k, hlt, unhide HL⟩, rfl⟩)), hB3⟩
      · go_wp2
        go_round
        case rel =>
          refine ⟨k + 1, by omega, by go_num, fun j hj => ?_⟩
          by_cases e : j = k
          · subst e; omega
          · exact unhide hle j (by omega)
        case measure => simp [intOf]; omega
    · have HA : Hid (∀ j, j < N → L j ≤ 32) := fun j hj => unhide hle j (by omega)
      clear hle
      go_wp2
      go_loopw [5] (fun i wr => ∃ k : Nat, k ≤ N ∧ i = .int .i64 k ∧ Below w3.heap.size w3 wr ∧ Hid (∀ j m, j < k → m < L j → rt (F j m) nt nf = true)) (fun i _ => N - (intOf i).toNat)
      case atStart => exact ⟨0, Nat.zero_le _, rfl, Below.refl _ _, fun j m hj => absurd hj (Nat.not_lt_zero _)⟩
      case round =>
        obtain ⟨k', hk', rfl, hb, hall⟩ := hrel
        by_cases hlt' : k' < N
        · obtain ⟨vi, ci, hvi⟩ := unhide HC k' hlt'
          have HV := hide hvi
          obtain ⟨ai, cc, rfl, li, ri⟩ := hvi
          have HR := hide ri
          have hl32 := unhide HA k' hlt'
          clear ri
          go_wp2
          go_loopw [6] (fun i wr => ∃ m : Nat, m ≤ L k' ∧ i = .int .i64 m ∧ Below w3.heap.size w3 wr ∧ Hid (∀ m', m' < m → rt (F k' m') nt nf = true)) (fun i _ => L k' - (intOf i).toNat)
          case atStart => exact ⟨0, Nat.zero_le _, rfl, hb, fun j hj => absurd hj (Nat.not_lt_zero _)⟩
          case round =>
            obtain ⟨m, hm, rfl, hbm, hgood⟩ := hrel
            have cg := (bcel hbm g k' (World.block_lt_of_cell? _ _ ci)).trans ci
            by_cases hml : m < L k'
            · rcases unhide HR with hz | ⟨b, off, rfl, hf⟩
              · omega
              obtain ⟨g0, g1, g2⟩ := opAt_below hbm (hf m hml)
              have y0 := (bcel hbm _ 0 hls).trans x0
              have y1 := (bcel hbm _ 1 hls).trans x1
              have y2 := (bcel hbm _ 2 hls).trans x2
              clear hf
              generalize hx : F k' m = x at g0 g1 g2
              have HX := hide hx
              clear hx
              have p0 : (0 : Int) ≤ (k' : Int) := by omega
              have p1 : (k' : Int) < (N : Int) := by omega
              have p2 : (0 : Int) ≤ (m : Int) := by omega
              have p3 : (m : Int) < (L k' : Int) := by omega
              go_wp2
              have q0 := World.block_lt_of_cell? _ _ cg
              have q1 := World.block_lt_of_cell? _ _ g0
              have q4 := World.block_lt_of_cell? _ _ y0
              cases hr : rightB x.1 x.2.1 x.2.2 nt nf
              all_goals
                go_region_held3 (fun w' => w'.cell? ⟨g, k', none⟩ = some (.slice (some ⟨b, off, none⟩) (L k') cc) ∧ w'.cell? ⟨b, off + m * 3, none⟩ = some (.int .i64 x.1) ∧ w'.cell? ⟨b, off + m * 3 + 1, none⟩ = some (.int .i64 x.2.1) ∧ w'.cell? ⟨b, off + m * 3 + 2, none⟩ = some (.int .i64 x.2.2) ∧ w'.cell? ⟨w.heap.size, 0, none⟩ = some (.slice a1 ns c1) ∧ w'.cell? ⟨w.heap.size, 1, none⟩ = some (.slice a2 nt c2) ∧ w'.cell? ⟨w.heap.size, 2, none⟩ = some (.slice a3 nf c3))
                  (first | with_reducible exact ⟨z0, z1, z2, z3, z4, z5, z6⟩ | (simp [go_sem, cg, g0, g1, g2, y0, y1, y2]; done))
                  ((go_at_call 70; refine (rright_below x.1 x.2.1 x.2.2 _ a2 a3 nt c2 nf c3 _).mono ?_; rintro e wz ⟨rfl, hz⟩
                    have z0 := (bcel hz g k' q0).trans cg
                    have z1 := (bcel hz b (off + m * 3) q1).trans g0
                    have z2 := (bcel hz b (off + m * 3 + 1) q1).trans g1
                    have z3 := (bcel hz b (off + m * 3 + 2) q1).trans g2
                    have z4 := (bcel hz _ 0 q4).trans y0
                    have z5 := (bcel hz _ 1 q4).trans y1
                    have z6 := (bcel hz _ 2 q4).trans y2))
              · have hbz : Below w3.heap.size w3 wz := hbm.drew.trans (hz.mono hbm.size)
                have HR2 := hide hr
                go_wp2
                go_ret
                refine ⟨4, rfl, .inr (.inr (.inr (.inl ⟨by omega, by omega, unhide HA, ⟨k', m, hlt', hml, ?_⟩, rfl⟩))), hB3.trans (hbz.mono (by omega))⟩
                rw [unhide HX]; exact unhide HR2
              · have hbz : Below w3.heap.size w3 wz := hbm.drew.trans (hz.mono hbm.size)
                have HR2 := hide hr
                go_wp2
                go_roundw
                case rel =>
                  refine ⟨m + 1, by omega, by go_num, hbz, fun m' hm' => ?_⟩
                  by_cases e : m' = m
                  · subst e; rw [unhide HX]; exact unhide HR2
                  · exact unhide hgood m' (by omega)
                case measure => simp [intOf]; omega
            · go_wp2
              go_roundw
              case rel =>
                refine ⟨k' + 1, by omega, by go_num, hbm, fun j m' hj hm' => ?_⟩
                by_cases e : j = k'
                · subst e; exact unhide hgood m' (by omega)
                · exact unhide hall j m' (by omega) hm'
              case measure => simp [intOf]; omega
        · go_wp2
          go_ret
          exact ⟨0, rfl, .inr (.inr (.inr (.inr ⟨by omega, by omega, unhide HA, fun i m hi hm => unhide hall i m (by omega) hm, rfl⟩))), hB3.trans (hb.mono (by omega))⟩
end Go.Proofs.YtfmbebofllgmoaaGreatDoor
