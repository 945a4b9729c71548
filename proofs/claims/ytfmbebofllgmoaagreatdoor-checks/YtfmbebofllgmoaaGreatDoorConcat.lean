/-
  PROVED HERE: slices.Concat of three lists of handlers: all of them in order.
-/
import Derived.Test.YtfmbebofllgmoaaGreatDoorGrow
import Derived.Test.YtfmbebofllgmoaaGreatDoorRefcheck
namespace Go.Proofs.YtfmbebofllgmoaaGreatDoor
open Go.RowKit

def psum (nt nf k : Nat) : Nat := if k = 0 then 0 else if k = 1 then 1 else if k = 2 then 1 + nt else 1 + nt + nf

/-- How far the list of all handlers is built. -/
def Stg (w wr : World) (v : Value) (ns nt nf : Nat) (s : Nat → O3) (tl fl : Nat → Nat) (t f : Nat → Nat → O3) (k : Nat) : Prop :=
  (k = 0 ∧ OwnH w wr v 0 (fun _ => 0) (fun _ _ => (0, 0, 0))) ∨ (k = 1 ∧ OwnH w wr v 1 (cat 0 (fun _ => 0) (fun _ => ns)) (cat 0 (fun _ _ => (0, 0, 0)) (fun _ => s))) ∨
  (k = 2 ∧ OwnH w wr v (1 + nt) (cat 1 (cat 0 (fun _ => 0) (fun _ => ns)) tl) (cat 1 (cat 0 (fun _ _ => (0, 0, 0)) (fun _ => s)) t)) ∨
  (k = 3 ∧ OwnH w wr v (1 + nt + nf) (allL ns nt tl fl) (allF nt s t f))

set_option maxHeartbeats 1000000 in
theorem concat_any (q : Nat) (p1 : Option Addr) (c1 : Nat) (v2 v3 : Value) (ns nt nf : Nat) (s : Nat → O3) (tl fl : Nat → Nat) (t f : Nat → Nat → O3) (w : World)
    (h1 : HandsIn w (.slice p1 1 c1) 1 (fun _ => ns) (fun _ => s)) (h2 : HandsIn w v2 nt tl t) (h3 : HandsIn w v3 nf fl f)
    (x0 : w.cell? ⟨q, 0, none⟩ = some (.slice p1 1 c1)) (x1 : w.cell? ⟨q, 1, none⟩ = some v2) (x2 : w.cell? ⟨q, 2, none⟩ = some v3) (hnt : nt ≤ 8) (hnf : nf ≤ 8) :
    Calls Tryz.prog 50 #[.slice (some ⟨q, 0, none⟩) 3 3] w fun e w' => ∃ v, e = .returned v ∧ OwnH w w' v (1 + nt + nf) (allL ns nt tl fl) (allF nt s t f) ∧ Below w.heap.size w w' := by
  have H1 := hide h1
  have H2 := hide h2
  have H3 := hide h3
  obtain ⟨a2, c2, rfl, l2, r2⟩ := h2
  obtain ⟨a3, c3, rfl, l3, r3⟩ := h3
  clear h1 r2 r3
  have hq := World.block_lt_of_cell? _ _ x0
  go_enter Tryz.func50, Tryz.ntmps50
  go_wp2
  go_loop [3, 11] (fun z i => ∃ k : Nat, k ≤ 3 ∧ i = .int .i64 k ∧ z = .int .i64 (psum nt nf k)) (fun _ i => 3 - (intOf i).toNat)
  case atStart => exact ⟨0, Nat.zero_le _, rfl, rfl⟩
  case round =>
    obtain ⟨k, hk, rfl, rfl⟩ := hrel
    have hcase : k = 0 ∨ k = 1 ∨ k = 2 ∨ k = 3 := by omega
    rcases hcase with rfl | rfl | rfl | rfl
    · have e0 : psum nt nf 0 = 0 := rfl
      rw [e0]
      go_wp2
      go_round
      case rel => exact ⟨1, by omega, rfl, rfl⟩
      case measure => simp [intOf]
    · have e0 : psum nt nf 1 = 1 := rfl
      rw [e0]
      go_wp2
      go_round
      case rel => exact ⟨2, by omega, rfl, by simp [psum]⟩
      case measure => simp [intOf]
    · have e0 : psum nt nf 2 = 1 + nt := rfl
      rw [e0]
      go_wp2
      go_round
      case rel => exact ⟨3, by omega, rfl, by simp [psum]⟩
      case measure => simp [intOf]
    · have e0 : psum nt nf 3 = 1 + nt + nf := rfl
      rw [e0]
      have hg := grow_any (1 + nt + nf) w (by omega) (by omega) (fun _ => 0) (fun _ _ => (0, 0, 0))
      rw [show (((1 + nt + nf : Nat)) : Int) = 1 + (nt : Int) + (nf : Int) from by omega] at hg
      have HG := hide hg
      clear hg e0
      go_wp2_with fail
      refine (unhide HG).mono ?_
      rintro e w1 ⟨v, rfl, ho, hb⟩
      clear HG
      go_wp2
      go_loopw [6, 27] (fun z i wr => ∃ k : Nat, k ≤ 3 ∧ i = .int .i64 k ∧ Below w.heap.size w wr ∧ Stg w wr z ns nt nf s tl fl t f k) (fun _ i _ => 3 - (intOf i).toNat)
      case atStart => exact ⟨0, Nat.zero_le _, rfl, hb, .inl ⟨rfl, ho⟩⟩
      case round =>
        obtain ⟨k, hk, rfl, hbr, hst⟩ := hrel
        have y0 := (bcel hbr q 0 hq).trans x0
        have y1 := (bcel hbr q 1 hq).trans x1
        have y2 := (bcel hbr q 2 hq).trans x2
        rcases hst with ⟨rfl, hs⟩ | ⟨rfl, hs⟩ | ⟨rfl, hs⟩ | ⟨rfl, hs⟩
        · have HS := hide hs
          clear hs
          go_wp2_with (at_builtin; refine wpList_app (w0 := w) rfl (.tmp 31) (.tmp 32) rfl rfl rfl hbr (unhide HS) (unhide H1) (by omega) ?_; intro v' w' o' k')
          go_roundw
          case rel => exact ⟨1, by omega, rfl, k', .inr (.inl ⟨rfl, by simpa using o'⟩)⟩
          case measure => simp [intOf]
        · have HS := hide hs
          clear hs
          go_wp2_with (at_builtin; refine wpList_app (w0 := w) rfl (.tmp 31) (.tmp 32) rfl rfl rfl hbr (unhide HS) (unhide H2) (by omega) ?_; intro v' w' o' k')
          go_roundw
          case rel => exact ⟨2, by omega, rfl, k', .inr (.inr (.inl ⟨rfl, o'⟩))⟩
          case measure => simp [intOf]
        · have HS := hide hs
          clear hs
          go_wp2_with (at_builtin; refine wpList_app (w0 := w) rfl (.tmp 31) (.tmp 32) rfl rfl rfl hbr (unhide HS) (unhide H3) (by omega) ?_; intro v' w' o' k')
          go_roundw
          case rel => exact ⟨3, by omega, rfl, k', .inr (.inr (.inr ⟨rfl, o'⟩))⟩
          case measure => simp [intOf]
        · have HS := hide hs
          clear hs
          go_wp2
          go_ret
          exact ⟨_, rfl, unhide HS, hbr⟩
end Go.Proofs.YtfmbebofllgmoaaGreatDoor
