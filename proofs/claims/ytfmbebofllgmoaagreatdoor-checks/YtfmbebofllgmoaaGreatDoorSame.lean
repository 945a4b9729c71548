/-
  PROVED HERE: rerunlaw.sameOps and sameHandlers answer true of a copy and its original.
-/
import Derived.Test.YtfmbebofllgmoaaGreatDoorHands
import Derived.Deep.QuietTactic
import Derived.BigQuiet
namespace Go.Proofs.YtfmbebofllgmoaaGreatDoor
open Go.RowKit

/-- Nothing but draws lies between two worlds. -/
def Dr (w w' : World) : Prop := ∃ m, w' = w.drewN m
theorem Dr.refl (w : World) : Dr w w := ⟨0, rfl⟩
theorem Dr.cell {w w' : World} (h : Dr w w') (a : Addr) : w'.cell? a = w.cell? a := by obtain ⟨m, rfl⟩ := h; simp
theorem Dr.more {w w' : World} (h : Dr w w') (k : Nat) : Dr w (w'.drewN k) := by
  obtain ⟨m, rfl⟩ := h
  exact ⟨m + k, by rw [World.drewN_drewN]⟩

set_option maxHeartbeats 400000 in
theorem sameOps_any (g n : Nat) (v : Value) (f : Nat → O3) (w : World) (hv : OpsIn w v n f) (ho : OwnOps w g (n + 4) (padF n f)) :
    Calls Tryz.prog 67 #[.slice (some ⟨g, 0, none⟩) n (n + 4), v] w fun e w' => e = .returned (.bool true) ∧ Dr w w' := by
  obtain ⟨a, c, rfl, hn, hf⟩ := hv
  have HF := hide hf
  clear hf
  have hn1 : (0 : Int) ≤ (n : Int) + 4 := by omega
  have hn2 : (n : Int) + 4 ≤ 140737488351232 := by omega
  go_enter Tryz.func67, Tryz.ntmps67
  go_wp2
  clear hn2 hn1
  go_loopw [6] (fun i wr => ∃ k : Nat, k ≤ n + 4 ∧ i = .int .i64 k ∧ Dr w wr) (fun i _ => n + 4 - (intOf i).toNat)
  case atStart => exact ⟨0, Nat.zero_le _, rfl, Dr.refl _⟩
  case round =>
    obtain ⟨k, hk, rfl, hd⟩ := hrel
    by_cases hlt : k < n + 4
    · obtain ⟨o0, o1, o2⟩ := ho.cells k hlt
      rw [← hd.cell] at o0 o1 o2
      by_cases hkn : k < n
      · rcases unhide HF with hz | ⟨b, off, rfl, hf⟩
        · omega
        obtain ⟨g0, g1, g2⟩ := hf k hkn
        rw [← hd.cell] at g0 g1 g2
        clear hf
        have ep : padF n f k = f k := by simp [padF, hkn]
        rw [ep] at o0 o1 o2
        clear ep
        generalize f k = x at *
        have hk0 : (0 : Int) ≤ (k : Int) := by omega
        have hk1 : (k : Int) < (n : Int) := by omega
        have hk2 : (k : Int) < (n : Int) + 4 := by omega
        go_wp2
        go_quiet (fail)
        go_wp2
        go_roundw
        case rel => exact ⟨k + 1, by omega, by go_num, hd.more _⟩
        case measure => simp [intOf]; omega
      · have ep : padF n f k = (9, 0, 0) := by simp [padF, hkn]
        rw [ep] at o0 o1 o2
        clear ep
        have hg : decide ((k : Int) < (n : Int)) = false := by simp; omega
        have hk0 : (0 : Int) ≤ (k : Int) := by omega
        have hk2 : (k : Int) < (n : Int) + 4 := by omega
        go_wp2
        go_quiet (fail)
        go_wp2
        go_roundw
        case rel => exact ⟨k + 1, by omega, by go_num, hd.more _⟩
        case measure => simp [intOf]; omega
    · go_wp2
      go_ret
      exact ⟨by simp, hd⟩

theorem opAt_dr {w w' : World} (h : Dr w w') {b o : Nat} {x : O3} (hx : OpAt w b o x) : OpAt w' b o x := by
  obtain ⟨m, rfl⟩ := h; exact hx
theorem opsIn_dr {w w' : World} (h : Dr w w') {v : Value} {n : Nat} {f : Nat → O3} (hx : OpsIn w v n f) : OpsIn w' v n f := by
  obtain ⟨m, rfl⟩ := h; exact hx
theorem handsIn_dr {w w' : World} (h : Dr w w') {v : Value} {n : Nat} {ln : Nat → Nat} {f : Nat → Nat → O3} (hx : HandsIn w v n ln f) : HandsIn w' v n ln f := by
  obtain ⟨m, rfl⟩ := h; exact hx
theorem OwnOps.dr {w w' : World} {g m : Nat} {f : Nat → O3} (hx : OwnOps w g m f) (h : Dr w w') : OwnOps w' g m f := by
  obtain ⟨k, rfl⟩ := h; exact ⟨hx.there, hx.cells⟩
theorem Dr.trans {w w' w'' : World} (h : Dr w w') (h' : Dr w' w'') : Dr w w'' := by obtain ⟨k, rfl⟩ := h'; exact h.more k

set_option maxHeartbeats 400000 in
theorem sameHandlers_any (g n : Nat) (G : Nat → Nat) (v : Value) (ln : Nat → Nat) (f : Nat → Nat → O3) (w : World) (hv : HandsIn w v n ln f) (ho : OwnHands w g n (n + 4) ln f G) :
    Calls Tryz.prog 68 #[.slice (some ⟨g, 0, none⟩) n (n + 4), v] w fun e w' => e = .returned (.bool true) ∧ Dr w w' := by
  obtain ⟨a, c, rfl, hn, hf⟩ := hv
  have HF := hide hf
  clear hf
  have hn1 : (0 : Int) ≤ (n : Int) + 4 := by omega
  have hn2 : (n : Int) + 4 ≤ 140737488351232 := by omega
  go_enter Tryz.func68, Tryz.ntmps68
  go_wp2
  clear hn2 hn1
  go_loopw [6] (fun i wr => ∃ k : Nat, k ≤ n + 4 ∧ i = .int .i64 k ∧ Dr w wr) (fun i _ => n + 4 - (intOf i).toNat)
  case atStart => exact ⟨0, Nat.zero_le _, rfl, Dr.refl _⟩
  case round =>
    obtain ⟨k, hk, rfl, hd⟩ := hrel
    by_cases hlt : k < n + 4
    · by_cases hkn : k < n
      · rcases unhide HF with hz | ⟨b, off, rfl, hf⟩
        · omega
        obtain ⟨vi, g0, gi⟩ := hf k hkn
        clear hf
        have o0 := ho.heads k hlt hkn
        have oi := ho.own k hlt hkn
        rw [← hd.cell] at g0 o0
        have hk0 : (0 : Int) ≤ (k : Int) := by omega
        have hk1 : (k : Int) < (n : Int) := by omega
        have hk2 : (k : Int) < (n : Int) + 4 := by omega
        go_wp2
        go_quiet ((go_at_call 67; exact Calls.quiet_of (sameOps_any (G k) (ln k) vi (f k) _ (opsIn_dr (hd.more _) gi) (oi.dr (hd.more _)))))
        go_wp2
        go_roundw
        case rel => exact ⟨k + 1, by omega, by go_num, hd.more _⟩
        case measure => simp [intOf]; omega
      · have o0 := ho.pads k hlt (by omega)
        obtain ⟨p0, p1, p2⟩ := ho.pad k hlt (by omega)
        rw [← hd.cell] at o0 p0 p1 p2
        go_wp2
        go_roundw
        case rel => exact ⟨k + 1, by omega, by go_num, hd⟩
        case measure => simp [intOf]; omega
    · go_wp2
      go_ret
      exact ⟨by simp, hd⟩
end Go.Proofs.YtfmbebofllgmoaaGreatDoor
