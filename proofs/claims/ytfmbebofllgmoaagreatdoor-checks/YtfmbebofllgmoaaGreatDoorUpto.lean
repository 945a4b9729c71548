/-
  PROVED HERE: upTo at the kind KCheck, and so rerunlaw.Checks, answers true of every script in memory.
-/
import Derived.Test.YtfmbebofllgmoaaGreatDoorPlays
import Derived.Test.YtfmbebofllgmoaaGreatDoorLooks
namespace Go.Proofs.YtfmbebofllgmoaaGreatDoor
open Go.RowKit

/-- Ten cells hold a step of a script. -/
def StepAt (w : World) (b o : Nat) : Prop :=
  ∃ (kd : Int) (v1 v2 v3 : Value) (p4 p5 p6 p7 : Option Addr) (n4 c4 n5 c5 n6 c6 n7 c7 : Nat) (lg : ByteArray) (fu : Int) (ns nt nf : Nat) (s : Nat → O3) (tl fl : Nat → Nat) (t f : Nat → Nat → O3),
    (w.cell? ⟨b, o, none⟩ = some (.int .i64 kd) ∧ w.cell? ⟨b, o + 1, none⟩ = some v1 ∧ w.cell? ⟨b, o + 2, none⟩ = some v2 ∧ w.cell? ⟨b, o + 3, none⟩ = some v3 ∧ w.cell? ⟨b, o + 4, none⟩ = some (.slice p4 n4 c4) ∧
      w.cell? ⟨b, o + 5, none⟩ = some (.slice p5 n5 c5) ∧ w.cell? ⟨b, o + 6, none⟩ = some (.slice p6 n6 c6) ∧ w.cell? ⟨b, o + 7, none⟩ = some (.slice p7 n7 c7) ∧ w.cell? ⟨b, o + 8, none⟩ = some (.string lg) ∧ w.cell? ⟨b, o + 9, none⟩ = some (.int .i64 fu)) ∧
    OpsIn w v1 ns s ∧ HandsIn w v2 nt tl t ∧ HandsIn w v3 nf fl f

/-- A script in memory. -/
def ScriptIn (w : World) (v : Value) (n : Nat) : Prop :=
  ∃ a c, v = .slice a n c ∧ n ≤ 140737488351232 ∧ (n = 0 ∨ ∃ b off, a = some ⟨b, off, none⟩ ∧ ∀ i, i < n → StepAt w b (off + i * 10))

set_option maxHeartbeats 1000000 in
theorem upTo_check (v : Value) (n : Nat) (w : World) (ht : TabIn w) (hv : ScriptIn w v n) :
    Calls Tryz.prog 12 #[v, .int .i64 1, .int .i64 1] w fun e w' => e = .returned (.bool true) ∧ Below w.heap.size w w' := by
  obtain ⟨a, c, rfl, hn, hf⟩ := hv
  have HF := hide hf
  have HT := hide ht
  have h0 := tabIn_lt ht
  clear hf ht
  go_enter Tryz.func12, Tryz.ntmps12
  go_wp2
  go_loopw [8] (fun i wr => ∃ k : Nat, k ≤ n ∧ i = .int .i64 k ∧ Below w.heap.size w wr ∧ w.heap.size < wr.heap.size ∧ Hid (wr.cell? ⟨w.heap.size, 1, none⟩ = some (.slice none 0 0) ∧ wr.cell? ⟨w.heap.size, 2, none⟩ = some (.slice none 0 0) ∧ wr.cell? ⟨w.heap.size, 3, none⟩ = some (.slice none 0 0))) (fun i _ => n - (intOf i).toNat)
  case atStart => exact ⟨0, Nat.zero_le _, rfl, (Below.refl _ _).alloc (Nat.le_refl _) _, by simp, hide ⟨by simp, by simp, by simp⟩⟩
  case round =>
    obtain ⟨k, hk, rfl, hb, hsz, hbk⟩ := hrel
    by_cases hlt : k < n
    · rcases unhide HF with hz | ⟨b, off, rfl, hf⟩
      · omega
      obtain ⟨kd, v1, v2, v3, p4, p5, p6, p7, n4, c4, n5, c5, n6, c6, n7, c7, lg, fu, ns, nt, nf, s, tl, fl, t, f, ⟨d0, d1, d2, d3, d4, d5, d6, d7, d8, d9⟩, h1, h2, h3⟩ := hf k hlt
      have hlb : b < w.heap.size := World.block_lt_of_cell? _ _ d0
      rw [← bcel hb b _ hlb] at d0 d1 d2 d3 d4 d5 d6 d7 d8 d9
      have i1 := hide (opsIn_below hb h1)
      have i2 := hide (handsIn_below hb h2)
      have i3 := hide (handsIn_below hb h3)
      have hlb' : b < wr.heap.size := by have := hb.size; omega
      have HTr := hide (tabIn_below hb h0 (unhide HT))
      obtain ⟨a1, c1, rfl, _, _⟩ := h1
      obtain ⟨a2, c2, rfl, _, _⟩ := h2
      obtain ⟨a3, c3, rfl, _, _⟩ := h3
      clear hf
      obtain ⟨W1, hW⟩ : ∃ W1, W1 = wr.alloc (.cells #[.int .i64 kd, .slice a1 ns c1, .slice a2 nt c2, .slice a3 nf c3, .slice p4 n4 c4, .slice p5 n5 c5, .slice p6 n6 c6, .slice p7 n7 c7, .string lg, .int .i64 fu] 67) := ⟨_, rfl⟩
      have hb1 : Below wr.heap.size wr W1 := by subst hW; exact (Below.refl _ _).alloc (Nat.le_refl _) _
      have hbw : Below w.heap.size w W1 := hb.trans (hb1.mono (by omega))
      have hsw : w.heap.size < W1.heap.size := Nat.lt_of_lt_of_le hsz hb1.size
      by_cases hk1 : kd = 1
      · subst hk1
        have hp := plays_check w.heap.size _ _ _ (.slice p4 n4 c4) (.slice p5 n5 c5) (.slice p6 n6 c6) (.slice p7 n7 c7) (.string lg) (.int .i64 fu) ns nt nf s tl fl t f W1 (tabIn_below hb1 (by omega) (unhide HTr)) (opsIn_below hb1 (unhide i1)) (handsIn_below hb1 (unhide i2)) (handsIn_below hb1 (unhide i3))
        have HP := hide hp
        have HW := hide hW
        clear hp hW
        go_wp2_with fail
        rw [← unhide HW]
        refine (unhide HP).mono ?_
        rintro e w2 ⟨rfl, hb2⟩
        obtain ⟨k1, k2, k3⟩ := unhide hbk
        have m1 := (bcel (hb1.trans (hb2.mono hb1.size)) _ 1 hsz).trans k1
        have m2 := (bcel (hb1.trans (hb2.mono hb1.size)) _ 2 hsz).trans k2
        have m3 := (bcel (hb1.trans (hb2.mono hb1.size)) _ 3 hsz).trans k3
        have hl := looks_none w.heap.size w2 m1 m2 m3
        have HL := hide hl
        have HM := hide (And.intro m1 (And.intro m2 m3))
        have hb3 : Below w.heap.size w w2 := hbw.trans (hb2.mono (by omega))
        have hs3 : w.heap.size < w2.heap.size := Nat.lt_of_lt_of_le hsw hb2.size
        clear hl m1 m2 m3 k1 k2 k3 HP HW
        go_wp2_with fail
        refine (unhide HL).mono ?_
        rintro e w3 ⟨rfl, hw3⟩
        rw [hw3]
        clear HL hw3
        go_wp2
        go_roundw
        case rel => exact ⟨k + 1, by omega, by go_num, hb3, hs3, HM⟩
        case measure => simp [intOf]; omega
      · obtain ⟨k1, k2, k3⟩ := unhide hbk
        have HM := hide (And.intro ((bcel hb1 _ 1 hsz).trans k1) (And.intro ((bcel hb1 _ 2 hsz).trans k2) ((bcel hb1 _ 3 hsz).trans k3)))
        clear k1 k2 k3
        have HW := hide hW
        clear hW
        by_cases hk2 : 1 ≤ kd
        · have hk3 : ¬ kd ≤ 1 := by omega
          go_wp2
          rw [← unhide HW]
          go_roundw
          case rel => exact ⟨k + 1, by omega, by go_num, hbw, hsw, HM⟩
          case measure => simp [intOf]; omega
        · go_wp2
          rw [← unhide HW]
          go_roundw
          case rel => exact ⟨k + 1, by omega, by go_num, hbw, hsw, HM⟩
          case measure => simp [intOf]; omega
    · go_wp2
      go_ret
      exact ⟨rfl, hb⟩

theorem checks_any (v : Value) (n : Nat) (w : World) (ht : TabIn w) (hv : ScriptIn w v n) :
    Calls Tryz.prog 3 #[v] w fun e w' => e = .returned (.bool true) ∧ Below w.heap.size w w' := by
  have HU := hide (upTo_check v n w ht hv)
  clear ht hv
  go_enter Tryz.func3, Tryz.ntmps3
  go_wp2_with fail
  refine (unhide HU).mono ?_
  rintro e w1 ⟨rfl, hb⟩
  go_wp2
  go_ret
  exact ⟨rfl, hb⟩
end Go.Proofs.YtfmbebofllgmoaaGreatDoor
