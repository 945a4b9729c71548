/-
  PROVED HERE: one step of kind KCheck of a script is as the document says. a book in which nothing was written looks as its owner wrote it. upTo at the kind KCheck, and so rerunlaw.Checks, answers true of every script in memory. what a script, its programs and their handlers look like in memory, out of the form's own reading and reach. what a script looks like in memory, its logs' sizes within its bulk.
-/
import Derived.Test.YtfmbebofllgmoaaGreatDoorMbase
import Derived.ProofKit
import Derived.OpenShut
import Derived.SizedLaws
import Derived.Deep.Slices
import Derived.Deep.Strs
import Derived.Lib.SmallJoins
import Derived.Test.YtfmbebofllgmoaaGreatDoorMkept
namespace Go.Proofs.YtfmbebofllgmoaaGreatDoor
open Go.RowKit

theorem OwnOps.opsIn {w : World} {g n : Nat} {f : Nat → O3} (h : OwnOps w g (n + 4) (padF n f)) (hn : n * 24 ≤ 140737488351232) : OpsIn w (.slice (some ⟨g, 0, none⟩) n (n + 4)) n f := by
  refine ⟨_, _, rfl, hn, .inr ⟨g, 0, rfl, fun i hi => ?_⟩⟩
  have := h.cells i (by omega)
  rw [Nat.zero_add]
  simpa [padF, hi] using this
theorem OwnHands.handsIn {w : World} {g n : Nat} {ln : Nat → Nat} {f : Nat → Nat → O3} {G : Nat → Nat} (h : OwnHands w g n (n + 4) ln f G) (hn : n * 24 ≤ 140737488351232) (hl : ∀ i, i < n → ln i * 24 ≤ 140737488351232) :
    HandsIn w (.slice (some ⟨g, 0, none⟩) n (n + 4)) n ln f := by
  refine ⟨_, _, rfl, hn, .inr ⟨g, 0, rfl, fun i hi => ⟨_, ?_, (h.own i (by omega) hi).opsIn (hl i hi)⟩⟩⟩
  rw [Nat.zero_add]
  exact h.heads i (by omega) hi

set_option maxHeartbeats 1000000 in
/-- One step of kind KCheck. -/
theorem plays_check (bk : Nat) (v1 v2 v3 y4 y5 y6 y7 y8 y9 : Value) (ns nt nf : Nat) (s : Nat → O3) (tl fl : Nat → Nat) (t f : Nat → Nat → O3) (w : World) (ht : TabIn w) (h1 : OpsIn w v1 ns s) (h2 : HandsIn w v2 nt tl t) (h3 : HandsIn w v3 nf fl f) :
    Calls Tryz.prog 23 #[.pointer (some ⟨bk, 0, none⟩), .agg #[.int .i64 1, v1, v2, v3, y4, y5, y6, y7, y8, y9]] w fun e w' => e = .returned (.bool true) ∧ Below w.heap.size w w' := by
  have n1 := opsIn_len h1
  have n2 := handsIn_len h2
  have n3 := handsIn_len h3
  have e2 := handsIn_each h2
  have e3 := handsIn_each h3
  obtain ⟨W0, hW⟩ : ∃ W0, W0 = w.alloc (.cells #[.int .i64 1, v1, v2, v3, y4, y5, y6, y7, y8, y9] 67) := ⟨_, rfl⟩
  have hB0 : Below w.heap.size w W0 := by subst hW; exact (Below.refl _ _).alloc (Nat.le_refl _) _
  have hs0 : W0.heap.size = w.heap.size + 1 := by subst hW; simp
  have i1 := opsIn_below hB0 h1
  have i2 := handsIn_below hB0 h2
  have i3 := handsIn_below hB0 h3
  have x1 : W0.cell? ⟨w.heap.size, 1, none⟩ = some v1 := by subst hW; simp
  have x2 : W0.cell? ⟨w.heap.size, 2, none⟩ = some v2 := by subst hW; simp
  have x3 : W0.cell? ⟨w.heap.size, 3, none⟩ = some v3 := by subst hW; simp
  have HT := hide (tabIn_below hB0 (tabIn_lt ht) ht)
  have HW := hide hW
  clear hW ht h1 h2 h3
  go_enter Tryz.func23, Tryz.ntmps23
  go_wp2_with fail
  rw [← unhide HW]
  refine (program_any v1 v2 v3 ns nt nf s tl fl t f W0 i1 i2 i3).mono ?_
  rintro e w1 ⟨g1, g2, g3, G2, G3, rfl, hb1, k1, k12, k23, kG, o1, o2, o3⟩
  have p1 := (bcel hb1 _ 1 (show w.heap.size < W0.heap.size by omega)).trans x1
  have p2 := (bcel hb1 _ 2 (show w.heap.size < W0.heap.size by omega)).trans x2
  have p3 := (bcel hb1 _ 3 (show w.heap.size < W0.heap.size by omega)).trans x3
  have hs1 : w.heap.size < w1.heap.size := by have := hb1.size; omega
  obtain ⟨W2, hW2⟩ : ∃ W2, W2 = w1.alloc (.cells #[.slice (some ⟨g1, 0, none⟩) ns (ns + 4), .slice (some ⟨g2, 0, none⟩) nt (nt + 4), .slice (some ⟨g3, 0, none⟩) nf (nf + 4)] 33) := ⟨_, rfl⟩
  have hb2 : Below w1.heap.size w1 W2 := by subst hW2; exact (Below.refl _ _).alloc (Nat.le_refl _) _
  have l1 : g1 < w1.heap.size := opAt_lt (o1.cells 0 (by omega))
  have l2 : g2 < w1.heap.size := World.block_lt_of_cell? w1 ⟨g2, nt, none⟩ (o2.pads nt (by omega) (by omega))
  have l3 : g3 < w1.heap.size := World.block_lt_of_cell? w1 ⟨g3, nf, none⟩ (o3.pads nf (by omega) (by omega))
  have q1 := o1.below hb2 l1
  have q2 := o2.below hb2 l2 (fun i hi => (o2.far i hi).2)
  have q3 := o3.below hb2 l3 (fun i hi => (o3.far i hi).2)
  have r0 : W2.cell? ⟨w1.heap.size, 0, none⟩ = some (.slice (some ⟨g1, 0, none⟩) ns (ns + 4)) := by subst hW2; simp
  have r1 : W2.cell? ⟨w1.heap.size, 1, none⟩ = some (.slice (some ⟨g2, 0, none⟩) nt (nt + 4)) := by subst hW2; simp
  have r2 : W2.cell? ⟨w1.heap.size, 2, none⟩ = some (.slice (some ⟨g3, 0, none⟩) nf (nf + 4)) := by subst hW2; simp
  have hs2 : W2.heap.size = w1.heap.size + 1 := by subst hW2; simp
  have hb02 : Below W0.heap.size W0 W2 := hb1.trans (hb2.mono hb1.size)
  have HT2 := hide (tabIn_below hb02 (by omega) (unhide HT))
  have HW2 := hide hW2
  clear hW2 x1 x2 x3 HW
  go_wp2_with fail
  rw [← unhide HW2]
  refine (check_any _ _ _ ns nt nf s tl fl t f W2 (unhide HT2) (q1.opsIn n1) (q2.handsIn n2 e2) (q3.handsIn n3 e3)).mono ?_
  rintro e w3 ⟨x, rfl, ha, hb3⟩
  clear HW2
  have hb03 : Below W0.heap.size W0 w3 := hb02.trans (hb3.mono (by omega))
  have t0 := (bcel hb3 _ 0 (show w1.heap.size < W2.heap.size by omega)).trans r0
  have t1 := (bcel hb3 _ 1 (show w1.heap.size < W2.heap.size by omega)).trans r1
  have t2 := (bcel hb3 _ 2 (show w1.heap.size < W2.heap.size by omega)).trans r2
  have p1' := (bcel (hb2.trans (hb3.mono (by omega))) _ 1 hs1).trans p1
  have p2' := (bcel (hb2.trans (hb3.mono (by omega))) _ 2 hs1).trans p2
  have p3' := (bcel (hb2.trans (hb3.mono (by omega))) _ 3 hs1).trans p3
  have m1 := q1.below hb3 (by omega)
  have m2 := q2.below hb3 (by omega) (fun i hi => (q2.far i hi).2)
  have m3 := q3.below hb3 (by omega) (fun i hi => (q3.far i hi).2)
  clear p1 p2 p3 r0 r1 r2 q1 q2 q3 o1 o2 o3
  have HA := hide ha
  clear ha
  go_wp2_with fail
  refine (still_any W0.heap.size v1 v2 v3 g1 g2 g3 ns nt nf s tl fl G2 G3 t f w3 (opsIn_below hb03 i1) (handsIn_below hb03 i2) (handsIn_below hb03 i3) m1 m2 m3 k1 k12 k23 kG).mono ?_
  rintro e w4 ⟨rfl, hb4⟩
  have hb04 : Below W0.heap.size W0 w4 := hb03.trans hb4
  have u1 := (bcel hb4 w.heap.size 1 (by omega)).trans p1'
  have u2 := (bcel hb4 w.heap.size 2 (by omega)).trans p2'
  have u3 := (bcel hb4 w.heap.size 3 (by omega)).trans p3'
  clear p1' p2' p3' t0 t1 t2 m1 m2 m3
  go_wp2_with fail
  refine (rcheck_any v1 v2 v3 ns nt nf s tl fl t f w4 (opsIn_below hb04 i1) (handsIn_below hb04 i2) (handsIn_below hb04 i3)).mono ?_
  rintro e w5 ⟨x', rfl, ha', hb5⟩
  obtain rfl : x = x' := (unhide HA).one ha'
  have HB := hide hb5
  have hb05 : Below w.heap.size w w5 := hB0.trans ((hb04.trans (hb5.mono hb04.size)).mono (by omega))
  clear HA ha'
  go_wp2
  go_ret
  exact ⟨by simp, hb05⟩
end Go.Proofs.YtfmbebofllgmoaaGreatDoor
namespace Go.Proofs.YtfmbebofllgmoaaGreatDoor
open Go.RowKit

set_option maxHeartbeats 1000000 in
/-- A book in which nothing has been written yet. -/
theorem looks_none (bk : Nat) (w : World) (c1 : w.cell? ⟨bk, 1, none⟩ = some (.slice none 0 0)) (c2 : w.cell? ⟨bk, 2, none⟩ = some (.slice none 0 0)) (c3 : w.cell? ⟨bk, 3, none⟩ = some (.slice none 0 0)) :
    Calls Tryz.prog 24 #[.pointer (some ⟨bk, 0, none⟩)] w fun e w' => e = .returned (.bool true) ∧ w' = w := by
  go_enter Tryz.func24, Tryz.ntmps24
  go_wp2
  go_loop [3] (fun i => i = .int .i64 0) (fun _ => 0)
  case atStart => rfl
  case round =>
    subst hrel
    go_wp2
    go_loop [5] (fun i => i = .int .i64 0) (fun _ => 0)
    case atStart => rfl
    case round =>
      subst hrel
      go_wp2
      go_loop [7] (fun i => i = .int .i64 0) (fun _ => 0)
      case atStart => rfl
      case round =>
        subst hrel
        go_wp2
        go_ret
        exact ⟨rfl, rfl⟩
end Go.Proofs.YtfmbebofllgmoaaGreatDoor
namespace Go.Proofs.YtfmbebofllgmoaaGreatDoor
open Go.RowKit

/-- Ten cells hold a step of a script. -/
def StepAt (w : World) (b o : Nat) : Prop :=
  ∃ (kd : Int) (v1 v2 v3 : Value) (p4 p5 p6 p7 : Option Addr) (n4 c4 n5 c5 n6 c6 n7 c7 : Nat) (lg : ByteArray) (fu : Int) (ns nt nf : Nat) (s : Nat → O3) (tl fl : Nat → Nat) (t f : Nat → Nat → O3),
    (w.cell? ⟨b, o, none⟩ = some (.int .i64 kd) ∧ w.cell? ⟨b, o + 1, none⟩ = some v1 ∧ w.cell? ⟨b, o + 2, none⟩ = some v2 ∧ w.cell? ⟨b, o + 3, none⟩ = some v3 ∧ w.cell? ⟨b, o + 4, none⟩ = some (.slice p4 n4 c4) ∧
      w.cell? ⟨b, o + 5, none⟩ = some (.slice p5 n5 c5) ∧ w.cell? ⟨b, o + 6, none⟩ = some (.slice p6 n6 c6) ∧ w.cell? ⟨b, o + 7, none⟩ = some (.slice p7 n7 c7) ∧ w.cell? ⟨b, o + 8, none⟩ = some (.string lg) ∧ w.cell? ⟨b, o + 9, none⟩ = some (.int .i64 fu)) ∧
    OpsIn w v1 ns s ∧ HandsIn w v2 nt tl t ∧ HandsIn w v3 nf fl f

/-- A script in memory. -/
def ScriptIn (w : World) (v : Value) (n : Nat) : Prop :=
  ∃ a c, v = .slice a n c ∧ n ≤ 140737488351232 ∧ (n = 0 ∨ ∃ b off, a = some ⟨b, off, none⟩ ∧ ∀ i, i < n → StepAt w b (off + i * 10))

set_option maxHeartbeats 1000000 in
theorem upTo_check (v : Value) (n : Nat) (w : World) (ht : TabIn w) (hv : ScriptIn w v n) :
    Calls Tryz.prog 12 #[v, .int .i64 1, .int .i64 1] w fun e w' => e = .returned (.bool true) ∧ Below w.heap.size w w' := by
  obtain ⟨a, c, rfl, hn, hf⟩ := hv
  have HF := hide hf
  have HT := hide ht
  have h0 := tabIn_lt ht
  clear hf ht
  go_enter Tryz.func12, Tryz.ntmps12
  go_wp2
  go_loopw [8] (fun i wr => ∃ k : Nat, k ≤ n ∧ i = .int .i64 k ∧ Below w.heap.size w wr ∧ w.heap.size < wr.heap.size ∧ Hid (wr.cell? ⟨w.heap.size, 1, none⟩ = some (.slice none 0 0) ∧ wr.cell? ⟨w.heap.size, 2, none⟩ = some (.slice none 0 0) ∧ wr.cell? ⟨w.heap.size, 3, none⟩ = some (.slice none 0 0))) (fun i _ => n - (intOf i).toNat)
  case atStart => exact ⟨0, Nat.zero_le _, rfl, (Below.refl _ _).alloc (Nat.le_refl _) _, by simp, hide ⟨by simp, by simp, by simp⟩⟩
  case round =>
    obtain ⟨k, hk, rfl, hb, hsz, hbk⟩ := hrel
    by_cases hlt : k < n
    · rcases unhide HF with hz | ⟨b, off, rfl, hf⟩
      · omega
      obtain ⟨kd, v1, v2, v3, p4, p5, p6, p7, n4, c4, n5, c5, n6, c6, n7, c7, lg, fu, ns, nt, nf, s, tl, fl, t, f, ⟨d0, d1, d2, d3, d4, d5, d6, d7, d8, d9⟩, h1, h2, h3⟩ := hf k hlt
      have hlb : b < w.heap.size := World.block_lt_of_cell? _ _ d0
      rw [← bcel hb b _ hlb] at d0 d1 d2 d3 d4 d5 d6 d7 d8 d9
      have i1 := hide (opsIn_below hb h1)
      have i2 := hide (handsIn_below hb h2)
      have i3 := hide (handsIn_below hb h3)
      have hlb' : b < wr.heap.size := by have := hb.size; omega
      have HTr := hide (tabIn_below hb h0 (unhide HT))
      obtain ⟨a1, c1, rfl, _, _⟩ := h1
      obtain ⟨a2, c2, rfl, _, _⟩ := h2
      obtain ⟨a3, c3, rfl, _, _⟩ := h3
      clear hf
      obtain ⟨W1, hW⟩ : ∃ W1, W1 = wr.alloc (.cells #[.int .i64 kd, .slice a1 ns c1, .slice a2 nt c2, .slice a3 nf c3, .slice p4 n4 c4, .slice p5 n5 c5, .slice p6 n6 c6, .slice p7 n7 c7, .string lg, .int .i64 fu] 67) := ⟨_, rfl⟩
      have hb1 : Below wr.heap.size wr W1 := by subst hW; exact (Below.refl _ _).alloc (Nat.le_refl _) _
      have hbw : Below w.heap.size w W1 := hb.trans (hb1.mono (by omega))
      have hsw : w.heap.size < W1.heap.size := Nat.lt_of_lt_of_le hsz hb1.size
      by_cases hk1 : kd = 1
      · subst hk1
        have hp := plays_check w.heap.size _ _ _ (.slice p4 n4 c4) (.slice p5 n5 c5) (.slice p6 n6 c6) (.slice p7 n7 c7) (.string lg) (.int .i64 fu) ns nt nf s tl fl t f W1 (tabIn_below hb1 (by omega) (unhide HTr)) (opsIn_below hb1 (unhide i1)) (handsIn_below hb1 (unhide i2)) (handsIn_below hb1 (unhide i3))
        have HP := hide hp
        have HW := hide hW
        clear hp hW
        go_wp2_with fail
        rw [← unhide HW]
        refine (unhide HP).mono ?_
        rintro e w2 ⟨rfl, hb2⟩
        obtain ⟨k1, k2, k3⟩ := unhide hbk
        have m1 := (bcel (hb1.trans (hb2.mono hb1.size)) _ 1 hsz).trans k1
        have m2 := (bcel (hb1.trans (hb2.mono hb1.size)) _ 2 hsz).trans k2
        have m3 := (bcel (hb1.trans (hb2.mono hb1.size)) _ 3 hsz).trans k3
        have hl := looks_none w.heap.size w2 m1 m2 m3
        have HL := hide hl
        have HM := hide (And.intro m1 (And.intro m2 m3))
        have hb3 : Below w.heap.size w w2 := hbw.trans (hb2.mono (by omega))
        have hs3 : w.heap.size < w2.heap.size := Nat.lt_of_lt_of_le hsw hb2.size
        clear hl m1 m2 m3 k1 k2 k3 HP HW
        go_wp2_with fail
        refine (unhide HL).mono ?_
        rintro e w3 ⟨rfl, hw3⟩
        rw [hw3]
        clear HL hw3
        go_wp2
        go_roundw
        case rel => exact ⟨k + 1, by omega, by go_num, hb3, hs3, HM⟩
        case measure => simp [intOf]; omega
      · obtain ⟨k1, k2, k3⟩ := unhide hbk
        have HM := hide (And.intro ((bcel hb1 _ 1 hsz).trans k1) (And.intro ((bcel hb1 _ 2 hsz).trans k2) ((bcel hb1 _ 3 hsz).trans k3)))
        clear k1 k2 k3
        have HW := hide hW
        clear hW
        by_cases hk2 : 1 ≤ kd
        · have hk3 : ¬ kd ≤ 1 := by omega
          go_wp2
          rw [← unhide HW]
          go_roundw
          case rel => exact ⟨k + 1, by omega, by go_num, hbw, hsw, HM⟩
          case measure => simp [intOf]; omega
        · go_wp2
          rw [← unhide HW]
          go_roundw
          case rel => exact ⟨k + 1, by omega, by go_num, hbw, hsw, HM⟩
          case measure => simp [intOf]; omega
    · go_wp2
      go_ret
      exact ⟨rfl, hb⟩

theorem checks_any (v : Value) (n : Nat) (w : World) (ht : TabIn w) (hv : ScriptIn w v n) :
    Calls Tryz.prog 3 #[v] w fun e w' => e = .returned (.bool true) ∧ Below w.heap.size w w' := by
  have HU := hide (upTo_check v n w ht hv)
  clear ht hv
  go_enter Tryz.func3, Tryz.ntmps3
  go_wp2_with fail
  refine (unhide HU).mono ?_
  rintro e w1 ⟨rfl, hb⟩
  go_wp2
  go_ret
  exact ⟨rfl, hb⟩
end Go.Proofs.YtfmbebofllgmoaaGreatDoor
namespace Go.Proofs.YtfmbebofllgmoaaGreatDoor
open Go.ChangeShapes Go.WideShapes Go.ChangeAt Go.RowKit Go.Deep

theorem cells72 : Tryz.prog.cellsOf 70 = 3 := by kernel_rfl
theorem cells31 : Tryz.prog.cellsOf 31 = 1 := by kernel_rfl
theorem cells32 : Tryz.prog.cellsOf 25 = 1 := by kernel_rfl
theorem cells34 : Tryz.prog.cellsOf 33 = 3 := by kernel_rfl
theorem cells35 : Tryz.prog.cellsOf 26 = 1 := by kernel_rfl
theorem cells36 : Tryz.prog.cellsOf 27 = 1 := by kernel_rfl
theorem cells38 : Tryz.prog.cellsOf 29 = 4 := by kernel_rfl
theorem cells40 : Tryz.prog.cellsOf 67 = 10 := by kernel_rfl
theorem cells3 : Tryz.prog.cellsOf 3 = 1 := by kernel_rfl
theorem cells9 : Tryz.prog.cellsOf 9 = 1 := by kernel_rfl
theorem bytes72 : Tryz.prog.bytesOf 70 = 24 := by kernel_rfl
theorem bytes31 : Tryz.prog.bytesOf 31 = 24 := by kernel_rfl
theorem bytes40 : Tryz.prog.bytesOf 67 = 200 := by kernel_rfl

/-- Every part of a datum is within the form's own reach. -/
def Wt {H : Type} (t : TypeId) (d : DataW H) : Prop := ∀ n ∈ d.weights Tryz.prog t, n ≤ reachBytes

section
variable {H : Type} {enc : TypeId × Value → H} {w : World} {spare : Nat → Bool} {held : Bool}

theorem weightsAll_mem {e : TypeId} {d : DataW H} : ∀ {l : List (DataW H)}, d ∈ l → ∀ n ∈ d.weights Tryz.prog e, n ∈ DataW.weightsAll Tryz.prog e l
  | x :: r, h, n, hn => by
    rw [DataW.weightsAll, List.mem_append]
    rcases List.mem_cons.1 h with rfl | h
    · exact .inl hn
    · exact .inr (weightsAll_mem h n hn)

theorem Wt.len {t e : TypeId} {elems sp : List (DataW H)} (h : Wt t (.slice elems sp)) (hu : Tryz.prog.underlying t = some (.slice e)) : (elems.length + sp.length) * Tryz.prog.bytesOf e ≤ reachBytes :=
  h _ (by simp [DataW.weights, hu])
theorem Wt.elem {t e : TypeId} {elems sp : List (DataW H)} (h : Wt t (.slice elems sp)) (hu : Tryz.prog.underlying t = some (.slice e)) {d : DataW H} (hd : d ∈ elems) : Wt e d := fun n hn =>
  h n (by simp only [DataW.weights, hu, List.mem_cons, List.mem_append]; exact .inr (.inl (weightsAll_mem hd n hn)))
theorem Wt.field {t : TypeId} {fs : Array Field} {parts : List (DataW H)} (h : Wt t (.agg parts)) (hu : Tryz.prog.underlying t = some (.struct fs)) {j : Nat} {tj : TypeId} {d : DataW H} (hj : (fs.toList.map (·.type))[j]? = some tj) (hd : parts[j]? = some d) : Wt tj d := fun n hn =>
  h n (by simp only [DataW.weights, hu]; exact DataW.weights_mem_each hj hd n hn)

theorem addr_of {a : Addr} {n : Nat} {cs : List Value} (h : w.cells? 0 (a.add 0) n = some cs) (hn : 0 < n) : ∃ b off, a = ⟨b, off, none⟩ := by
  obtain ⟨_, hl, hc⟩ := World.cells?_some h
  obtain ⟨b, off, spot⟩ := a
  have h0 := hc 0 hn
  rw [List.getElem?_eq_getElem (by omega)] at h0
  have hspot : spot = none := by simpa [Addr.add] using World.cell?_spot h0
  subst hspot
  exact ⟨b, off, rfl⟩

/-- An operation in memory. -/
theorem down_op {fuel : Nat} {cs : List Value} {x : DataW H × List MemPlace} (h : DataW.trod enc Tryz.prog w 0 spare held fuel 70 cs = some x) : ∃ o : O3, cs = [.int .i64 o.1, .int .i64 o.2.1, .int .i64 o.2.2] := by
  obtain ⟨y0, y1, y2, n, rfl, hl, h0, h1, h2⟩ := trod_struct3 Tryz.underlying70 h
  rw [cells72] at hl
  simp only [cells3] at h0 h1 h2
  match cs, hl with
  | [c0, c1, c2], _ =>
    obtain ⟨a, e0, _, _⟩ := DataW.trod_int Tryz.underlying3 h0
    obtain ⟨b, e1, _, _⟩ := DataW.trod_int Tryz.underlying3 h1
    obtain ⟨c, e2, _, _⟩ := DataW.trod_int Tryz.underlying3 h2
    simp at e0 e1 e2
    subst e0 e1 e2
    exact ⟨(a, b, c), rfl⟩

/-- A handler in memory. -/
theorem down_ops {fuel : Nat} {cs : List Value} {x : DataW H × List MemPlace} (h : DataW.trod enc Tryz.prog w 0 spare held fuel 31 cs = some x) (hw : Wt 31 x.1) : ∃ v n f, cs = [v] ∧ OpsIn w v n f := by
  rcases open_slice Tryz.underlying31 h with ⟨rfl, rfl⟩ | ⟨a, len, cap, m, n, D, Pl, rfl, _, hlc, _, hm, rfl, hx⟩
  · exact ⟨_, 0, fun _ => (0, 0, 0), rfl, none, 0, rfl, by omega, .inl rfl⟩
  have hml : len ≤ m := by rw [hm]; split <;> omega
  have hb := hw.len Tryz.underlying31
  rw [bytes72, List.length_map, List.length_range] at hb
  have hb' : len * 24 ≤ 140737488351232 := Nat.le_trans (Nat.mul_le_mul_right 24 (Nat.le_add_right _ _)) hb
  rw [cells72] at hx
  have hall : ∀ i, i < len → ∃ o : O3, w.cells? 0 (a.add (i * 3)) 3 = some [.int .i64 o.1, .int .i64 o.2.1, .int .i64 o.2.2] := by
    intro i hi
    obtain ⟨cs', h1, h2⟩ := hx i (by omega)
    obtain ⟨o, rfl⟩ := down_op h2
    exact ⟨o, h1⟩
  obtain ⟨f, hf⟩ := choose_lt (α := O3) hall
  refine ⟨_, len, f, rfl, some a, cap, rfl, hb', ?_⟩
  by_cases h0 : len = 0
  · exact .inl h0
  right
  obtain ⟨b, off, rfl⟩ := addr_of (hf 0 (by omega)) (by omega)
  refine ⟨b, off, rfl, fun i hi => ?_⟩
  obtain ⟨_, _, hc⟩ := World.cells?_some (hf i hi)
  rw [Go.WideShapes.add_plain] at hc
  have g0 := hc 0 (by omega)
  have g1 := hc 1 (by omega)
  have g2 := hc 2 (by omega)
  rw [Go.WideShapes.add_plain] at g0 g1 g2
  exact ⟨by simpa using g0, by simpa using g1, by simpa using g2⟩

/-- A list of handlers in memory. -/
theorem down_hands {fuel : Nat} {cs : List Value} {x : DataW H × List MemPlace} (h : DataW.trod enc Tryz.prog w 0 spare held fuel 25 cs = some x) (hw : Wt 25 x.1) : ∃ v n l f, cs = [v] ∧ HandsIn w v n l f := by
  rcases open_slice1 Tryz.underlying25 cells31 h with ⟨rfl, rfl⟩ | ⟨a, len, cap, m, n, V, D, Pl, rfl, _, hlc, _, hm, rfl, hx⟩
  · exact ⟨_, 0, fun _ => 0, fun _ _ => (0, 0, 0), rfl, none, 0, rfl, by omega, .inl rfl⟩
  have hml : len ≤ m := by rw [hm]; split <;> omega
  have hb := hw.len Tryz.underlying25
  rw [bytes31, List.length_map, List.length_range] at hb
  have hb' : len * 24 ≤ 140737488351232 := Nat.le_trans (Nat.mul_le_mul_right 24 (Nat.le_add_right _ _)) hb
  have hall : ∀ i, i < len → ∃ p : Nat × (Nat → O3), OpsIn w (V i) p.1 p.2 := by
    intro i hi
    obtain ⟨_, h2⟩ := hx i (by omega)
    have hwi : Wt 31 (D i) := hw.elem Tryz.underlying25 (List.mem_map.2 ⟨i, List.mem_range.2 hi, rfl⟩)
    obtain ⟨v, k, f, e, ho⟩ := down_ops h2 hwi
    simp only [List.cons.injEq, and_true] at e
    subst e
    exact ⟨(k, f), ho⟩
  obtain ⟨p, hp⟩ := choose_lt (α := Nat × (Nat → O3)) hall
  refine ⟨_, len, fun i => (p i).1, fun i => (p i).2, rfl, some a, cap, rfl, hb', ?_⟩
  by_cases h0 : len = 0
  · exact .inl h0
  right
  obtain ⟨b, off, spot⟩ := a
  have hspot : spot = none := by simpa [Addr.add] using World.cell?_spot (hx 0 (by omega)).1
  subst hspot
  refine ⟨b, off, rfl, fun i hi => ⟨V i, ?_, hp i hi⟩⟩
  rw [← Go.WideShapes.add_plain]
  exact (hx i (by omega)).1

/-- A slice of whatever, as one cell. -/
theorem down_slice {t e : TypeId} (hu : Tryz.prog.underlying t = some (.slice e)) {fuel : Nat} {cs : List Value} {x : DataW H × List MemPlace} (h : DataW.trod enc Tryz.prog w 0 spare held fuel t cs = some x) : ∃ p n c, cs = [.slice p n c] := by
  rcases open_slice hu h with ⟨rfl, _⟩ | ⟨a, len, cap, _, _, _, _, rfl, _⟩
  · exact ⟨_, _, _, rfl⟩
  · exact ⟨_, _, _, rfl⟩

theorem list10 : ∀ {cs : List Value}, cs.length = 10 → ∃ k0 k1 k2 k3 k4 k5 k6 k7 k8 k9, cs = [k0, k1, k2, k3, k4, k5, k6, k7, k8, k9]
  | k0 :: k1 :: k2 :: k3 :: k4 :: k5 :: k6 :: k7 :: k8 :: k9 :: r, h => by
    have : r = [] := List.eq_nil_of_length_eq_zero (by simpa using h)
    subst this
    exact ⟨k0, k1, k2, k3, k4, k5, k6, k7, k8, k9, rfl⟩
theorem list5 {α : Type} : ∀ {cs : List α}, cs.length = 5 → ∃ k0 k1 k2 k3 k4, cs = [k0, k1, k2, k3, k4]
  | k0 :: k1 :: k2 :: k3 :: k4 :: r, h => by
    have : r = [] := List.eq_nil_of_length_eq_zero (by simpa using h)
    subst this
    exact ⟨k0, k1, k2, k3, k4, rfl⟩

/-- A step of a script: its ten cells. -/
theorem down_step {fuel : Nat} {cs : List Value} {x : DataW H × List MemPlace} (h : DataW.trod enc Tryz.prog w 0 spare held fuel 67 cs = some x) (hw : Wt 67 x.1) :
    ∃ (kd : Int) (v1 v2 v3 : Value) (p4 p5 p6 p7 : Option Addr) (n4 c4 n5 c5 n6 c6 n7 c7 : Nat) (lg : ByteArray) (fu : Int) (ns nt nf : Nat) (s : Nat → O3) (tl fl : Nat → Nat) (t f : Nat → Nat → O3),
      cs = [.int .i64 kd, v1, v2, v3, .slice p4 n4 c4, .slice p5 n5 c5, .slice p6 n6 c6, .slice p7 n7 c7, .string lg, .int .i64 fu] ∧ OpsIn w v1 ns s ∧ HandsIn w v2 nt tl t ∧ HandsIn w v3 nf fl f := by
  obtain ⟨xs, n, _, rfl, hl, hlen, hf⟩ := DataW.trod_struct Tryz.underlying67 h
  rw [cells40] at hl
  obtain ⟨z0, z1, z2, z3, z4, rfl⟩ := list5 hlen
  have f0 : DataW.trod enc Tryz.prog w 0 spare held n 3 ((cs.drop 0).take (Tryz.prog.cellsOf 3)) = some z0 := hf 0 _ rfl
  have f1 : DataW.trod enc Tryz.prog w 0 spare held n 33 ((cs.drop 1).take (Tryz.prog.cellsOf 33)) = some z1 := hf 1 _ rfl
  have f2 : DataW.trod enc Tryz.prog w 0 spare held n 29 ((cs.drop 4).take (Tryz.prog.cellsOf 29)) = some z2 := hf 2 _ rfl
  have f3 : DataW.trod enc Tryz.prog w 0 spare held n 9 ((cs.drop 8).take (Tryz.prog.cellsOf 9)) = some z3 := hf 3 _ rfl
  have f4 : DataW.trod enc Tryz.prog w 0 spare held n 3 ((cs.drop 9).take (Tryz.prog.cellsOf 3)) = some z4 := hf 4 _ rfl
  rw [cells3] at f0 f4
  rw [cells34] at f1
  rw [cells38] at f2
  rw [cells9] at f3
  obtain ⟨k0, k1, k2, k3, k4, k5, k6, k7, k8, k9, rfl⟩ := list10 hl
  simp at f0 f1 f2 f3 f4
  obtain ⟨kd, e0, _, _⟩ := DataW.trod_int Tryz.underlying3 f0
  obtain ⟨fu, e4, _, _⟩ := DataW.trod_int Tryz.underlying3 f4
  obtain ⟨lg, e3, _, _⟩ := DataW.trod_string Tryz.underlying9 f3
  obtain ⟨y0, y1, y2, n', hz1, _, g0, g1, g2⟩ := trod_struct3 Tryz.underlying33 f1
  simp only [cells31, cells32] at g0 g1 g2
  simp at g0 g1 g2
  obtain ⟨u0, u1, u2, u3, n'', _, _, q0, q1, q2, q3⟩ := Go.Joins.trod_struct4 Tryz.underlying29 f2
  simp only [cells35, cells36] at q0 q1 q2 q3
  simp at q0 q1 q2 q3
  have hw1 : Wt 33 z1.1 := hw.field (j := 1) Tryz.underlying67 rfl rfl
  rw [hz1] at hw1
  have w0 : Wt 31 y0.1 := hw1.field (j := 0) Tryz.underlying33 rfl rfl
  have w1 : Wt 25 y1.1 := hw1.field (j := 1) Tryz.underlying33 rfl rfl
  have w2 : Wt 25 y2.1 := hw1.field (j := 2) Tryz.underlying33 rfl rfl
  obtain ⟨v1, ns, s, a1, o1⟩ := down_ops g0 w0
  obtain ⟨v2, nt, tl, t, a2, o2⟩ := down_hands g1 w1
  obtain ⟨v3, nf, fl, f, a3, o3⟩ := down_hands g2 w2
  obtain ⟨p4, n4, c4, a4⟩ := down_slice Tryz.underlying26 q0
  obtain ⟨p5, n5, c5, a5⟩ := down_slice Tryz.underlying27 q1
  obtain ⟨p6, n6, c6, a6⟩ := down_slice Tryz.underlying26 q2
  obtain ⟨p7, n7, c7, a7⟩ := down_slice Tryz.underlying26 q3
  simp only [List.cons.injEq, and_true] at e0 e3 e4 a1 a2 a3 a4 a5 a6 a7
  subst e0 e3 e4 a1 a2 a3 a4 a5 a6 a7
  exact ⟨kd, k1, k2, k3, p4, p5, p6, p7, n4, c4, n5, c5, n6, c6, n7, c7, lg, fu, ns, nt, nf, s, tl, fl, t, f, rfl, o1, o2, o3⟩

/-- A script in memory. -/
theorem down_script {fuel : Nat} {cs : List Value} {x : DataW H × List MemPlace} (h : DataW.trod enc Tryz.prog w 0 spare held fuel 22 cs = some x) (hw : Wt 22 x.1) : ∃ v n, cs = [v] ∧ ScriptIn w v n := by
  rcases open_slice Tryz.underlying22 h with ⟨rfl, rfl⟩ | ⟨a, len, cap, m, n, D, Pl, rfl, _, hlc, _, hm, rfl, hx⟩
  · exact ⟨_, 0, rfl, none, 0, rfl, by omega, .inl rfl⟩
  have hml : len ≤ m := by rw [hm]; split <;> omega
  have hb := hw.len Tryz.underlying22
  rw [bytes40, List.length_map, List.length_range] at hb
  have hb' : len ≤ 140737488351232 := by
    have h1 : len * 200 ≤ 140737488351232 := Nat.le_trans (Nat.mul_le_mul_right 200 (Nat.le_add_right _ _)) hb
    omega
  rw [cells40] at hx
  refine ⟨_, len, rfl, some a, cap, rfl, hb', ?_⟩
  by_cases h0 : len = 0
  · exact .inl h0
  right
  have ha : ∃ b off, a = ⟨b, off, none⟩ := by
    obtain ⟨cs', h1, _⟩ := hx 0 (by omega)
    rw [Nat.zero_mul] at h1
    exact addr_of h1 (by omega)
  obtain ⟨b, off, rfl⟩ := ha
  refine ⟨b, off, rfl, fun i hi => ?_⟩
  obtain ⟨cs', h1, h2⟩ := hx i (by omega)
  have hwi : Wt 67 (D i) := hw.elem Tryz.underlying22 (List.mem_map.2 ⟨i, List.mem_range.2 hi, rfl⟩)
  obtain ⟨kd, v1, v2, v3, p4, p5, p6, p7, n4, c4, n5, c5, n6, c6, n7, c7, lg, fu, ns, nt, nf, s, tl, fl, t, f, rfl, o1, o2, o3⟩ := down_step h2 hwi
  obtain ⟨_, _, hc⟩ := World.cells?_some h1
  rw [Go.WideShapes.add_plain] at hc
  have hc' : ∀ j, j < 10 → w.cell? ⟨b, off + i * 10 + j, none⟩ = ([.int .i64 kd, v1, v2, v3, .slice p4 n4 c4, .slice p5 n5 c5, .slice p6 n6 c6, .slice p7 n7 c7, .string lg, .int .i64 fu] : List Value)[j]? := fun j hj => by rw [← Go.WideShapes.add_plain]; exact hc j hj
  exact ⟨kd, v1, v2, v3, p4, p5, p6, p7, n4, c4, n5, c5, n6, c6, n7, c7, lg, fu, ns, nt, nf, s, tl, fl, t, f,
    ⟨by simpa using hc' 0 (by omega), by simpa using hc' 1 (by omega), by simpa using hc' 2 (by omega), by simpa using hc' 3 (by omega), by simpa using hc' 4 (by omega), by simpa using hc' 5 (by omega), by simpa using hc' 6 (by omega), by simpa using hc' 7 (by omega), by simpa using hc' 8 (by omega), by simpa using hc' 9 (by omega)⟩, o1, o2, o3⟩
end
end Go.Proofs.YtfmbebofllgmoaaGreatDoor
namespace Go.Proofs.YtfmbebofllgmoaaGreatDoor
open Go.ChangeShapes Go.WideShapes Go.ChangeAt Go.RowKit Go.Deep

/-- Ten cells hold a step of a script. -/
def StepAtL (N : Nat) (w : World) (b o : Nat) : Prop :=
  ∃ (kd : Int) (v1 v2 v3 : Value) (p4 p5 p6 p7 : Option Addr) (n4 c4 n5 c5 n6 c6 n7 c7 : Nat) (lg : ByteArray) (fu : Int) (ns nt nf : Nat) (s : Nat → O3) (tl fl : Nat → Nat) (t f : Nat → Nat → O3),
    (w.cell? ⟨b, o, none⟩ = some (.int .i64 kd) ∧ w.cell? ⟨b, o + 1, none⟩ = some v1 ∧ w.cell? ⟨b, o + 2, none⟩ = some v2 ∧ w.cell? ⟨b, o + 3, none⟩ = some v3 ∧ w.cell? ⟨b, o + 4, none⟩ = some (.slice p4 n4 c4) ∧
      w.cell? ⟨b, o + 5, none⟩ = some (.slice p5 n5 c5) ∧ w.cell? ⟨b, o + 6, none⟩ = some (.slice p6 n6 c6) ∧ w.cell? ⟨b, o + 7, none⟩ = some (.slice p7 n7 c7) ∧ w.cell? ⟨b, o + 8, none⟩ = some (.string lg) ∧ w.cell? ⟨b, o + 9, none⟩ = some (.int .i64 fu)) ∧
    OpsIn w v1 ns s ∧ HandsIn w v2 nt tl t ∧ HandsIn w v3 nf fl f ∧ lg.size ≤ N

/-- A script in memory. -/
def ScriptInL (N : Nat) (w : World) (v : Value) (n : Nat) : Prop :=
  ∃ a c, v = .slice a n c ∧ n ≤ N ∧ (n = 0 ∨ ∃ b off, a = some ⟨b, off, none⟩ ∧ ∀ i, i < n → StepAtL N w b (off + i * 10))

section
variable {H : Type} {enc : TypeId × Value → H} {w : World} {spare : Nat → Bool} {held : Bool}
/-- A step of a script: its ten cells. -/
theorem down_stepL {fuel : Nat} {cs : List Value} {x : DataW H × List MemPlace} (h : DataW.trod enc Tryz.prog w 0 spare held fuel 67 cs = some x) (hw : Wt 67 x.1) :
    ∃ (kd : Int) (v1 v2 v3 : Value) (p4 p5 p6 p7 : Option Addr) (n4 c4 n5 c5 n6 c6 n7 c7 : Nat) (lg : ByteArray) (fu : Int) (ns nt nf : Nat) (s : Nat → O3) (tl fl : Nat → Nat) (t f : Nat → Nat → O3),
      cs = [.int .i64 kd, v1, v2, v3, .slice p4 n4 c4, .slice p5 n5 c5, .slice p6 n6 c6, .slice p7 n7 c7, .string lg, .int .i64 fu] ∧ OpsIn w v1 ns s ∧ HandsIn w v2 nt tl t ∧ HandsIn w v3 nf fl f ∧ lg.size ≤ Rows.uptoBulk x.1 := by
  obtain ⟨xs, n, _, rfl, hl, hlen, hf⟩ := DataW.trod_struct Tryz.underlying67 h
  rw [cells40] at hl
  obtain ⟨z0, z1, z2, z3, z4, rfl⟩ := list5 hlen
  have f0 : DataW.trod enc Tryz.prog w 0 spare held n 3 ((cs.drop 0).take (Tryz.prog.cellsOf 3)) = some z0 := hf 0 _ rfl
  have f1 : DataW.trod enc Tryz.prog w 0 spare held n 33 ((cs.drop 1).take (Tryz.prog.cellsOf 33)) = some z1 := hf 1 _ rfl
  have f2 : DataW.trod enc Tryz.prog w 0 spare held n 29 ((cs.drop 4).take (Tryz.prog.cellsOf 29)) = some z2 := hf 2 _ rfl
  have f3 : DataW.trod enc Tryz.prog w 0 spare held n 9 ((cs.drop 8).take (Tryz.prog.cellsOf 9)) = some z3 := hf 3 _ rfl
  have f4 : DataW.trod enc Tryz.prog w 0 spare held n 3 ((cs.drop 9).take (Tryz.prog.cellsOf 3)) = some z4 := hf 4 _ rfl
  rw [cells3] at f0 f4
  rw [cells34] at f1
  rw [cells38] at f2
  rw [cells9] at f3
  obtain ⟨k0, k1, k2, k3, k4, k5, k6, k7, k8, k9, rfl⟩ := list10 hl
  simp at f0 f1 f2 f3 f4
  obtain ⟨kd, e0, _, _⟩ := DataW.trod_int Tryz.underlying3 f0
  obtain ⟨fu, e4, _, _⟩ := DataW.trod_int Tryz.underlying3 f4
  obtain ⟨lg, e3, hx3, _⟩ := DataW.trod_string Tryz.underlying9 f3
  obtain ⟨y0, y1, y2, n', hz1, _, g0, g1, g2⟩ := trod_struct3 Tryz.underlying33 f1
  simp only [cells31, cells32] at g0 g1 g2
  simp at g0 g1 g2
  obtain ⟨u0, u1, u2, u3, n'', _, _, q0, q1, q2, q3⟩ := Go.Joins.trod_struct4 Tryz.underlying29 f2
  simp only [cells35, cells36] at q0 q1 q2 q3
  simp at q0 q1 q2 q3
  have hw1 : Wt 33 z1.1 := hw.field (j := 1) Tryz.underlying67 rfl rfl
  rw [hz1] at hw1
  have w0 : Wt 31 y0.1 := hw1.field (j := 0) Tryz.underlying33 rfl rfl
  have w1 : Wt 25 y1.1 := hw1.field (j := 1) Tryz.underlying33 rfl rfl
  have w2 : Wt 25 y2.1 := hw1.field (j := 2) Tryz.underlying33 rfl rfl
  obtain ⟨v1, ns, s, a1, o1⟩ := down_ops g0 w0
  obtain ⟨v2, nt, tl, t, a2, o2⟩ := down_hands g1 w1
  obtain ⟨v3, nf, fl, f, a3, o3⟩ := down_hands g2 w2
  obtain ⟨p4, n4, c4, a4⟩ := down_slice Tryz.underlying26 q0
  obtain ⟨p5, n5, c5, a5⟩ := down_slice Tryz.underlying27 q1
  obtain ⟨p6, n6, c6, a6⟩ := down_slice Tryz.underlying26 q2
  obtain ⟨p7, n7, c7, a7⟩ := down_slice Tryz.underlying26 q3
  simp only [List.cons.injEq, and_true] at e0 e3 e4 a1 a2 a3 a4 a5 a6 a7
  subst e0 e3 e4 a1 a2 a3 a4 a5 a6 a7
  exact ⟨kd, k1, k2, k3, p4, p5, p6, p7, n4, c4, n5, c5, n6, c6, n7, c7, lg, fu, ns, nt, nf, s, tl, fl, t, f, rfl, o1, o2, o3, by
    have hb : Rows.uptoBulk z3.1 ≤ Rows.uptoBulkAll [z0.1, z1.1, z2.1, z3.1, z4.1] := blk_part (by simp)
    have hz : Rows.uptoBulk z3.1 = lg.size + 1 := by rw [hx3]; simp [Rows.uptoBulk]
    have ha : Rows.uptoBulkAll [z0.1, z1.1, z2.1, z3.1, z4.1] ≤ Rows.uptoBulk (DataW.agg [z0.1, z1.1, z2.1, z3.1, z4.1]) := by simp only [Rows.uptoBulk]; omega
    exact Nat.le_trans (by omega) ha⟩

/-- A script in memory. -/
theorem down_scriptL {fuel : Nat} {cs : List Value} {x : DataW H × List MemPlace} (h : DataW.trod enc Tryz.prog w 0 spare held fuel 22 cs = some x) (hw : Wt 22 x.1) : ∃ v n, cs = [v] ∧ ScriptInL (Rows.uptoBulk x.1) w v n := by
  rcases open_slice Tryz.underlying22 h with ⟨rfl, rfl⟩ | ⟨a, len, cap, m, n, D, Pl, rfl, _, hlc, _, hm, rfl, hx⟩
  · exact ⟨_, 0, rfl, none, 0, rfl, Nat.zero_le _, .inl rfl⟩
  have hml : len ≤ m := by rw [hm]; split <;> omega
  have hbk := blk_slice ((List.range len).map D) ((List.range (m - len)).map fun j => D (len + j))
  simp only [List.length_map, List.length_range] at hbk
  have hb' : len ≤ Rows.uptoBulk (DataW.slice ((List.range len).map D) ((List.range (m - len)).map fun j => D (len + j))) := by omega
  rw [cells40] at hx
  refine ⟨_, len, rfl, some a, cap, rfl, hb', ?_⟩
  by_cases h0 : len = 0
  · exact .inl h0
  right
  have ha : ∃ b off, a = ⟨b, off, none⟩ := by
    obtain ⟨cs', h1, _⟩ := hx 0 (by omega)
    rw [Nat.zero_mul] at h1
    exact addr_of h1 (by omega)
  obtain ⟨b, off, rfl⟩ := ha
  refine ⟨b, off, rfl, fun i hi => ?_⟩
  obtain ⟨cs', h1, h2⟩ := hx i (by omega)
  have hwi : Wt 67 (D i) := hw.elem Tryz.underlying22 (List.mem_map.2 ⟨i, List.mem_range.2 hi, rfl⟩)
  obtain ⟨kd, v1, v2, v3, p4, p5, p6, p7, n4, c4, n5, c5, n6, c6, n7, c7, lg, fu, ns, nt, nf, s, tl, fl, t, f, rfl, o1, o2, o3, hlg⟩ := down_stepL h2 hwi
  obtain ⟨_, _, hc⟩ := World.cells?_some h1
  rw [Go.WideShapes.add_plain] at hc
  have hc' : ∀ j, j < 10 → w.cell? ⟨b, off + i * 10 + j, none⟩ = ([.int .i64 kd, v1, v2, v3, .slice p4 n4 c4, .slice p5 n5 c5, .slice p6 n6 c6, .slice p7 n7 c7, .string lg, .int .i64 fu] : List Value)[j]? := fun j hj => by rw [← Go.WideShapes.add_plain]; exact hc j hj
  exact ⟨kd, v1, v2, v3, p4, p5, p6, p7, n4, c4, n5, c5, n6, c6, n7, c7, lg, fu, ns, nt, nf, s, tl, fl, t, f,
    ⟨by exact hc' 0 (by omega), by exact hc' 1 (by omega), by exact hc' 2 (by omega), by exact hc' 3 (by omega), by exact hc' 4 (by omega), by exact hc' 5 (by omega), by exact hc' 6 (by omega), by exact hc' 7 (by omega), by exact hc' 8 (by omega), by exact hc' 9 (by omega)⟩, o1, o2, o3, Nat.le_trans hlg (by
      have h1 : Rows.uptoBulk (D i) ≤ Rows.uptoBulkAll ((List.range len).map D) := blk_part (List.mem_map.2 ⟨i, List.mem_range.2 hi, rfl⟩)
      have h2 : Rows.uptoBulkAll ((List.range len).map D) ≤ Rows.uptoBulk (DataW.slice ((List.range len).map D) ((List.range (m - len)).map fun j => D (len + j))) := by simp only [Rows.uptoBulk]; omega
      exact Nat.le_trans h1 h2)⟩
end
end Go.Proofs.YtfmbebofllgmoaaGreatDoor
