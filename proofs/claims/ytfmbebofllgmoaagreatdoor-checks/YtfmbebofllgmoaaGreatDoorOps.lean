/-
  PROVED HERE: rerunlaw.wipe and rerunlaw.ops: a handler is written over, or copied with four operations behind it, and old memory stays.
-/
import Derived.Test.YtfmbebofllgmoaaGreatDoorLeaf
import Derived.Deep.RegionHeld3
namespace Go.Proofs.YtfmbebofllgmoaaGreatDoor
open Go.RowKit

structure Wiped (g : Nat) (w w' : World) : Prop where
  os : w'.os = w.os
  tape : w'.tape = w.tape
  output : w'.output = w.output
  size : w'.heap.size = w.heap.size
  block : ∀ k, k ≠ g → w'.heap[k]? = w.heap[k]?
  frozen : ∀ a, w'.frozen? a = w.frozen? a
  there : ∀ a, (w.cell? a).isSome = true → (w'.cell? a).isSome = true

theorem Wiped.refl (g : Nat) (w : World) : Wiped g w w := ⟨rfl, rfl, rfl, rfl, fun _ _ => rfl, fun _ => rfl, fun _ h => h⟩
theorem Wiped.setCell {g : Nat} {w w' : World} (h : Wiped g w w') (o : Nat) (v : Value) : Wiped g w (w'.setCell ⟨g, o, none⟩ v) := by
  refine ⟨h.os, h.tape, h.output, ?_, ?_, ?_, ?_⟩
  · rw [← h.size]; simp [World.setCell]
  · intro k hk
    rw [Below.heap_setCell _ _ _ _ hk]; exact h.block k hk
  · intro a; rw [← h.frozen a]; simp
  · intro a ha
    have := h.there a ha
    by_cases e : a = ⟨g, o, none⟩
    · subst e
      rw [World.cell?_setCell_same' _ _ _ this]; rfl
    · rw [World.cell?_setCell_other _ _ _ _ (Ne.symm e)]; exact this

theorem hide {p : Prop} (h : p) : Hid p := h
theorem unhide {p : Prop} (h : Hid p) : p := h
def Writable (w : World) (g m : Nat) : Prop := ∀ k, k < m → (w.cell? ⟨g, k, none⟩).isSome = true ∧ w.frozen? ⟨g, k, none⟩ = false

set_option maxHeartbeats 400000 in
theorem wipe_any (g n c : Nat) (w : World) (hn : (n : Int) ≤ 2^62) (hw : Writable w g (n * 3)) :
    Calls Tryz.prog 69 #[.slice (some ⟨g, 0, none⟩) n c] w fun e w' => e = .returned (.tuple #[]) ∧ Wiped g w w' := by
  go_enter Tryz.func69, Tryz.ntmps69
  go_wp2
  go_loopw [2] (fun i wr => ∃ k : Nat, k ≤ n ∧ i = .int .i64 k ∧ Wiped g w wr) (fun i _ => n - (intOf i).toNat)
  case atStart => exact ⟨0, Nat.zero_le _, rfl, Wiped.refl _ _⟩
  case round =>
    obtain ⟨k, hk, rfl, hwp⟩ := hrel
    by_cases hlt : k < n
    · obtain ⟨t0, z0⟩ := hw (k * 3) (by omega)
      obtain ⟨t1, z1⟩ := hw (k * 3 + 1) (by omega)
      obtain ⟨t2, z2⟩ := hw (k * 3 + 2) (by omega)
      obtain ⟨v0, c0⟩ := Option.isSome_iff_exists.1 (hwp.there _ t0)
      obtain ⟨v1, c1⟩ := Option.isSome_iff_exists.1 (hwp.there _ t1)
      obtain ⟨v2, c2⟩ := Option.isSome_iff_exists.1 (hwp.there _ t2)
      rw [← hwp.frozen] at z0 z1 z2
      clear t0 t1 t2 hw
      go_wp2
      go_roundw
      case rel => exact ⟨k + 1, by omega, by go_num, ((hwp.setCell _ _).setCell _ _).setCell _ _⟩
      case measure => simp [intOf]; omega
    · go_wp2
      go_end0
      exact ⟨rfl, hwp⟩

/-- An operation, as three numbers. -/
abbrev O3 := Int × Int × Int
/-- Three cells hold an operation. -/
def OpAt (w : World) (b o : Nat) (x : O3) : Prop :=
  w.cell? ⟨b, o, none⟩ = some (.int .i64 x.1) ∧ w.cell? ⟨b, o + 1, none⟩ = some (.int .i64 x.2.1) ∧ w.cell? ⟨b, o + 2, none⟩ = some (.int .i64 x.2.2)
/-- A slice value whose n elements are the operations f 0, f 1, .. -/
def OpsIn (w : World) (v : Value) (n : Nat) (f : Nat → O3) : Prop :=
  ∃ a c, v = .slice a n c ∧ n * 24 ≤ 140737488351232 ∧ (n = 0 ∨ ∃ b off, a = some ⟨b, off, none⟩ ∧ ∀ i, i < n → OpAt w b (off + i * 3) (f i))

theorem opAt_below {w w' : World} (h : Below w.heap.size w w') {b o : Nat} {x : O3} (hx : OpAt w b o x) : OpAt w' b o x := by
  have hb : b < w.heap.size := World.block_lt_of_cell? w _ hx.1
  exact ⟨(h.cell (p := ⟨b, _, none⟩) hb).trans hx.1, (h.cell (p := ⟨b, _, none⟩) hb).trans hx.2.1, (h.cell (p := ⟨b, _, none⟩) hb).trans hx.2.2⟩
theorem opsIn_below {w w' : World} (h : Below w.heap.size w w') {v : Value} {n : Nat} {f : Nat → O3} (hx : OpsIn w v n f) : OpsIn w' v n f := by
  obtain ⟨a, c, hv, hn, hc⟩ := hx
  refine ⟨a, c, hv, hn, ?_⟩
  rcases hc with hc | ⟨b, off, ha, hc⟩
  · exact .inl hc
  · exact .inr ⟨b, off, ha, fun i hi => opAt_below h (hc i hi)⟩

/-- What the copy of n operations holds: they, and four of (9, 0, 0) behind them. -/
def padF (n : Nat) (f : Nat → O3) : Nat → O3 := fun i => if i < n then f i else (9, 0, 0)

theorem info72 : (Tryz.prog.info? 70).map (fun i => (i.zero, i.size, i.bytes)) = some (some (.agg #[.int .i64 0, .int .i64 0, .int .i64 0]), 3, 24) := by kernel_rfl

theorem make_ops (n : Nat) (hn : n * 24 ≤ 140737488351232) (w : World) : (Instr.makeSlice 31 (.int .i64 ((n : Int) + 4)) (.int .i64 ((n : Int) + 4))).run Tryz.prog w =
    .ok (.slice (some ⟨w.heap.size, 0, none⟩) (n + 4) (n + 4)) (w.alloc (.cells (madeCells #[.int .i64 0, .int .i64 0, .int .i64 0] ((n + 4) * 3)) 70)) := by
  have h := info72
  cases hi : Tryz.prog.info? 70 with
  | none => rw [hi] at h; cases h
  | some i =>
    rw [hi] at h
    simp only [Option.map_some, Option.some.injEq, Prod.mk.injEq] at h
    obtain ⟨hz, hs, hb⟩ := h
    have := run_make (P := Tryz.prog) w 31 70 i _ Tryz.underlying31 hi hz .i64 .i64 ((n : Int) + 4) ((n : Int) + 4) (by omega) (by omega) (by rw [hb]; omega) (by omega)
    rw [this, hs]
    have e : ((n : Int) + 4).toNat = n + 4 := by omega
    rw [e]
    rfl

/-- The copy in memory: block g, n operations and four behind them, all of them free to be written. -/
structure OwnOps (w : World) (g m : Nat) (f : Nat → O3) : Prop where
  there : Writable w g (m * 3)
  cells : ∀ i, i < m → OpAt w g (i * 3) (f i)

theorem writable_made (w : World) (z : Array Value) (m : Nat) (t : TypeId) : Writable (w.alloc (.cells (madeCells z m) t)) w.heap.size m := by
  intro k hk
  refine ⟨?_, ?_⟩
  · simp [size_madeCells, hk]
  · simp

theorem Writable.setCell {w : World} {g m : Nat} (h : Writable w g m) (a : Addr) (v : Value) : Writable (w.setCell a v) g m := by
  intro k hk
  obtain ⟨h1, h2⟩ := h k hk
  refine ⟨?_, by simpa using h2⟩
  by_cases e : a = ⟨g, k, none⟩
  · subst e; rw [World.cell?_setCell_same' _ _ _ h1]; rfl
  · rw [World.cell?_setCell_other _ _ _ _ e]; exact h1

theorem opAt_set {w : World} {g o : Nat} (x : O3) (h0 : (w.cell? ⟨g, o, none⟩).isSome = true) (h1 : (w.cell? ⟨g, o + 1, none⟩).isSome = true) (h2 : (w.cell? ⟨g, o + 2, none⟩).isSome = true) :
    OpAt (((w.setCell ⟨g, o, none⟩ (.int .i64 x.1)).setCell ⟨g, o + 1, none⟩ (.int .i64 x.2.1)).setCell ⟨g, o + 2, none⟩ (.int .i64 x.2.2)) g o x := by
  refine ⟨?_, ?_, ?_⟩
  · rw [World.cell?_setCell_other _ _ _ _ (by simp), World.cell?_setCell_other _ _ _ _ (by simp), World.cell?_setCell_same' _ _ _ h0]
  · rw [World.cell?_setCell_other _ _ _ _ (by simp), World.cell?_setCell_same' _ _ _ (by rw [World.cell?_setCell_other _ _ _ _ (by simp)]; exact h1)]
  · rw [World.cell?_setCell_same' _ _ _ (by rw [World.cell?_setCell_other _ _ _ _ (by simp), World.cell?_setCell_other _ _ _ _ (by simp)]; exact h2)]

theorem opAt_set_other {w : World} {g o b o' : Nat} (x y z : Value) (u : O3) (h : OpAt w b o' u) (hne : b ≠ g ∨ o' + 3 ≤ o ∨ o + 3 ≤ o') :
    OpAt (((w.setCell ⟨g, o, none⟩ x).setCell ⟨g, o + 1, none⟩ y).setCell ⟨g, o + 2, none⟩ z) b o' u := by
  obtain ⟨h0, h1, h2⟩ := h
  refine ⟨?_, ?_, ?_⟩
  all_goals
    rw [World.cell?_setCell_other _ _ _ _ (by simp; omega), World.cell?_setCell_other _ _ _ _ (by simp; omega), World.cell?_setCell_other _ _ _ _ (by simp; omega)]
    assumption

set_option maxHeartbeats 400000 in
theorem ops_any (v : Value) (n : Nat) (f : Nat → O3) (w : World) (hv : OpsIn w v n f) :
    Calls Tryz.prog 65 #[v] w fun e w' => e = .returned (.slice (some ⟨w.heap.size, 0, none⟩) n (n + 4)) ∧ Below w.heap.size w w' ∧ w.heap.size < w'.heap.size ∧ OwnOps w' w.heap.size (n + 4) (padF n f) := by
  obtain ⟨a, c, rfl, hn, hf⟩ := hv
  have hmk := make_ops n hn
  go_enter Tryz.func65, Tryz.ntmps65
  go_wp2
  go_loopw [4] (fun i wr => ∃ k : Nat, k ≤ n + 4 ∧ i = .int .i64 k ∧ Below w.heap.size w wr ∧ w.heap.size < wr.heap.size ∧ Writable wr w.heap.size ((n + 4) * 3) ∧ ∀ i, i < k → OpAt wr w.heap.size (i * 3) (padF n f i)) (fun i _ => n + 4 - (intOf i).toNat)
  case atStart => exact ⟨0, Nat.zero_le _, rfl, (Below.refl _ _).alloc (Nat.le_refl _) _, by simp, writable_made _ _ _ _, fun i hi => absurd hi (Nat.not_lt_zero _)⟩
  case round =>
    obtain ⟨k, hk, rfl, hb, hsz, hwr, hops⟩ := hrel
    by_cases hlt : k < n + 4
    · obtain ⟨t0, z0⟩ := hwr (k * 3) (by omega)
      obtain ⟨t1, z1⟩ := hwr (k * 3 + 1) (by omega)
      obtain ⟨t2, z2⟩ := hwr (k * 3 + 2) (by omega)
      obtain ⟨v0, c0⟩ := Option.isSome_iff_exists.1 t0
      obtain ⟨v1, c1⟩ := Option.isSome_iff_exists.1 t1
      obtain ⟨v2, c2⟩ := Option.isSome_iff_exists.1 t2
      have HW := hide hwr
      have HO := hide hops
      have HF := hide hf
      have T0 := hide t0
      have T1 := hide t1
      have T2 := hide t2
      clear hwr hops hf t0 t1 t2
      by_cases hkn : k < n
      · rcases unhide HF with hz | ⟨b, off, rfl, hf⟩
        · omega
        obtain ⟨g0, g1, g2⟩ := hf k hkn
        have hlt' : b < w.heap.size := World.block_lt_of_cell? w _ g0
        rw [← hb.cell (p := ⟨b, _, none⟩) hlt'] at g0 g1 g2
        have hne : ¬ w.heap.size = b := by omega
        have hne' : ¬ b = w.heap.size := by omega
        have HF2 := hide hf
        clear hf
        generalize hx : f k = x at g0 g1 g2
        have HX := hide hx
        clear hx
        go_wp2
        go_roundw
        case rel =>
          have hw1 := ((unhide HW).setCell ⟨w.heap.size, k * 3, none⟩ (.int .i64 9) |>.setCell ⟨w.heap.size, k * 3 + 1, none⟩ (.int .i64 0)).setCell ⟨w.heap.size, k * 3 + 2, none⟩ (.int .i64 0)
          refine ⟨k + 1, by omega, by go_num, (((((hb.setCell (by simp) _).setCell (by simp) _).setCell (by simp) _).setCell (by simp) _).setCell (by simp) _).setCell (by simp) _, by simpa using hsz, (hw1.setCell _ _ |>.setCell _ _).setCell _ _, ?_⟩
          intro i hi
          by_cases e : i = k
          · subst e
            have : padF n f i = x := by simp [padF, hkn, unhide HX]
            rw [this]
            exact opAt_set x (hw1 _ (by omega)).1 (hw1 _ (by omega)).1 (hw1 _ (by omega)).1
          · exact opAt_set_other _ _ _ _ (opAt_set_other _ _ _ _ (unhide HO i (by omega)) (by omega)) (by omega)
        case measure => simp [intOf]; omega
      · go_wp2
        go_roundw
        case rel =>
          refine ⟨k + 1, by omega, by go_num, ((hb.setCell (by simp) _).setCell (by simp) _).setCell (by simp) _, by simpa using hsz, ((unhide HW).setCell _ _ |>.setCell _ _).setCell _ _, ?_⟩
          intro i hi
          by_cases e : i = k
          · subst e
            have : padF n f i = (9, 0, 0) := by simp [padF, hkn]
            rw [this]
            exact opAt_set (9, 0, 0) (unhide T0) (unhide T1) (unhide T2)
          · exact opAt_set_other _ _ _ _ (unhide HO i (by omega)) (by omega)
        case measure => simp [intOf]; omega
    · go_wp2
      go_ret
      obtain rfl : k = n + 4 := by omega
      exact ⟨rfl, hb, hsz, ⟨hwr, hops⟩⟩
end Go.Proofs.YtfmbebofllgmoaaGreatDoor
