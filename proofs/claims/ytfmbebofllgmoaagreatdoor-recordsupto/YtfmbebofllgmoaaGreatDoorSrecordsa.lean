/-
  PROVED HERE: rerunref.register, rerunref.right and check.fits answer what P3 says of one operation, at all numbers. rerunlaw.wipe and rerunlaw.ops: a handler is written over, or copied with four operations behind it, and old memory stays. rerunlaw.handlers copies a list of handlers, with four behind it, and old memory stays. rerunlaw.sameOps and sameHandlers answer true of a copy and its original. check.right answers as rerunref.right does, at all numbers, wherever the table lies in memory as the text lays it. rerunlaw.program copies a program, and old memory stays. rerunlaw.still answers true of a copy that was not written into, and writes over that copy alone. append onto a list of handlers that the call itself has built: what it holds then. slices.Grow of nil, for the list of handlers. rerunref.Check answers what P3 says (Ans), for every program in memory. slices.Concat of three lists of handlers: all of them in order. check.Program and rerun.Check answer what P3 says (Ans), for every program in memory. how the loop's run struct lies in memory, and what stores, new blocks and draws leave of it. what each operation of the loop that hears nothing does to the run: Set, Add, Arm, Cancel, Watch, Ignore, Emit, Skip, Stop; and tell. Arm arms a timer for the loop's time and what the register adds, within MaxClock; tell adds an event to the trace; Emit tells a register. tell adds an event to the trace; Emit tells a register. what the loop's hear does over a source whose own Hear keeps its word (HearSpec): the end is set, or one input more is heard. hearClock, Now and Lot over a source that keeps its word. each operation of the loop's table does what the model (opM) says, for every operation that is one. the loop's handle runs a handler as the model (hM) says. the loop's idle tells whether no timer is armed and no file is watched. slices.SortFunc, cmp.Compare and bits.Len as they stand in this dump are those of the shelf. the closure by which due sorts: first by time, then by arming. the loop's ready keeps the files of a batch that are watched; pick hears nothing where there is no choice. the sort of no timer; what the sort of timers leaves in memory.
-/
import Derived.Test.YtfmbebofllgmoaaGreatDoorProg
import Derived.WalkKit
import Derived.WalkSpells
import Derived.WalkLawsBesides
import Derived.Deep.QuietTactic
import Derived.BigQuiet
import Derived.Deep.RegionHeld3
import Derived.Deep.AppendLies
import Derived.Laws.EntriesVeiled
import Derived.Deep.DrawnRows
import Derived.BigRegion
import Derived.Deep.LoopGhost
import Derived.Deep.MidRow
import Derived.Shelf.SlSortCmp.SmallK
import Derived.Shelf.SlicesG.Cmp
import Derived.Shelf.Small.Bits
namespace Go.Proofs.YtfmbebofllgmoaaGreatDoor
open Go.RowKit

theorem ret_bool {a b : Bool} (h : a = b) : Ending.returned (.bool a) = .returned (.bool b) := by rw [h]

def regB (a : Int) : Bool := decide (0 ≤ a) && decide (a < 4)

theorem register_any (a : Int) (w : World) :
    Calls Tryz.prog 104 #[.int .i64 a] w fun e w' => e = .returned (.bool (regB a)) ∧ w' = w := by
  unfold regB
  by_cases h : 0 ≤ a
  · go_enter Tryz.func104, Tryz.ntmps104
    go_wp2
    go_ret
    exact ⟨by simp [h], rfl⟩
  · go_enter Tryz.func104, Tryz.ntmps104
    go_wp2
    go_ret
    exact ⟨ret_bool (by have : decide (0 ≤ a) = false := by simpa using h
                        rw [this]; rfl), rfl⟩

def fitsB (n m : Int) (nt nf : Nat) : Bool :=
  if m = 1 then decide (0 ≤ n) && decide (n < 4)
  else if m = 2 then decide (0 ≤ n) && decide (n < nt)
  else if m = 3 then decide (0 ≤ n) && decide (n < nf)
  else if m = 4 then decide (1 ≤ n) && decide (n ≤ 1000000)
  else true

set_option maxHeartbeats 400000 in
theorem fits_any (n m : Int) (v1 : Value) (a2 a3 : Option Addr) (nt c2 nf c3 : Nat) (w : World) :
    Calls Tryz.prog 82 #[.int .i64 n, .int .i64 m, .agg #[v1, .slice a2 nt c2, .slice a3 nf c3]] w fun e w' => e = .returned (.bool (fitsB n m nt nf)) ∧ w' = w.alloc (.cells #[v1, .slice a2 nt c2, .slice a3 nf c3] 33) := by
  go_enter Tryz.func82, Tryz.ntmps82
  go_wp2
  all_goals go_ret
  all_goals refine ⟨ret_bool ?_, rfl⟩
  all_goals simp_all [fitsB]
  all_goals omega

def tabA (c : Int) : Int := if c = 3 then 2 else if c = 4 then 2 else if c = 5 then 3 else if c = 6 then 3 else if c = 11 then 0 else 1
def tabB (c : Int) : Int := if c = 2 then 1 else if c = 3 then 1 else if c = 8 then 4 else 0

def rightB (c a b : Int) (nt nf : Nat) : Bool :=
  decide (1 ≤ c) && decide (c < 12) && fitsB a (tabA c) nt nf && fitsB b (tabB c) nt nf


theorem rightB_other (c a b : Int) (nt nf : Nat) (h1 : c ≠ 1) (h2 : c ≠ 2) (h3 : c ≠ 3) (h4 : c ≠ 4) (h5 : c ≠ 5) (h6 : c ≠ 6) (h7 : c ≠ 7) (h8 : c ≠ 8) (h9 : c ≠ 9) (h10 : c ≠ 10) :
    (c == 11) = rightB c a b nt nf := by
  by_cases h : c = 11
  · subst h; simp [rightB, fitsB, tabA, tabB]
  · have e : (decide (1 ≤ c) && decide (c < 12)) = false := by
      by_cases k : 1 ≤ c
      · have : ¬ c < 12 := by omega
        simp [this]
      · simp [k]
    unfold rightB
    rw [e]
    simp [h]

set_option maxHeartbeats 1000000 in
/-- rerunref.right. -/
theorem rright_any (c a b : Int) (v1 : Value) (a2 a3 : Option Addr) (nt c2 nf c3 : Nat) (w : World) :
    Calls Tryz.prog 70 #[.agg #[.int .i64 c, .int .i64 a, .int .i64 b], .agg #[v1, .slice a2 nt c2, .slice a3 nf c3]] w fun e w' => e = .returned (.bool (rightB c a b nt nf)) ∧ w' = (w.alloc (.cells #[.int .i64 c, .int .i64 a, .int .i64 b] 70)).alloc (.cells #[v1, .slice a2 nt c2, .slice a3 nf c3] 33) := by
  go_enter Tryz.func70, Tryz.ntmps70
  go_wp2_with (go_at_call 104; refine (register_any _ _).mono ?_; rintro e w' ⟨rfl, rfl⟩)
  all_goals go_ret
  all_goals refine ⟨ret_bool ?_, rfl⟩
  all_goals first
    | exact rightB_other c a b nt nf (by simp_all) (by simp_all) (by simp_all) (by simp_all) (by simp_all) (by simp_all) (by simp_all) (by simp_all) (by simp_all) (by simp_all)
    | (simp_all [rightB, fitsB, tabA, tabB, regB]; done)
    | (simp_all [rightB, fitsB, tabA, tabB, regB]; omega)
end Go.Proofs.YtfmbebofllgmoaaGreatDoor
namespace Go.Proofs.YtfmbebofllgmoaaGreatDoor
open Go.RowKit

structure Wiped (g : Nat) (w w' : World) : Prop where
  os : w'.os = w.os
  tape : w'.tape = w.tape
  output : w'.output = w.output
  size : w'.heap.size = w.heap.size
  block : ∀ k, k ≠ g → w'.heap[k]? = w.heap[k]?
  frozen : ∀ a, w'.frozen? a = w.frozen? a
  there : ∀ a, (w.cell? a).isSome = true → (w'.cell? a).isSome = true

theorem Wiped.refl (g : Nat) (w : World) : Wiped g w w := ⟨rfl, rfl, rfl, rfl, fun _ _ => rfl, fun _ => rfl, fun _ h => h⟩
theorem Wiped.setCell {g : Nat} {w w' : World} (h : Wiped g w w') (o : Nat) (v : Value) : Wiped g w (w'.setCell ⟨g, o, none⟩ v) := by
  refine ⟨h.os, h.tape, h.output, ?_, ?_, ?_, ?_⟩
  · rw [← h.size]; simp [World.setCell]
  · intro k hk
    rw [Below.heap_setCell _ _ _ _ hk]; exact h.block k hk
  · intro a; rw [← h.frozen a]; simp
  · intro a ha
    have := h.there a ha
    by_cases e : a = ⟨g, o, none⟩
    · subst e
      rw [World.cell?_setCell_same' _ _ _ this]; rfl
    · rw [World.cell?_setCell_other _ _ _ _ (Ne.symm e)]; exact this

theorem hide {p : Prop} (h : p) : Hid p := h
theorem unhide {p : Prop} (h : Hid p) : p := h
def Writable (w : World) (g m : Nat) : Prop := ∀ k, k < m → (w.cell? ⟨g, k, none⟩).isSome = true ∧ w.frozen? ⟨g, k, none⟩ = false

set_option maxHeartbeats 400000 in
theorem wipe_any (g n c : Nat) (w : World) (hn : (n : Int) ≤ 2^62) (hw : Writable w g (n * 3)) :
    Calls Tryz.prog 69 #[.slice (some ⟨g, 0, none⟩) n c] w fun e w' => e = .returned (.tuple #[]) ∧ Wiped g w w' := by
  go_enter Tryz.func69, Tryz.ntmps69
  go_wp2
  go_loopw [2] (fun i wr => ∃ k : Nat, k ≤ n ∧ i = .int .i64 k ∧ Wiped g w wr) (fun i _ => n - (intOf i).toNat)
  case atStart => exact ⟨0, Nat.zero_le _, rfl, Wiped.refl _ _⟩
  case round =>
    obtain ⟨k, hk, rfl, hwp⟩ := hrel
    by_cases hlt : k < n
    · obtain ⟨t0, z0⟩ := hw (k * 3) (by omega)
      obtain ⟨t1, z1⟩ := hw (k * 3 + 1) (by omega)
      obtain ⟨t2, z2⟩ := hw (k * 3 + 2) (by omega)
      obtain ⟨v0, c0⟩ := Option.isSome_iff_exists.1 (hwp.there _ t0)
      obtain ⟨v1, c1⟩ := Option.isSome_iff_exists.1 (hwp.there _ t1)
      obtain ⟨v2, c2⟩ := Option.isSome_iff_exists.1 (hwp.there _ t2)
      rw [← hwp.frozen] at z0 z1 z2
      clear t0 t1 t2 hw
      go_wp2
      go_roundw
      case rel => exact ⟨k + 1, by omega, by go_num, ((hwp.setCell _ _).setCell _ _).setCell _ _⟩
      case measure => simp [intOf]; omega
    · go_wp2
      go_end0
      exact ⟨rfl, hwp⟩

/-- An operation, as three numbers. -/
abbrev O3 := Int × Int × Int
/-- Three cells hold an operation. -/
def OpAt (w : World) (b o : Nat) (x : O3) : Prop :=
  w.cell? ⟨b, o, none⟩ = some (.int .i64 x.1) ∧ w.cell? ⟨b, o + 1, none⟩ = some (.int .i64 x.2.1) ∧ w.cell? ⟨b, o + 2, none⟩ = some (.int .i64 x.2.2)
/-- A slice value whose n elements are the operations f 0, f 1, .. -/
def OpsIn (w : World) (v : Value) (n : Nat) (f : Nat → O3) : Prop :=
  ∃ a c, v = .slice a n c ∧ n * 24 ≤ 140737488351232 ∧ (n = 0 ∨ ∃ b off, a = some ⟨b, off, none⟩ ∧ ∀ i, i < n → OpAt w b (off + i * 3) (f i))

theorem opAt_below {w w' : World} (h : Below w.heap.size w w') {b o : Nat} {x : O3} (hx : OpAt w b o x) : OpAt w' b o x := by
  have hb : b < w.heap.size := World.block_lt_of_cell? w _ hx.1
  exact ⟨(h.cell (p := ⟨b, _, none⟩) hb).trans hx.1, (h.cell (p := ⟨b, _, none⟩) hb).trans hx.2.1, (h.cell (p := ⟨b, _, none⟩) hb).trans hx.2.2⟩
theorem opsIn_below {w w' : World} (h : Below w.heap.size w w') {v : Value} {n : Nat} {f : Nat → O3} (hx : OpsIn w v n f) : OpsIn w' v n f := by
  obtain ⟨a, c, hv, hn, hc⟩ := hx
  refine ⟨a, c, hv, hn, ?_⟩
  rcases hc with hc | ⟨b, off, ha, hc⟩
  · exact .inl hc
  · exact .inr ⟨b, off, ha, fun i hi => opAt_below h (hc i hi)⟩

/-- What the copy of n operations holds: they, and four of (9, 0, 0) behind them. -/
def padF (n : Nat) (f : Nat → O3) : Nat → O3 := fun i => if i < n then f i else (9, 0, 0)

theorem info72 : (Tryz.prog.info? 70).map (fun i => (i.zero, i.size, i.bytes)) = some (some (.agg #[.int .i64 0, .int .i64 0, .int .i64 0]), 3, 24) := by kernel_rfl

theorem make_ops (n : Nat) (hn : n * 24 ≤ 140737488351232) (w : World) : (Instr.makeSlice 31 (.int .i64 ((n : Int) + 4)) (.int .i64 ((n : Int) + 4))).run Tryz.prog w =
    .ok (.slice (some ⟨w.heap.size, 0, none⟩) (n + 4) (n + 4)) (w.alloc (.cells (madeCells #[.int .i64 0, .int .i64 0, .int .i64 0] ((n + 4) * 3)) 70)) := by
  have h := info72
  cases hi : Tryz.prog.info? 70 with
  | none => rw [hi] at h; cases h
  | some i =>
    rw [hi] at h
    simp only [Option.map_some, Option.some.injEq, Prod.mk.injEq] at h
    obtain ⟨hz, hs, hb⟩ := h
    have := run_make (P := Tryz.prog) w 31 70 i _ Tryz.underlying31 hi hz .i64 .i64 ((n : Int) + 4) ((n : Int) + 4) (by omega) (by omega) (by rw [hb]; omega) (by omega)
    rw [this, hs]
    have e : ((n : Int) + 4).toNat = n + 4 := by omega
    rw [e]
    rfl

/-- The copy in memory: block g, n operations and four behind them, all of them free to be written. -/
structure OwnOps (w : World) (g m : Nat) (f : Nat → O3) : Prop where
  there : Writable w g (m * 3)
  cells : ∀ i, i < m → OpAt w g (i * 3) (f i)

theorem writable_made (w : World) (z : Array Value) (m : Nat) (t : TypeId) : Writable (w.alloc (.cells (madeCells z m) t)) w.heap.size m := by
  intro k hk
  refine ⟨?_, ?_⟩
  · simp [size_madeCells, hk]
  · simp

theorem Writable.setCell {w : World} {g m : Nat} (h : Writable w g m) (a : Addr) (v : Value) : Writable (w.setCell a v) g m := by
  intro k hk
  obtain ⟨h1, h2⟩ := h k hk
  refine ⟨?_, by simpa using h2⟩
  by_cases e : a = ⟨g, k, none⟩
  · subst e; rw [World.cell?_setCell_same' _ _ _ h1]; rfl
  · rw [World.cell?_setCell_other _ _ _ _ e]; exact h1

theorem opAt_set {w : World} {g o : Nat} (x : O3) (h0 : (w.cell? ⟨g, o, none⟩).isSome = true) (h1 : (w.cell? ⟨g, o + 1, none⟩).isSome = true) (h2 : (w.cell? ⟨g, o + 2, none⟩).isSome = true) :
    OpAt (((w.setCell ⟨g, o, none⟩ (.int .i64 x.1)).setCell ⟨g, o + 1, none⟩ (.int .i64 x.2.1)).setCell ⟨g, o + 2, none⟩ (.int .i64 x.2.2)) g o x := by
  refine ⟨?_, ?_, ?_⟩
  · rw [World.cell?_setCell_other _ _ _ _ (by simp), World.cell?_setCell_other _ _ _ _ (by simp), World.cell?_setCell_same' _ _ _ h0]
  · rw [World.cell?_setCell_other _ _ _ _ (by simp), World.cell?_setCell_same' _ _ _ (by rw [World.cell?_setCell_other _ _ _ _ (by simp)]; exact h1)]
  · rw [World.cell?_setCell_same' _ _ _ (by rw [World.cell?_setCell_other _ _ _ _ (by simp), World.cell?_setCell_other _ _ _ _ (by simp)]; exact h2)]

theorem opAt_set_other {w : World} {g o b o' : Nat} (x y z : Value) (u : O3) (h : OpAt w b o' u) (hne : b ≠ g ∨ o' + 3 ≤ o ∨ o + 3 ≤ o') :
    OpAt (((w.setCell ⟨g, o, none⟩ x).setCell ⟨g, o + 1, none⟩ y).setCell ⟨g, o + 2, none⟩ z) b o' u := by
  obtain ⟨h0, h1, h2⟩ := h
  refine ⟨?_, ?_, ?_⟩
  all_goals
    rw [World.cell?_setCell_other _ _ _ _ (by simp; omega), World.cell?_setCell_other _ _ _ _ (by simp; omega), World.cell?_setCell_other _ _ _ _ (by simp; omega)]
    assumption

set_option maxHeartbeats 400000 in
theorem ops_any (v : Value) (n : Nat) (f : Nat → O3) (w : World) (hv : OpsIn w v n f) :
    Calls Tryz.prog 65 #[v] w fun e w' => e = .returned (.slice (some ⟨w.heap.size, 0, none⟩) n (n + 4)) ∧ Below w.heap.size w w' ∧ w.heap.size < w'.heap.size ∧ OwnOps w' w.heap.size (n + 4) (padF n f) := by
  obtain ⟨a, c, rfl, hn, hf⟩ := hv
  have hmk := make_ops n hn
  go_enter Tryz.func65, Tryz.ntmps65
  go_wp2
  go_loopw [4] (fun i wr => ∃ k : Nat, k ≤ n + 4 ∧ i = .int .i64 k ∧ Below w.heap.size w wr ∧ w.heap.size < wr.heap.size ∧ Writable wr w.heap.size ((n + 4) * 3) ∧ ∀ i, i < k → OpAt wr w.heap.size (i * 3) (padF n f i)) (fun i _ => n + 4 - (intOf i).toNat)
  case atStart => exact ⟨0, Nat.zero_le _, rfl, (Below.refl _ _).alloc (Nat.le_refl _) _, by simp, writable_made _ _ _ _, fun i hi => absurd hi (Nat.not_lt_zero _)⟩
  case round =>
    obtain ⟨k, hk, rfl, hb, hsz, hwr, hops⟩ := hrel
    by_cases hlt : k < n + 4
    · obtain ⟨t0, z0⟩ := hwr (k * 3) (by omega)
      obtain ⟨t1, z1⟩ := hwr (k * 3 + 1) (by omega)
      obtain ⟨t2, z2⟩ := hwr (k * 3 + 2) (by omega)
      obtain ⟨v0, c0⟩ := Option.isSome_iff_exists.1 t0
      obtain ⟨v1, c1⟩ := Option.isSome_iff_exists.1 t1
      obtain ⟨v2, c2⟩ := Option.isSome_iff_exists.1 t2
      have HW := hide hwr
      have HO := hide hops
      have HF := hide hf
      have T0 := hide t0
      have T1 := hide t1
      have T2 := hide t2
      clear hwr hops hf t0 t1 t2
      by_cases hkn : k < n
      · rcases unhide HF with hz | ⟨b, off, rfl, hf⟩
        · omega
        obtain ⟨g0, g1, g2⟩ := hf k hkn
        have hlt' : b < w.heap.size := World.block_lt_of_cell? w _ g0
        rw [← hb.cell (p := ⟨b, _, none⟩) hlt'] at g0 g1 g2
        have hne : ¬ w.heap.size = b := by omega
        have hne' : ¬ b = w.heap.size := by omega
        have HF2 := hide hf
        clear hf
        generalize hx : f k = x at g0 g1 g2
        have HX := hide hx
        clear hx
        go_wp2
        go_roundw
        case rel =>
          have hw1 := ((unhide HW).setCell ⟨w.heap.size, k * 3, none⟩ (.int .i64 9) |>.setCell ⟨w.heap.size, k * 3 + 1, none⟩ (.int .i64 0)).setCell ⟨w.heap.size, k * 3 + 2, none⟩ (.int .i64 0)
          refine ⟨k + 1, by omega, by go_num, (((((hb.setCell (by simp) _).setCell (by simp) _).setCell (by simp) _).setCell (by simp) _).setCell (by simp) _).setCell (by simp) _, by simpa using hsz, (hw1.setCell _ _ |>.setCell _ _).setCell _ _, ?_⟩
          intro i hi
          by_cases e : i = k
          · subst e
            have : padF n f i = x := by simp [padF, hkn, unhide HX]
            rw [this]
            exact opAt_set x (hw1 _ (by omega)).1 (hw1 _ (by omega)).1 (hw1 _ (by omega)).1
          · exact opAt_set_other _ _ _ _ (opAt_set_other _ _ _ _ (unhide HO i (by omega)) (by omega)) (by omega)
        case measure => simp [intOf]; omega
      · go_wp2
        go_roundw
        case rel =>
          refine ⟨k + 1, by omega, by go_num, ((hb.setCell (by simp) _).setCell (by simp) _).setCell (by simp) _, by simpa using hsz, ((unhide HW).setCell _ _ |>.setCell _ _).setCell _ _, ?_⟩
          intro i hi
          by_cases e : i = k
          · subst e
            have : padF n f i = (9, 0, 0) := by simp [padF, hkn]
            rw [this]
            exact opAt_set (9, 0, 0) (unhide T0) (unhide T1) (unhide T2)
          · exact opAt_set_other _ _ _ _ (unhide HO i (by omega)) (by omega)
        case measure => simp [intOf]; omega
    · go_wp2
      go_ret
      obtain rfl : k = n + 4 := by omega
      exact ⟨rfl, hb, hsz, ⟨hwr, hops⟩⟩
end Go.Proofs.YtfmbebofllgmoaaGreatDoor
namespace Go.Proofs.YtfmbebofllgmoaaGreatDoor
open Go.RowKit

/-- A slice value whose n elements are handlers: the i-th has ln i operations f i 0, f i 1, .. -/
def HandsIn (w : World) (v : Value) (n : Nat) (ln : Nat → Nat) (f : Nat → Nat → O3) : Prop :=
  ∃ a c, v = .slice a n c ∧ n * 24 ≤ 140737488351232 ∧ (n = 0 ∨ ∃ b off, a = some ⟨b, off, none⟩ ∧ ∀ i, i < n → ∃ vi, w.cell? ⟨b, off + i, none⟩ = some vi ∧ OpsIn w vi (ln i) (f i))

theorem handsIn_below {w w' : World} (h : Below w.heap.size w w') {v : Value} {n : Nat} {ln : Nat → Nat} {f : Nat → Nat → O3} (hx : HandsIn w v n ln f) : HandsIn w' v n ln f := by
  obtain ⟨a, c, hv, hn, hc⟩ := hx
  refine ⟨a, c, hv, hn, ?_⟩
  rcases hc with hc | ⟨b, off, ha, hc⟩
  · exact .inl hc
  · refine .inr ⟨b, off, ha, fun i hi => ?_⟩
    obtain ⟨vi, h1, h2⟩ := hc i hi
    exact ⟨vi, (h.cell (p := ⟨b, _, none⟩) (World.block_lt_of_cell? w _ h1)).trans h1, opsIn_below h h2⟩

theorem opAt_lt {w : World} {b o : Nat} {x : O3} (h : OpAt w b o x) : b < w.heap.size := World.block_lt_of_cell? w ⟨b, o, none⟩ h.1
theorem opAt_setCell {w : World} {b o : Nat} {x : O3} (h : OpAt w b o x) {a : Addr} (hne : a.block ≠ b) (v : Value) : OpAt (w.setCell a v) b o x := by
  have e : ∀ o, a ≠ ⟨b, o, none⟩ := fun o he => hne (by rw [he])
  exact ⟨(World.cell?_setCell_other _ _ _ _ (e _)).trans h.1, (World.cell?_setCell_other _ _ _ _ (e _)).trans h.2.1, (World.cell?_setCell_other _ _ _ _ (e _)).trans h.2.2⟩
theorem Writable.below {w w' : World} {B g m : Nat} (h : Writable w g m) (hb : Below B w w') (hg : g < B) : Writable w' g m := by
  intro k hk
  rw [hb.cell (p := ⟨g, k, none⟩) hg, hb.frozen (p := ⟨g, k, none⟩) hg]
  exact h k hk
theorem opAt_below' {w w' : World} {B b o : Nat} {x : O3} (h : Below B w w') (hx : OpAt w b o x) (hb : b < B) : OpAt w' b o x :=
  ⟨(h.cell (p := ⟨b, _, none⟩) hb).trans hx.1, (h.cell (p := ⟨b, _, none⟩) hb).trans hx.2.1, (h.cell (p := ⟨b, _, none⟩) hb).trans hx.2.2⟩
theorem OwnOps.below {w w' : World} {B g m : Nat} {f : Nat → O3} (h : OwnOps w g m f) (hb : Below B w w') (hg : g < B) : OwnOps w' g m f :=
  ⟨h.there.below hb hg, fun i hi => opAt_below' hb (h.cells i hi) hg⟩
theorem OwnOps.setCell {w : World} {g m : Nat} {f : Nat → O3} (h : OwnOps w g m f) {a : Addr} (hne : a.block ≠ g) (v : Value) : OwnOps (w.setCell a v) g m f :=
  ⟨h.there.setCell _ _, fun i hi => opAt_setCell (h.cells i hi) hne v⟩

/-- The copy of n handlers in memory, as far as it is made (k of n + 4): block g, the handlers' own blocks G i. -/
structure OwnHands (w : World) (g n k : Nat) (ln : Nat → Nat) (f : Nat → Nat → O3) (G : Nat → Nat) : Prop where
  there : Writable w g (n + 4)
  heads : ∀ i, i < k → i < n → w.cell? ⟨g, i, none⟩ = some (.slice (some ⟨G i, 0, none⟩) (ln i) (ln i + 4))
  pads : ∀ i, i < k → n ≤ i → w.cell? ⟨g, i, none⟩ = some (.slice (some ⟨G i, 0, none⟩) 1 1)
  far : ∀ i, i < k → g < G i ∧ G i < w.heap.size
  own : ∀ i, i < k → i < n → OwnOps w (G i) (ln i + 4) (padF (ln i) (f i))
  pad : ∀ i, i < k → n ≤ i → OpAt w (G i) 0 (9, 0, 0)

theorem OwnHands.below {w w' : World} {B g n k : Nat} {ln : Nat → Nat} {f : Nat → Nat → O3} {G : Nat → Nat} (h : OwnHands w g n k ln f G) (hb : Below B w w') (hg : g < B) (hG : ∀ i, i < k → G i < B) : OwnHands w' g n k ln f G :=
  ⟨h.there.below hb hg, fun i hi hn => (hb.cell (p := ⟨g, _, none⟩) hg).trans (h.heads i hi hn), fun i hi hn => (hb.cell (p := ⟨g, _, none⟩) hg).trans (h.pads i hi hn),
   fun i hi => ⟨(h.far i hi).1, Nat.lt_of_lt_of_le (h.far i hi).2 hb.size⟩, fun i hi hn => (h.own i hi hn).below hb (hG i hi), fun i hi hn => opAt_below' hb (h.pad i hi hn) (hG i hi)⟩

/-- One more header is stored: a handler's. -/
theorem OwnHands.step {w : World} {g n k q : Nat} {ln : Nat → Nat} {f : Nat → Nat → O3} {G : Nat → Nat} (h : OwnHands w g n k ln f G) (hk : k < n) (hq : g < q ∧ q < w.heap.size) (ho : OwnOps w q (ln k + 4) (padF (ln k) (f k))) :
    OwnHands (w.setCell ⟨g, k, none⟩ (.slice (some ⟨q, 0, none⟩) (ln k) (ln k + 4))) g n (k + 1) ln f (fun i => if i = k then q else G i) := by
  refine ⟨h.there.setCell _ _, ?_, ?_, ?_, ?_, ?_⟩
  · intro i hi hn
    by_cases e : i = k
    · subst e
      simp only [if_true]
      exact World.cell?_setCell_same' _ _ _ (h.there _ (by omega)).1
    · simp only [e, if_false]
      rw [World.cell?_setCell_other _ _ _ _ (by intro he; injection he; omega)]
      exact h.heads i (by omega) hn
  · intro i hi hn; omega
  · intro i hi
    by_cases e : i = k
    · simp only [e, if_true]; simpa using hq
    · simp only [e, if_false]; simpa using h.far i (by omega)
  · intro i hi hn
    by_cases e : i = k
    · subst e
      simp only [if_true]
      exact ho.setCell (by simp; omega) _
    · simp only [e, if_false]
      exact (h.own i (by omega) hn).setCell (by have := (h.far i (by omega)).1; simp; omega) _
  · intro i hi hn; omega

/-- One more header is stored: one of the four behind them. -/
theorem OwnHands.stepPad {w : World} {g n k q : Nat} {ln : Nat → Nat} {f : Nat → Nat → O3} {G : Nat → Nat} (h : OwnHands w g n k ln f G) (hk : n ≤ k) (hk' : k < n + 4) (hq : g < q ∧ q < w.heap.size) (ho : OpAt w q 0 (9, 0, 0)) :
    OwnHands (w.setCell ⟨g, k, none⟩ (.slice (some ⟨q, 0, none⟩) 1 1)) g n (k + 1) ln f (fun i => if i = k then q else G i) := by
  refine ⟨h.there.setCell _ _, ?_, ?_, ?_, ?_, ?_⟩
  · intro i hi hn
    have e : i ≠ k := by omega
    simp only [e, if_false]
    rw [World.cell?_setCell_other _ _ _ _ (by intro he; injection he; omega)]
    exact h.heads i (by omega) hn
  · intro i hi hn
    by_cases e : i = k
    · subst e
      simp only [if_true]
      exact World.cell?_setCell_same' _ _ _ (h.there _ (by omega)).1
    · simp only [e, if_false]
      rw [World.cell?_setCell_other _ _ _ _ (by intro he; injection he; omega)]
      exact h.pads i (by omega) hn
  · intro i hi
    by_cases e : i = k
    · simp only [e, if_true]; simpa using hq
    · simp only [e, if_false]; simpa using h.far i (by omega)
  · intro i hi hn
    have e : i ≠ k := by omega
    simp only [e, if_false]
    exact (h.own i (by omega) hn).setCell (by have := (h.far i (by omega)).1; simp; omega) _
  · intro i hi hn
    by_cases e : i = k
    · subst e
      simp only [if_true]
      exact opAt_setCell ho (by simp; omega) _
    · simp only [e, if_false]
      exact opAt_setCell (h.pad i (by omega) hn) (by have := (h.far i (by omega)).1; simp; omega) _

theorem info31 : (Tryz.prog.info? 31).map (fun i => (i.zero, i.size, i.bytes)) = some (some (.slice none 0 0), 1, 24) := by kernel_rfl

theorem make_hands (n : Nat) (hn : n * 24 ≤ 140737488351232) (w : World) : (Instr.makeSlice 25 (.int .i64 ((n : Int) + 4)) (.int .i64 ((n : Int) + 4))).run Tryz.prog w =
    .ok (.slice (some ⟨w.heap.size, 0, none⟩) (n + 4) (n + 4)) (w.alloc (.cells (madeCells #[.slice none 0 0] (n + 4)) 31)) := by
  have h := info31
  cases hi : Tryz.prog.info? 31 with
  | none => rw [hi] at h; cases h
  | some i =>
    rw [hi] at h
    simp only [Option.map_some, Option.some.injEq, Prod.mk.injEq] at h
    obtain ⟨hz, hs, hb⟩ := h
    have := run_make (P := Tryz.prog) w 25 31 i _ Tryz.underlying25 hi hz .i64 .i64 ((n : Int) + 4) ((n : Int) + 4) (by omega) (by omega) (by rw [hb]; omega) (by omega)
    rw [this, hs]
    have e : ((n : Int) + 4).toNat = n + 4 := by omega
    rw [e, Nat.mul_one]
    rfl

set_option maxHeartbeats 400000 in
theorem handlers_any (v : Value) (n : Nat) (ln : Nat → Nat) (f : Nat → Nat → O3) (w : World) (hv : HandsIn w v n ln f) :
    Calls Tryz.prog 66 #[v] w fun e w' => e = .returned (.slice (some ⟨w.heap.size, 0, none⟩) n (n + 4)) ∧ Below w.heap.size w w' ∧ w.heap.size < w'.heap.size ∧ ∃ G, OwnHands w' w.heap.size n (n + 4) ln f G := by
  obtain ⟨a, c, rfl, hn, hf⟩ := hv
  have hmk := make_hands n hn
  go_enter Tryz.func66, Tryz.ntmps66
  go_wp2
  go_loopw [4] (fun i wr => ∃ k : Nat, k ≤ n + 4 ∧ i = .int .i64 k ∧ Below w.heap.size w wr ∧ w.heap.size < wr.heap.size ∧ ∃ G, OwnHands wr w.heap.size n k ln f G) (fun i _ => n + 4 - (intOf i).toNat)
  case atStart =>
    exact ⟨0, Nat.zero_le _, rfl, (Below.refl _ _).alloc (Nat.le_refl _) _, by simp, fun _ => 0,
      ⟨writable_made _ _ _ _, fun i hi => absurd hi (Nat.not_lt_zero _), fun i hi => absurd hi (Nat.not_lt_zero _), fun i hi => absurd hi (Nat.not_lt_zero _), fun i hi => absurd hi (Nat.not_lt_zero _), fun i hi => absurd hi (Nat.not_lt_zero _)⟩⟩
  case round =>
    obtain ⟨k, hk, rfl, hb, hsz, G, hG⟩ := hrel
    by_cases hlt : k < n + 4
    · obtain ⟨t0, z0⟩ := hG.there k (by omega)
      obtain ⟨v0, c0⟩ := Option.isSome_iff_exists.1 t0
      clear t0
      have HF := hide hf
      clear hf
      by_cases hkn : k < n
      · rcases unhide HF with hz | ⟨b, off, rfl, hf⟩
        · omega
        obtain ⟨vi, g0, gi⟩ := hf k hkn
        have hlt' : b < w.heap.size := World.block_lt_of_cell? w _ g0
        rw [← hb.cell (p := ⟨b, _, none⟩) hlt'] at g0
        have hi : OpsIn wr vi (ln k) (f k) := opsIn_below hb gi
        clear hf
        go_wp2_with fail
        refine (ops_any vi (ln k) (f k) wr hi).mono ?_
        rintro e w1 ⟨rfl, hb1, hs1, ho1⟩
        have c1 : w1.cell? ⟨w.heap.size, k, none⟩ = some v0 := (hb1.cell (p := ⟨_, _, none⟩) hsz).trans c0
        have z1 : w1.frozen? ⟨w.heap.size, k, none⟩ = false := (hb1.frozen (p := ⟨_, _, none⟩) hsz).trans z0
        have hG1 := hG.below hb1 hsz (fun i hi => (hG.far i hi).2)
        have hb2 := hb.trans (hb1.mono (Nat.le_of_lt hsz))
        have hs2 : w.heap.size < w1.heap.size := by omega
        go_wp2
        go_roundw
        case rel =>
          exact ⟨k + 1, by omega, by go_num, hb2.setCell (Nat.le_refl _) _, by simpa using hs2, _, hG1.step hkn ⟨hsz, hs1⟩ ho1⟩
        case measure => simp [intOf]; omega
      · go_wp2
        go_roundw
        case rel =>
          have hb2 := hb.alloc (Nat.le_of_lt hsz) (.cells #[.int .i64 9, .int .i64 0, .int .i64 0] 70)
          have hb1 : Below wr.heap.size wr (wr.alloc (.cells #[.int .i64 9, .int .i64 0, .int .i64 0] 70)) := (Below.refl _ _).alloc (Nat.le_refl _) _
          have hG1 := hG.below hb1 hsz (fun i hi => (hG.far i hi).2)
          rw [← World.setCell_alloc_past _ _ _ _ hsz]
          refine ⟨k + 1, by omega, by go_num, hb2.setCell (Nat.le_refl _) _, by simp; omega, _, hG1.stepPad (by omega) hlt ⟨hsz, by simp⟩ ⟨by simp, by simp, by simp⟩⟩
        case measure => simp [intOf]; omega
    · go_wp2
      go_ret
      obtain rfl : k = n + 4 := by omega
      exact ⟨rfl, hb, hsz, G, hG⟩
end Go.Proofs.YtfmbebofllgmoaaGreatDoor
namespace Go.Proofs.YtfmbebofllgmoaaGreatDoor
open Go.RowKit

/-- Nothing but draws lies between two worlds. -/
def Dr (w w' : World) : Prop := ∃ m, w' = w.drewN m
theorem Dr.refl (w : World) : Dr w w := ⟨0, rfl⟩
theorem Dr.cell {w w' : World} (h : Dr w w') (a : Addr) : w'.cell? a = w.cell? a := by obtain ⟨m, rfl⟩ := h; simp
theorem Dr.more {w w' : World} (h : Dr w w') (k : Nat) : Dr w (w'.drewN k) := by
  obtain ⟨m, rfl⟩ := h
  exact ⟨m + k, by rw [World.drewN_drewN]⟩

set_option maxHeartbeats 400000 in
theorem sameOps_any (g n : Nat) (v : Value) (f : Nat → O3) (w : World) (hv : OpsIn w v n f) (ho : OwnOps w g (n + 4) (padF n f)) :
    Calls Tryz.prog 67 #[.slice (some ⟨g, 0, none⟩) n (n + 4), v] w fun e w' => e = .returned (.bool true) ∧ Dr w w' := by
  obtain ⟨a, c, rfl, hn, hf⟩ := hv
  have HF := hide hf
  clear hf
  have hn1 : (0 : Int) ≤ (n : Int) + 4 := by omega
  have hn2 : (n : Int) + 4 ≤ 140737488351232 := by omega
  go_enter Tryz.func67, Tryz.ntmps67
  go_wp2
  clear hn2 hn1
  go_loopw [6] (fun i wr => ∃ k : Nat, k ≤ n + 4 ∧ i = .int .i64 k ∧ Dr w wr) (fun i _ => n + 4 - (intOf i).toNat)
  case atStart => exact ⟨0, Nat.zero_le _, rfl, Dr.refl _⟩
  case round =>
    obtain ⟨k, hk, rfl, hd⟩ := hrel
    by_cases hlt : k < n + 4
    · obtain ⟨o0, o1, o2⟩ := ho.cells k hlt
      rw [← hd.cell] at o0 o1 o2
      by_cases hkn : k < n
      · rcases unhide HF with hz | ⟨b, off, rfl, hf⟩
        · omega
        obtain ⟨g0, g1, g2⟩ := hf k hkn
        rw [← hd.cell] at g0 g1 g2
        clear hf
        have ep : padF n f k = f k := by simp [padF, hkn]
        rw [ep] at o0 o1 o2
        clear ep
        generalize f k = x at *
        have hk0 : (0 : Int) ≤ (k : Int) := by omega
        have hk1 : (k : Int) < (n : Int) := by omega
        have hk2 : (k : Int) < (n : Int) + 4 := by omega
        go_wp2
        go_quiet (fail)
        go_wp2
        go_roundw
        case rel => exact ⟨k + 1, by omega, by go_num, hd.more _⟩
        case measure => simp [intOf]; omega
      · have ep : padF n f k = (9, 0, 0) := by simp [padF, hkn]
        rw [ep] at o0 o1 o2
        clear ep
        have hg : decide ((k : Int) < (n : Int)) = false := by simp; omega
        have hk0 : (0 : Int) ≤ (k : Int) := by omega
        have hk2 : (k : Int) < (n : Int) + 4 := by omega
        go_wp2
        go_quiet (fail)
        go_wp2
        go_roundw
        case rel => exact ⟨k + 1, by omega, by go_num, hd.more _⟩
        case measure => simp [intOf]; omega
    · go_wp2
      go_ret
      exact ⟨by simp, hd⟩

theorem opsIn_dr {w w' : World} (h : Dr w w') {v : Value} {n : Nat} {f : Nat → O3} (hx : OpsIn w v n f) : OpsIn w' v n f := by
  obtain ⟨m, rfl⟩ := h; exact hx
theorem handsIn_dr {w w' : World} (h : Dr w w') {v : Value} {n : Nat} {ln : Nat → Nat} {f : Nat → Nat → O3} (hx : HandsIn w v n ln f) : HandsIn w' v n ln f := by
  obtain ⟨m, rfl⟩ := h; exact hx
theorem OwnOps.dr {w w' : World} {g m : Nat} {f : Nat → O3} (hx : OwnOps w g m f) (h : Dr w w') : OwnOps w' g m f := by
  obtain ⟨k, rfl⟩ := h; exact ⟨hx.there, hx.cells⟩
theorem Dr.trans {w w' w'' : World} (h : Dr w w') (h' : Dr w' w'') : Dr w w'' := by obtain ⟨k, rfl⟩ := h'; exact h.more k

set_option maxHeartbeats 400000 in
theorem sameHandlers_any (g n : Nat) (G : Nat → Nat) (v : Value) (ln : Nat → Nat) (f : Nat → Nat → O3) (w : World) (hv : HandsIn w v n ln f) (ho : OwnHands w g n (n + 4) ln f G) :
    Calls Tryz.prog 68 #[.slice (some ⟨g, 0, none⟩) n (n + 4), v] w fun e w' => e = .returned (.bool true) ∧ Dr w w' := by
  obtain ⟨a, c, rfl, hn, hf⟩ := hv
  have HF := hide hf
  clear hf
  have hn1 : (0 : Int) ≤ (n : Int) + 4 := by omega
  have hn2 : (n : Int) + 4 ≤ 140737488351232 := by omega
  go_enter Tryz.func68, Tryz.ntmps68
  go_wp2
  clear hn2 hn1
  go_loopw [6] (fun i wr => ∃ k : Nat, k ≤ n + 4 ∧ i = .int .i64 k ∧ Dr w wr) (fun i _ => n + 4 - (intOf i).toNat)
  case atStart => exact ⟨0, Nat.zero_le _, rfl, Dr.refl _⟩
  case round =>
    obtain ⟨k, hk, rfl, hd⟩ := hrel
    by_cases hlt : k < n + 4
    · by_cases hkn : k < n
      · rcases unhide HF with hz | ⟨b, off, rfl, hf⟩
        · omega
        obtain ⟨vi, g0, gi⟩ := hf k hkn
        clear hf
        have o0 := ho.heads k hlt hkn
        have oi := ho.own k hlt hkn
        rw [← hd.cell] at g0 o0
        have hk0 : (0 : Int) ≤ (k : Int) := by omega
        have hk1 : (k : Int) < (n : Int) := by omega
        have hk2 : (k : Int) < (n : Int) + 4 := by omega
        go_wp2
        go_quiet ((go_at_call 67; exact Calls.quiet_of (sameOps_any (G k) (ln k) vi (f k) _ (opsIn_dr (hd.more _) gi) (oi.dr (hd.more _)))))
        go_wp2
        go_roundw
        case rel => exact ⟨k + 1, by omega, by go_num, hd.more _⟩
        case measure => simp [intOf]; omega
      · have o0 := ho.pads k hlt (by omega)
        obtain ⟨p0, p1, p2⟩ := ho.pad k hlt (by omega)
        rw [← hd.cell] at o0 p0 p1 p2
        go_wp2
        go_roundw
        case rel => exact ⟨k + 1, by omega, by go_num, hd⟩
        case measure => simp [intOf]; omega
    · go_wp2
      go_ret
      exact ⟨by simp, hd⟩
end Go.Proofs.YtfmbebofllgmoaaGreatDoor
namespace Go.Proofs.YtfmbebofllgmoaaGreatDoor
open Go.RowKit
/-- The table 'meanings' in memory. -/
def TabIn (w : World) : Prop := ∀ c : Int, 1 ≤ c → c < 12 → w.cell? ⟨0, c.toNat * 2, none⟩ = some (.int .i64 (tabA c)) ∧ w.cell? ⟨0, c.toNat * 2 + 1, none⟩ = some (.int .i64 (tabB c))

theorem bl2 {w : World} (o1 o2 : Obj) : Below w.heap.size w ((w.alloc o1).alloc o2) := ((Below.refl _ _).alloc (Nat.le_refl _) _).alloc (by simp) _
theorem bl3 {w : World} (o1 o2 o3 : Obj) : Below w.heap.size w (((w.alloc o1).alloc o2).alloc o3) := (bl2 o1 o2).alloc (by simp; omega) _
theorem bl4 {w : World} (o1 o2 o3 o4 : Obj) : Below w.heap.size w ((((w.alloc o1).alloc o2).alloc o3).alloc o4) := (bl3 o1 o2 o3).alloc (by simp; omega) _
theorem bl5 {w : World} (o1 o2 o3 o4 o5 : Obj) : Below w.heap.size w (((((w.alloc o1).alloc o2).alloc o3).alloc o4).alloc o5) := (bl4 o1 o2 o3 o4).alloc (by simp; omega) _

set_option maxHeartbeats 400000 in
theorem cright_any (c a b : Int) (v1 : Value) (a2 a3 : Option Addr) (nt c2 nf c3 : Nat) (w : World) (ht : TabIn w) :
    Calls Tryz.prog 51 #[.agg #[.int .i64 c, .int .i64 a, .int .i64 b], .agg #[v1, .slice a2 nt c2, .slice a3 nf c3]] w fun e w' => e = .returned (.bool (rightB c a b nt nf)) ∧ Below w.heap.size w w' := by
  by_cases hc : 1 ≤ c
  · by_cases hc' : c < 12
    · have hc0 : (0:Int) ≤ c := by omega
      obtain ⟨h1, h2⟩ := ht c hc hc'
      clear ht
      have hb : 0 < w.heap.size := World.block_lt_of_cell? w _ h1
      generalize hA : tabA c = tA at h1
      generalize hB : tabB c = tB at h2
      have e0 : rightB c a b nt nf = (fitsB a tA nt nf && fitsB b tB nt nf) := by
        simp [rightB, hc, hc', hA, hB]
      rw [e0]
      clear e0 hA hB
      cases hf : fitsB a tA nt nf
      all_goals
        go_enter Tryz.func51, Tryz.ntmps51
        go_wp2_with (go_at_call 82; refine (fits_any _ _ _ _ _ _ _ _ _ _).mono ?_; rintro e w' ⟨rfl, rfl⟩)
        go_ret
        exact ⟨ret_bool (by simp), by first | exact bl5 _ _ _ _ _ | exact bl4 _ _ _ _⟩
    · have e0 : rightB c a b nt nf = false := by simp [rightB, hc']
      rw [e0]
      go_enter Tryz.func51, Tryz.ntmps51
      go_wp2
      go_ret
      exact ⟨rfl, bl2 _ _⟩
  · have e0 : rightB c a b nt nf = false := by simp [rightB, hc]
    rw [e0]
    go_enter Tryz.func51, Tryz.ntmps51
    go_wp2
    go_ret
    exact ⟨rfl, bl2 _ _⟩
end Go.Proofs.YtfmbebofllgmoaaGreatDoor
namespace Go.Proofs.YtfmbebofllgmoaaGreatDoor
open Go.RowKit

theorem bcel {B : Nat} {w w' : World} (h : Below B w w') (b o : Nat) (hb : b < B) : w'.cell? ⟨b, o, none⟩ = w.cell? ⟨b, o, none⟩ := h.cell (p := ⟨b, o, none⟩) hb
theorem bfro {B : Nat} {w w' : World} (h : Below B w w') (b o : Nat) (hb : b < B) : w'.frozen? ⟨b, o, none⟩ = w.frozen? ⟨b, o, none⟩ := h.frozen (p := ⟨b, o, none⟩) hb

theorem OwnHands.setCell {w : World} {g n k : Nat} {ln : Nat → Nat} {f : Nat → Nat → O3} {G : Nat → Nat} (h : OwnHands w g n k ln f G) {a : Addr} (hne : a.block < g) (v : Value) : OwnHands (w.setCell a v) g n k ln f G := by
  have e : ∀ o, a ≠ ⟨g, o, none⟩ := fun o he => by rw [he] at hne; exact absurd hne (Nat.lt_irrefl _)
  exact ⟨h.there.setCell _ _, fun i hi hn => (World.cell?_setCell_other _ _ _ _ (e _)).trans (h.heads i hi hn), fun i hi hn => (World.cell?_setCell_other _ _ _ _ (e _)).trans (h.pads i hi hn),
    fun i hi => by simpa using h.far i hi, fun i hi hn => (h.own i hi hn).setCell (by have := (h.far i hi).1; omega) _, fun i hi hn => opAt_setCell (h.pad i hi hn) (by have := (h.far i hi).1; omega) _⟩

theorem keep3 {w : World} {g o : Nat} {v : Value} (x y z : Value) (h : w.cell? ⟨g, o, none⟩ = some v) :
    (((w.setCell ⟨g + 1, 0, none⟩ x).setCell ⟨g + 1, 1, none⟩ y).setCell ⟨g + 1, 2, none⟩ z).cell? ⟨g, o, none⟩ = some v := by
  rw [World.cell?_setCell_other _ _ _ _ (by simp), World.cell?_setCell_other _ _ _ _ (by simp), World.cell?_setCell_other _ _ _ _ (by simp)]
  exact h

set_option maxHeartbeats 1000000 in
theorem program_any (v1 v2 v3 : Value) (ns nt nf : Nat) (s : Nat → O3) (tl fl : Nat → Nat) (t f : Nat → Nat → O3) (w : World) (h1 : OpsIn w v1 ns s) (h2 : HandsIn w v2 nt tl t) (h3 : HandsIn w v3 nf fl f) :
    Calls Tryz.prog 39 #[.agg #[v1, v2, v3]] w fun e w' => ∃ g1 g2 g3 G2 G3, e = .returned (.agg #[.slice (some ⟨g1, 0, none⟩) ns (ns + 4), .slice (some ⟨g2, 0, none⟩) nt (nt + 4), .slice (some ⟨g3, 0, none⟩) nf (nf + 4)]) ∧
      Below w.heap.size w w' ∧ w.heap.size ≤ g1 ∧ g1 < g2 ∧ g2 < g3 ∧ (∀ i, i < nt + 4 → G2 i < g3) ∧ OwnOps w' g1 (ns + 4) (padF ns s) ∧ OwnHands w' g2 nt (nt + 4) tl t G2 ∧ OwnHands w' g3 nf (nf + 4) fl f G3 := by
  obtain ⟨W0, hW⟩ : ∃ W0, W0 = ((w.alloc (.cells #[v1, v2, v3] 33)).alloc (.cells #[.slice none 0 0, .slice none 0 0, .slice none 0 0] 33)).drew := ⟨_, rfl⟩
  have hB0 : Below w.heap.size w W0 := by subst hW; exact (bl2 _ _).drew
  have hsz : W0.heap.size = w.heap.size + 2 := by subst hW; simp
  have c00 : W0.cell? ⟨w.heap.size, 0, none⟩ = some v1 := by subst hW; simp
  have c01 : W0.cell? ⟨w.heap.size, 1, none⟩ = some v2 := by subst hW; simp
  have c02 : W0.cell? ⟨w.heap.size, 2, none⟩ = some v3 := by subst hW; simp
  have d0 : ∀ j, j < 3 → W0.cell? ⟨w.heap.size + 1, j, none⟩ = some (.slice none 0 0) ∧ W0.frozen? ⟨w.heap.size + 1, j, none⟩ = false := by
    subst hW
    intro j hj
    have : j = 0 ∨ j = 1 ∨ j = 2 := by omega
    rcases this with rfl | rfl | rfl <;> simp
  have HW := hide hW
  have HS := hide hsz
  have H1 := hide h1
  have H2 := hide h2
  have H3 := hide h3
  have HD := hide d0
  clear hsz h1 h2 h3 d0 hW
  go_enter Tryz.func39, Tryz.ntmps39
  go_wp2
  go_region_held3 (fun w' => w'.cell? ⟨w.heap.size, 0, none⟩ = some v1 ∧ w'.cell? ⟨w.heap.size, 1, none⟩ = some v2 ∧ w'.cell? ⟨w.heap.size, 2, none⟩ = some v3) (first | with_reducible exact ⟨e0, e1, e2⟩ | with_reducible exact ⟨f0, f1, f2⟩ | with_reducible exact ⟨k0, k1, k2⟩ | with_reducible exact ⟨keep3 _ _ _ k0, keep3 _ _ _ k1, keep3 _ _ _ k2⟩ | (simp [go_sem, World.cell?_alloc_past]; done))
    (first
      | (go_at_call 65; rw [← unhide HW]; refine (ops_any v1 ns s W0 (opsIn_below hB0 (unhide H1))).mono ?_; rintro e w1 ⟨rfl, hb1, hs1, ho1⟩
         have hsz := unhide HS
         have e0 : w1.cell? ⟨w.heap.size, 0, none⟩ = some v1 := (bcel hb1 _ _ (by omega)).trans c00
         have e1 : w1.cell? ⟨w.heap.size, 1, none⟩ = some v2 := (bcel hb1 _ _ (by omega)).trans c01
         have e2 : w1.cell? ⟨w.heap.size, 2, none⟩ = some v3 := (bcel hb1 _ _ (by omega)).trans c02
         have hB1 : Below w.heap.size w w1 := hB0.trans (hb1.mono (by omega))
         clear hsz)
      | (go_at_call_of 66 v2; refine (handlers_any v2 nt tl t w1 (handsIn_below hB1 (unhide H2))).mono ?_; rintro e w2 ⟨rfl, hb2, hs2, G2, hG2⟩
         have hsz := unhide HS
         have f0 : w2.cell? ⟨w.heap.size, 0, none⟩ = some v1 := (bcel hb2 _ _ (by omega)).trans e0
         have f1 : w2.cell? ⟨w.heap.size, 1, none⟩ = some v2 := (bcel hb2 _ _ (by omega)).trans e1
         have f2 : w2.cell? ⟨w.heap.size, 2, none⟩ = some v3 := (bcel hb2 _ _ (by omega)).trans e2
         have hB2 : Below w.heap.size w w2 := hB1.trans (hb2.mono (by omega))
         clear hsz)
      | (go_at_call_of 66 v3; refine (handlers_any v3 nf fl f w2 (handsIn_below hB2 (unhide H3))).mono ?_; rintro e w3 ⟨rfl, hb3, hs3, G3, hG3⟩
         have hsz := unhide HS
         have k0 : w3.cell? ⟨w.heap.size, 0, none⟩ = some v1 := (bcel hb3 _ _ (by omega)).trans f0
         have k1 : w3.cell? ⟨w.heap.size, 1, none⟩ = some v2 := (bcel hb3 _ _ (by omega)).trans f1
         have k2 : w3.cell? ⟨w.heap.size, 2, none⟩ = some v3 := (bcel hb3 _ _ (by omega)).trans f2
         have hB3 : Below w.heap.size w w3 := hB2.trans (hb3.mono (by omega))
         have hb03 : Below W0.heap.size W0 w3 := (hb1.trans (hb2.mono (by omega))).trans (hb3.mono (by omega))
         have l0 : w3.cell? ⟨w.heap.size + 1, 0, none⟩ = some (.slice none 0 0) := (bcel hb03 _ _ (by omega)).trans (unhide HD 0 (by omega)).1
         have l1 : w3.cell? ⟨w.heap.size + 1, 1, none⟩ = some (.slice none 0 0) := (bcel hb03 _ _ (by omega)).trans (unhide HD 1 (by omega)).1
         have l2 : w3.cell? ⟨w.heap.size + 1, 2, none⟩ = some (.slice none 0 0) := (bcel hb03 _ _ (by omega)).trans (unhide HD 2 (by omega)).1
         have m0 : w3.frozen? ⟨w.heap.size + 1, 0, none⟩ = false := (bfro hb03 _ _ (by omega)).trans (unhide HD 0 (by omega)).2
         have m1 : w3.frozen? ⟨w.heap.size + 1, 1, none⟩ = false := (bfro hb03 _ _ (by omega)).trans (unhide HD 1 (by omega)).2
         have m2 : w3.frozen? ⟨w.heap.size + 1, 2, none⟩ = false := (bfro hb03 _ _ (by omega)).trans (unhide HD 2 (by omega)).2
         clear hsz))
  go_wp2
  have hsz := unhide HS
  refine bodyPost_ret (v := .agg #[.slice (some ⟨W0.heap.size, 0, none⟩) ns (ns + 4), .slice (some ⟨w1.heap.size, 0, none⟩) nt (nt + 4), .slice (some ⟨w2.heap.size, 0, none⟩) nf (nf + 4)]) ?_ rfl ⟨W0.heap.size, w1.heap.size, w2.heap.size, G2, G3, rfl, ?_, by omega, hs1, hs2, fun i hi => (hG2.far i hi).2, ?_, ?_, ?_⟩
  · simp [results, Tryz.results39, go_sem, l0, l1, l2]
  · exact ((hB3.setCell (by simp) _).setCell (by simp) _).setCell (by simp) _
  · exact ((((ho1.below hb2 hs1).below hb3 (by omega)).setCell (by simp; omega) _).setCell (by simp; omega) _).setCell (by simp; omega) _
  · exact (((hG2.below hb3 hs2 (fun i hi => (hG2.far i hi).2)).setCell (by simp; omega) _).setCell (by simp; omega) _).setCell (by simp; omega) _
  · exact ((hG3.setCell (by simp; omega) _).setCell (by simp; omega) _).setCell (by simp; omega) _
end Go.Proofs.YtfmbebofllgmoaaGreatDoor
namespace Go.Proofs.YtfmbebofllgmoaaGreatDoor
open Go.RowKit

theorem Wiped.cell {q : Nat} {w w' : World} (h : Wiped q w w') {b o : Nat} (hb : b ≠ q) : w'.cell? ⟨b, o, none⟩ = w.cell? ⟨b, o, none⟩ := World.cell?_of_block (w := w) (h.block b hb)
theorem Wiped.writable {q g m : Nat} {w w' : World} (h : Wiped q w w') (hw : Writable w g m) : Writable w' g m :=
  fun k hk => ⟨h.there _ (hw k hk).1, (h.frozen _).trans (hw k hk).2⟩
theorem Wiped.below {q B : Nat} {w w' : World} (h : Wiped q w w') (hq : B ≤ q) : Below B w w' :=
  ⟨h.os, h.tape, h.output, Nat.le_of_eq h.size.symm, fun k hk => h.block k (by omega)⟩

theorem Dr.below {w w' : World} (B : Nat) (h : Dr w w') : Below B w w' := by
  obtain ⟨m, rfl⟩ := h
  exact ⟨rfl, rfl, rfl, Nat.le_refl _, fun _ _ => rfl⟩
theorem OwnHands.dr {w w' : World} {g n k : Nat} {ln : Nat → Nat} {f : Nat → Nat → O3} {G : Nat → Nat} (h : OwnHands w g n k ln f G) (hd : Dr w w') : OwnHands w' g n k ln f G := by
  obtain ⟨m, rfl⟩ := hd
  exact ⟨h.there, h.heads, h.pads, h.far, fun i hi hn => ⟨(h.own i hi hn).there, (h.own i hi hn).cells⟩, h.pad⟩

theorem opsIn_len {w : World} {v : Value} {n : Nat} {f : Nat → O3} (h : OpsIn w v n f) : n * 24 ≤ 140737488351232 := by obtain ⟨_, _, _, h, _⟩ := h; exact h
theorem handsIn_len {w : World} {v : Value} {n : Nat} {ln : Nat → Nat} {f : Nat → Nat → O3} (h : HandsIn w v n ln f) : n * 24 ≤ 140737488351232 := by obtain ⟨_, _, _, h, _⟩ := h; exact h
theorem handsIn_each {w : World} {v : Value} {n : Nat} {ln : Nat → Nat} {f : Nat → Nat → O3} (h : HandsIn w v n ln f) : ∀ i, i < n → ln i * 24 ≤ 140737488351232 := by
  obtain ⟨_, _, _, _, h⟩ := h
  intro i hi
  rcases h with h | ⟨b, off, _, h⟩
  · omega
  · obtain ⟨vi, _, hv⟩ := h i hi; exact opsIn_len hv

end Go.Proofs.YtfmbebofllgmoaaGreatDoor
namespace Go.Proofs.YtfmbebofllgmoaaGreatDoor
open Go.RowKit

/-- The list 'a, and behind its first n the list b'. -/
def cat {α : Type} (n : Nat) (a b : Nat → α) : Nat → α := fun i => if i < n then a i else b (i - n)

/-- A list of handlers that the call itself has built since the world w0. -/
def OwnH (w0 w : World) (v : Value) (n : Nat) (l : Nat → Nat) (f : Nat → Nat → O3) : Prop :=
  ∃ xs, w.ownsRow w0.heap.size 31 1 v n xs ∧ ∀ i, i < n → ∃ vi, xs[i]? = some vi ∧ OpsIn w0 vi (l i) (f i)

theorem ownH_nil (w0 w : World) (l : Nat → Nat) (f : Nat → Nat → O3) : OwnH w0 w (.slice none 0 0) 0 l f :=
  ⟨[], World.ownsRow_nil _ _ _ _, fun _ hi => absurd hi (Nat.not_lt_zero _)⟩

theorem ownH_form {w0 w : World} {v : Value} {n : Nat} {l : Nat → Nat} {f : Nat → Nat → O3} (h : OwnH w0 w v n l f) (hb : Below w0.heap.size w0 w) (hn : 0 < n) :
    ∃ g cap, v = .slice (some ⟨g, 0, none⟩) n cap ∧ ∀ i, i < n → ∃ vi, w.cell? ⟨g, i, none⟩ = some vi ∧ OpsIn w vi (l i) (f i) := by
  obtain ⟨xs, ho, hi⟩ := h
  obtain ⟨g, cap, rfl, _, _⟩ := ho.form hn
  refine ⟨g, cap, rfl, fun i hin => ?_⟩
  obtain ⟨vi, h1, h2⟩ := hi i hin
  have hc := ho.cells (g := g) rfl i vi h1
  have hadd : (⟨g, 0, none⟩ : Addr).add i = ⟨g, i, none⟩ := by unfold Addr.add; split <;> simp_all
  rw [hadd] at hc
  exact ⟨vi, hc, opsIn_below hb h2⟩

theorem choose_list (n : Nat) (P : Nat → Value → Prop) (h : ∀ i, i < n → ∃ v, P i v) : ∃ xs : List Value, xs.length = n ∧ ∀ i, i < n → ∃ v, xs[i]? = some v ∧ P i v := by
  induction n with
  | zero => exact ⟨[], rfl, fun i hi => absurd hi (Nat.not_lt_zero _)⟩
  | succ n ih =>
    obtain ⟨xs, hl, hx⟩ := ih (fun i hi => h i (by omega))
    obtain ⟨v, hv⟩ := h n (by omega)
    refine ⟨xs ++ [v], by simp [hl], fun i hi => ?_⟩
    by_cases e : i = n
    · subst e
      exact ⟨v, by rw [List.getElem?_append_right (by omega)]; simp [hl], hv⟩
    · obtain ⟨u, h1, h2⟩ := hx i (by omega)
      exact ⟨u, by rw [List.getElem?_append_left (by omega)]; exact h1, h2⟩

theorem info31' : ∃ i, Tryz.prog.info? 31 = some i ∧ i.zero = some (.slice none 0 0) ∧ i.size = 1 ∧ i.bytes = 24 := by
  have h := info31
  cases hi : Tryz.prog.info? 31 with
  | none => rw [hi] at h; cases h
  | some i =>
    rw [hi] at h
    simp only [Option.map_some, Option.some.injEq, Prod.mk.injEq] at h
    exact ⟨i, rfl, h.1, h.2.1, h.2.2⟩

theorem run_append_none (w : World) (ty : TypeId) (base : Nat) (v : Value) (n c : Nat) (xs : List Value) (hown : w.ownsRow base 31 1 v n xs) :
    (Builtin.append_ #[25, 25] ty #[v, .slice none 0 c]).run Tryz.prog w = .ok v w := by
  obtain ⟨i, hi, _, _, _⟩ := info31'
  rcases hown.2 with ⟨rfl, rfl⟩ | ⟨g, cap, cur, rfl, _, _, hnc, _⟩
  · simp [Builtin.append_, run_underlying Tryz.underlying25, sizeOf, typeInfo, hi, Builtin.lenOf, Builtin.firstCells]
  · simp [Builtin.append_, run_underlying Tryz.underlying25, sizeOf, typeInfo, hi, Builtin.lenOf, Builtin.firstCells, hnc, storeCells]

theorem ownH_append {w0 w : World} {v X : Value} {n m : Nat} {l l' : Nat → Nat} {f f' : Nat → Nat → O3} (hb : Below w0.heap.size w0 w) (h : OwnH w0 w v n l f) (hx : HandsIn w0 X m l' f') (hn : n + m ≤ 1000) (ty : TypeId) :
    ∃ v' w', (Builtin.append_ #[25, 25] ty #[v, X]).run Tryz.prog w = .ok v' w' ∧ OwnH w0 w' v' (n + m) (cat n l l') (cat n f f') ∧ Below w0.heap.size w0 w' := by
  obtain ⟨xs, ho, hi⟩ := h
  obtain ⟨i, hinf, hz, hs1, hby⟩ := info31'
  obtain ⟨a, c, rfl, _, hX⟩ := hx
  have key : ∀ news : List Value, news.length = m → (∀ i, i < m → ∃ vi, news[i]? = some vi ∧ OpsIn w0 vi (l' i) (f' i)) → ∀ w' v', w'.ownsRow w0.heap.size 31 1 v' (n + m) (xs ++ news) → OwnH w0 w' v' (n + m) (cat n l l') (cat n f f') := by
    intro news hl hnew w' v' hown
    refine ⟨xs ++ news, hown, fun j hj => ?_⟩
    have hxl : xs.length = n := by simpa using ho.1
    by_cases e : j < n
    · obtain ⟨vi, h1, h2⟩ := hi j e
      refine ⟨vi, by rw [List.getElem?_append_left (by omega)]; exact h1, ?_⟩
      simpa [cat, e] using h2
    · obtain ⟨vi, h1, h2⟩ := hnew (j - n) (by omega)
      refine ⟨vi, by rw [List.getElem?_append_right (by omega), hxl]; exact h1, ?_⟩
      simpa [cat, e] using h2
  cases a with
  | none =>
    have hm : m = 0 := by
      rcases hX with hX | ⟨b, off, ha, _⟩
      · exact hX
      · cases ha
    subst hm
    refine ⟨v, w, run_append_none w ty _ v n c xs ho, ?_, hb⟩
    exact key [] rfl (fun i hi => absurd hi (Nat.not_lt_zero _)) w v (by simpa using ho)
  | some ad =>
    have hnews : ∃ news : List Value, news.length = m ∧ (∀ i, i < m → ∃ vi, news[i]? = some vi ∧ (w0.cell? (ad.add i) = some vi ∧ OpsIn w0 vi (l' i) (f' i))) := by
      refine choose_list m _ fun i hi => ?_
      rcases hX with hX | ⟨b, off, ha, hX⟩
      · omega
      · obtain ⟨vi, h1, h2⟩ := hX i hi
        cases ha
        have hadd : (⟨b, off, none⟩ : Addr).add i = ⟨b, off + i, none⟩ := by unfold Addr.add; split <;> simp_all
        exact ⟨vi, by rw [hadd]; exact h1, h2⟩
    obtain ⟨news, hl, hnew⟩ := hnews
    have get : ∀ j u, news[j]? = some u → w0.cell? (ad.add j) = some u ∧ OpsIn w0 u (l' j) (f' j) := by
      intro j u hu
      have hj : j < m := by
        have := (List.getElem?_eq_some_iff.1 hu).1
        omega
      obtain ⟨vi, h1, h2⟩ := hnew j hj
      rw [hu] at h1
      cases h1
      exact h2
    obtain ⟨v', w', hr, h2, h3, _⟩ := run_append_own (P := Tryz.prog) w w0.heap.size 25 ty 31 i _ 1 24 Tryz.underlying25 hinf hz hs1 hby rfl (by decide) v n xs ho ad m c news (by omega)
      (fun j u hu => by
        obtain ⟨hc, _⟩ := get j u hu
        exact (hb.cell (World.block_lt_of_cell? w0 _ hc)).trans hc)
      (fun u hu => by
        obtain ⟨j, hj⟩ := List.mem_iff_getElem?.1 hu
        obtain ⟨_, _, hv, _⟩ := (get j u hj).2
        rw [hv]; rfl)
      (by simp only [maxLen]; omega) (by omega) hb.size
    refine ⟨v', w', hr, key news hl (fun i hi => by obtain ⟨vi, h1, h2⟩ := hnew i hi; exact ⟨vi, h1, h2.2⟩) w' v' h2, ?_⟩
    exact hb.grown h3 hb.size (fun k hk => (ho.lt k hk).1)

theorem wpList_app {ops : Array Oper} {rest : List Oper} {o : Oper} {a : Act} {Q : Exit → Act → World → Prop} {w0 w : World} (hgd : o.guard = none) (s x : Operand)
    (ho : o.op = .call { callee := .builtin .append, args := #[s, x], argTypes := #[25, 25] }) {v X : Value} {n m : Nat} {l l' : Nat → Nat} {f f' : Nat → Nat → O3}
    (hs : a.eval s = v) (hx : a.eval x = X) (hb : Below w0.heap.size w0 w) (hown : OwnH w0 w v n l f) (hX : HandsIn w0 X m l' f') (hn : n + m ≤ 1000)
    (h : ∀ v' w', OwnH w0 w' v' (n + m) (cat n l l') (cat n f f') → Below w0.heap.size w0 w' → wpList Tryz.prog ops Q rest (a.put o.dst v') w') : wpList Tryz.prog ops Q (o :: rest) a w := by
  refine wpList_plain hgd fun K hK => ?_
  obtain ⟨v', w', hr, h2, h3⟩ := ownH_append hb hown hX hn o.type
  unfold Oper.wp execOp
  simp only [ho, resolve, invoke, builtin, Sem.run_bind, Sem.run_pure, Result.andThen_ok, List.map_toArray, List.map_cons, List.map_nil, hs, hx, hr]
  exact hK _ _ (h v' w' h2 h3)
end Go.Proofs.YtfmbebofllgmoaaGreatDoor
namespace Go.Proofs.YtfmbebofllgmoaaGreatDoor
open Go.RowKit

theorem run_append_make (w : World) (n : Nat) (h0 : 0 < n) (hn : n ≤ 1000) (ty : TypeId) : (Builtin.append_ #[25, 3] ty #[.slice none 0 0, .int .i64 n]).run Tryz.prog w =
    .ok (.slice (some ⟨w.heap.size, 0, none⟩) n (grownCap w n 0 31)) (w.drew.alloc (.cells (Builtin.zeroCells #[.slice none 0 0] n ++ Builtin.zeroCells #[.slice none 0 0] (grownCap w n 0 31 - n)) 31)) := by
  obtain ⟨i, hi, hz, hs1, hby⟩ := info31'
  have wl : IntKind.i64.wrap (n : Int) = n := by rw [IntKind.wrap_i64]; omega
  have n1 : ¬ ((n : Int) < 0) := by omega
  have n2 : ¬ (281474976710656 < (n : Int) * 24) := by omega
  have n3 : n ≠ 0 := by omega
  have n4 : ¬ (9223372036854775807 < (n : Int)) := by omega
  have n5 : ¬ (281474976710656 < Builtin.nextslicecap n 0 * 24) := by
    have : Builtin.nextslicecap n 0 = n := by unfold Builtin.nextslicecap; rw [if_pos (by omega)]
    rw [this]; omega
  simp [Builtin.append_, run_underlying Tryz.underlying25, run_underlying Tryz.underlying3, sizeOf, typeInfo, zeroValue, hi, hz, hs1, hby, asInt, asIntOf, wl, n1, n2, n3, n4, n5, Question.forced, newRow, grownCap, Builtin.firstCells]
  rfl

theorem size_zc (n : Nat) : (Builtin.zeroCells #[.slice none 0 0] n).size = n := by simp [size_zeroCells]

theorem wpList_mk {ops : Array Oper} {rest : List Oper} {o : Oper} {a : Act} {Q : Exit → Act → World → Prop} {w : World} (hgd : o.guard = none) (s x : Operand)
    (ho : o.op = .call { callee := .builtin .append, args := #[s, x], argTypes := #[25, 3] }) {n : Nat} (hs : a.eval s = .slice none 0 0) (hx : a.eval x = .int .i64 n) (h0 : 0 < n) (hn : n ≤ 1000)
    (h : ∀ cap w', n ≤ cap → Below w.heap.size w w' → w'.ownsRow w.heap.size 31 1 (.slice (some ⟨w.heap.size, 0, none⟩) 0 cap) 0 [] → wpList Tryz.prog ops Q rest (a.put o.dst (.slice (some ⟨w.heap.size, 0, none⟩) n cap)) w') :
    wpList Tryz.prog ops Q (o :: rest) a w := by
  refine wpList_plain hgd fun K hK => ?_
  have hr := run_append_make w n h0 hn o.type
  have hge := grownCap_ge w n 0 31
  have hle := grownCap_le_maxLen w n 0 31 (by simp only [maxLen]; omega)
  unfold Oper.wp execOp
  simp only [ho, resolve, invoke, builtin, Sem.run_bind, Sem.run_pure, Result.andThen_ok, List.map_toArray, List.map_cons, List.map_nil, hs, hx, hr]
  refine hK _ _ (h _ _ hge ((Below.refl _ _).drew.alloc (by simp) _) ?_)
  exact ⟨by simp, .inr ⟨w.heap.size, _, _, rfl, Nat.le_refl _, heap_alloc_new w.drew _, Nat.zero_le _, hle, by simp only [Array.size_append, size_zc]; omega, by simp⟩⟩

set_option maxHeartbeats 400000 in
theorem grow_any (n : Nat) (w : World) (h0 : 0 < n) (hn : n ≤ 1000) (l : Nat → Nat) (f : Nat → Nat → O3) :
    Calls Tryz.prog 81 #[.slice none 0 0, .int .i64 n] w fun e w' => ∃ v, e = .returned v ∧ OwnH w w' v 0 l f ∧ Below w.heap.size w w' := by
  have k0 : (0 : Int) < (n : Int) := by omega
  have k1 : (n : Int) ≤ 1000 := by omega
  go_enter Tryz.func81, Tryz.ntmps81
  go_wp2_with (at_builtin; refine wpList_mk rfl (.tmp 20) (.tmp 21) rfl rfl rfl h0 hn ?_; intro cap w1 hcap hb ho; have hc0 : (0 : Int) ≤ (cap : Int) := by omega)
  go_ret
  exact ⟨_, rfl, ⟨[], ho, fun _ hi => absurd hi (Nat.not_lt_zero _)⟩, hb⟩
end Go.Proofs.YtfmbebofllgmoaaGreatDoor
namespace Go.Proofs.YtfmbebofllgmoaaGreatDoor
open Go.RowKit

def rt (x : O3) (nt nf : Nat) : Bool := rightB x.1 x.2.1 x.2.2 nt nf
def allL (ns nt : Nat) (tl fl : Nat → Nat) : Nat → Nat := cat (1 + nt) (cat 1 (cat 0 (fun _ => 0) (fun _ => ns)) tl) fl
def allF (nt : Nat) (s : Nat → O3) (t f : Nat → Nat → O3) : Nat → Nat → O3 := cat (1 + nt) (cat 1 (cat 0 (fun _ _ => (0, 0, 0)) (fun _ => s)) t) f

/-- What P3 asks: the error of a program. -/
def Ans (nt nf N : Nat) (L : Nat → Nat) (F : Nat → Nat → O3) (e : Int) : Prop :=
  (8 < nt ∧ e = 1) ∨ (nt ≤ 8 ∧ 8 < nf ∧ e = 2) ∨ (nt ≤ 8 ∧ nf ≤ 8 ∧ (∃ i, i < N ∧ 32 < L i) ∧ e = 3) ∨
  (nt ≤ 8 ∧ nf ≤ 8 ∧ (∀ i, i < N → L i ≤ 32) ∧ (∃ i k, i < N ∧ k < L i ∧ rt (F i k) nt nf = false) ∧ e = 4) ∨
  (nt ≤ 8 ∧ nf ≤ 8 ∧ (∀ i, i < N → L i ≤ 32) ∧ (∀ i k, i < N → k < L i → rt (F i k) nt nf = true) ∧ e = 0)

theorem Ans.one {nt nf N : Nat} {L : Nat → Nat} {F : Nat → Nat → O3} {e e' : Int} (h : Ans nt nf N L F e) (h' : Ans nt nf N L F e') : e = e' := by
  rcases h with ⟨h1, h2⟩ | ⟨h1, h2, h3⟩ | ⟨h1, h2, ⟨i, h3, h4⟩, h5⟩ | ⟨h1, h2, h3, ⟨i, k, h4, h5, h6⟩, h7⟩ | ⟨h1, h2, h3, h4, h5⟩ <;>
  rcases h' with ⟨g1, g2⟩ | ⟨g1, g2, g3⟩ | ⟨g1, g2, ⟨j, g3, g4⟩, g5⟩ | ⟨g1, g2, g3, ⟨j, m, g4, g5, g6⟩, g7⟩ | ⟨g1, g2, g3, g4, g5⟩ <;>
  first
  | omega
  | (have := g3 i h3; omega)
  | (have := h3 j g3; omega)
  | (have := g4 i k h4 h5; rw [this] at h6; cases h6)
  | (have := h4 j m g4 g5; rw [this] at g6; cases g6)

theorem rright_below (c a b : Int) (v1 : Value) (a2 a3 : Option Addr) (nt c2 nf c3 : Nat) (w : World) :
    Calls Tryz.prog 70 #[.agg #[.int .i64 c, .int .i64 a, .int .i64 b], .agg #[v1, .slice a2 nt c2, .slice a3 nf c3]] w fun e w' => e = .returned (.bool (rightB c a b nt nf)) ∧ Below w.heap.size w w' :=
  (rright_any c a b v1 a2 a3 nt c2 nf c3 w).mono fun _ _ ⟨h1, h2⟩ => ⟨h1, by rw [h2]; exact bl2 _ _⟩

set_option maxHeartbeats 1000000 in
theorem rcheck_any (v1 v2 v3 : Value) (ns nt nf : Nat) (s : Nat → O3) (tl fl : Nat → Nat) (t f : Nat → Nat → O3) (w : World) (h1 : OpsIn w v1 ns s) (h2 : HandsIn w v2 nt tl t) (h3 : HandsIn w v3 nf fl f) :
    Calls Tryz.prog 41 #[.agg #[v1, v2, v3]] w fun e w' => ∃ x, e = .returned (.int .i64 x) ∧ Ans nt nf (1 + nt + nf) (allL ns nt tl fl) (allF nt s t f) x ∧ Below w.heap.size w w' := by
  have H2 := hide h2
  have H3 := hide h3
  generalize eN : 1 + nt + nf = N
  generalize eL : allL ns nt tl fl = L
  generalize eF : allF nt s t f = F
  have EN := hide eN
  have EL := hide eL
  have EF := hide eF
  clear eN eL eF
  have H1 := hide h1
  obtain ⟨a1, c1, rfl, l1, r1⟩ := h1
  obtain ⟨a2, c2, rfl, l2, r2⟩ := h2
  obtain ⟨a3, c3, rfl, l3, r3⟩ := h3
  clear r1 r2 r3
  by_cases q2 : 8 < nt
  · go_enter Tryz.func41, Tryz.ntmps41
    go_wp2
    go_ret
    exact ⟨1, rfl, .inl ⟨q2, rfl⟩, (Below.refl _ _).alloc (Nat.le_refl _) _⟩
  by_cases q3 : 8 < nf
  · go_enter Tryz.func41, Tryz.ntmps41
    go_wp2
    go_ret
    exact ⟨2, rfl, .inr (.inl ⟨by omega, q3, rfl⟩), (Below.refl _ _).alloc (Nat.le_refl _) _⟩
  obtain ⟨W1, hW⟩ : ∃ W1, W1 = (w.alloc (.cells #[(.slice a1 ns c1), .slice a2 nt c2, .slice a3 nf c3] 33)).alloc (.cells #[(.slice a1 ns c1)] 31) := ⟨_, rfl⟩
  have hB1 : Below w.heap.size w W1 := by subst hW; exact bl2 _ _
  have i1 : HandsIn W1 (.slice (some ⟨w.heap.size + 1, 0, none⟩) 1 1) 1 (fun _ => ns) (fun _ => s) := by
    refine ⟨_, _, rfl, by omega, .inr ⟨_, _, rfl, fun i hi => ⟨(.slice a1 ns c1), ?_, opsIn_below hB1 (unhide H1)⟩⟩⟩
    obtain rfl : i = 0 := by omega
    subst hW; simp
  have i2 := handsIn_below hB1 (unhide H2)
  have i3 := handsIn_below hB1 (unhide H3)
  have b0 : W1.cell? ⟨w.heap.size, 0, none⟩ = some (.slice a1 ns c1) := by subst hW; simp
  have b1 : W1.cell? ⟨w.heap.size, 1, none⟩ = some (.slice a2 nt c2) := by subst hW; simp
  have b2 : W1.cell? ⟨w.heap.size, 2, none⟩ = some (.slice a3 nf c3) := by subst hW; simp
  have hlt : w.heap.size < W1.heap.size := by subst hW; simp; omega
  have HW := hide hW
  clear hW H1 H2 H3
  have d2 : decide ((8 : Int) < (nt : Int)) = false := by simp; omega
  have d3 : decide ((8 : Int) < (nf : Int)) = false := by simp; omega
  go_enter Tryz.func41, Tryz.ntmps41
  go_wp2_with (first
    | (at_builtin; refine wpList_app (w0 := W1) rfl (.tmp 16) (.tmp 19) rfl rfl rfl (by rw [← unhide HW]; exact Below.refl _ _) (by rw [← unhide HW]; exact ownH_nil W1 W1 (fun _ => 0) (fun _ _ => (0, 0, 0))) i1 (by omega) ?_; intro u1 w1 o1 k1; have e1 := (bcel k1 _ 1 hlt).trans b1; have e2 := (bcel k1 _ 2 hlt).trans b2; rw [Nat.zero_add] at o1)
    | (at_builtin; refine wpList_app (w0 := W1) rfl (.tmp 21) (.tmp 23) rfl rfl rfl k1 o1 i2 (by omega) ?_; intro u2 w2 o2 k2; have e3 := (bcel k2 _ 2 hlt).trans b2)
    | (at_builtin; refine wpList_app (w0 := W1) rfl (.tmp 25) (.tmp 27) rfl rfl rfl k2 o2 i3 (by omega) ?_; intro u3 w3 o3 k3))
  obtain ⟨g, cap, hu, hc⟩ := ownH_form o3 k3 (by omega)
  have hc' : ∀ i, i < N → ∃ vi, w3.cell? ⟨g, i, none⟩ = some vi ∧ OpsIn w3 vi (L i) (F i) := by
    rw [← unhide EN, ← unhide EL, ← unhide EF]; exact hc
  rw [unhide EN] at hu
  rw [hu]
  have hN : N ≤ 17 := by have := unhide EN; omega
  have hB3 : Below w.heap.size w w3 := hB1.trans (k3.mono (by omega))
  have x0 := (bcel k3 _ 0 hlt).trans b0
  have x1 := (bcel k3 _ 1 hlt).trans b1
  have x2 := (bcel k3 _ 2 hlt).trans b2
  have hls : w.heap.size < w3.heap.size := Nat.lt_of_lt_of_le hlt k3.size
  have HC := hide hc'
  clear hc hc' hu o1 o2 o3 k1 k2 k3 e1 e2 e3 i1 i2 i3 HW b0 b1 b2 hB1 hlt EN EL EF
  go_loop [4] (fun i => ∃ k : Nat, k ≤ N ∧ i = .int .i64 k ∧ Hid (∀ j, j < k → L j ≤ 32)) (fun i => N - (intOf i).toNat)
  case atStart => exact ⟨0, Nat.zero_le _, rfl, fun j hj => absurd hj (Nat.not_lt_zero _)⟩
  case round =>
    obtain ⟨k, hk, rfl, hle⟩ := hrel
    by_cases hlt : k < N
    · obtain ⟨vi, ci, hvi⟩ := unhide HC k hlt
      obtain ⟨ai, cc, rfl, li, ri⟩ := hvi
      clear ri
      by_cases hlong : 32 < L k
      · have HL := hide hlong
        go_wp2
        go_ret
        exact ⟨3, rfl, .inr (.inr (.inl ⟨by omega, by omega, ⟨k, hlt, unhide HL⟩, rfl⟩)), hB3⟩
      · go_wp2
        go_round
        case rel =>
          refine ⟨k + 1, by omega, by go_num, fun j hj => ?_⟩
          by_cases e : j = k
          · subst e; omega
          · exact unhide hle j (by omega)
        case measure => simp [intOf]; omega
    · have HA : Hid (∀ j, j < N → L j ≤ 32) := fun j hj => unhide hle j (by omega)
      clear hle
      go_wp2
      go_loopw [5] (fun i wr => ∃ k : Nat, k ≤ N ∧ i = .int .i64 k ∧ Below w3.heap.size w3 wr ∧ Hid (∀ j m, j < k → m < L j → rt (F j m) nt nf = true)) (fun i _ => N - (intOf i).toNat)
      case atStart => exact ⟨0, Nat.zero_le _, rfl, Below.refl _ _, fun j m hj => absurd hj (Nat.not_lt_zero _)⟩
      case round =>
        obtain ⟨k', hk', rfl, hb, hall⟩ := hrel
        by_cases hlt' : k' < N
        · obtain ⟨vi, ci, hvi⟩ := unhide HC k' hlt'
          have HV := hide hvi
          obtain ⟨ai, cc, rfl, li, ri⟩ := hvi
          have HR := hide ri
          have hl32 := unhide HA k' hlt'
          clear ri
          go_wp2
          go_loopw [6] (fun i wr => ∃ m : Nat, m ≤ L k' ∧ i = .int .i64 m ∧ Below w3.heap.size w3 wr ∧ Hid (∀ m', m' < m → rt (F k' m') nt nf = true)) (fun i _ => L k' - (intOf i).toNat)
          case atStart => exact ⟨0, Nat.zero_le _, rfl, hb, fun j hj => absurd hj (Nat.not_lt_zero _)⟩
          case round =>
            obtain ⟨m, hm, rfl, hbm, hgood⟩ := hrel
            have cg := (bcel hbm g k' (World.block_lt_of_cell? _ _ ci)).trans ci
            by_cases hml : m < L k'
            · rcases unhide HR with hz | ⟨b, off, rfl, hf⟩
              · omega
              obtain ⟨g0, g1, g2⟩ := opAt_below hbm (hf m hml)
              have y0 := (bcel hbm _ 0 hls).trans x0
              have y1 := (bcel hbm _ 1 hls).trans x1
              have y2 := (bcel hbm _ 2 hls).trans x2
              clear hf
              generalize hx : F k' m = x at g0 g1 g2
              have HX := hide hx
              clear hx
              have p0 : (0 : Int) ≤ (k' : Int) := by omega
              have p1 : (k' : Int) < (N : Int) := by omega
              have p2 : (0 : Int) ≤ (m : Int) := by omega
              have p3 : (m : Int) < (L k' : Int) := by omega
              go_wp2
              have q0 := World.block_lt_of_cell? _ _ cg
              have q1 := World.block_lt_of_cell? _ _ g0
              have q4 := World.block_lt_of_cell? _ _ y0
              cases hr : rightB x.1 x.2.1 x.2.2 nt nf
              all_goals
                go_region_held3 (fun w' => w'.cell? ⟨g, k', none⟩ = some (.slice (some ⟨b, off, none⟩) (L k') cc) ∧ w'.cell? ⟨b, off + m * 3, none⟩ = some (.int .i64 x.1) ∧ w'.cell? ⟨b, off + m * 3 + 1, none⟩ = some (.int .i64 x.2.1) ∧ w'.cell? ⟨b, off + m * 3 + 2, none⟩ = some (.int .i64 x.2.2) ∧ w'.cell? ⟨w.heap.size, 0, none⟩ = some (.slice a1 ns c1) ∧ w'.cell? ⟨w.heap.size, 1, none⟩ = some (.slice a2 nt c2) ∧ w'.cell? ⟨w.heap.size, 2, none⟩ = some (.slice a3 nf c3))
                  (first | with_reducible exact ⟨z0, z1, z2, z3, z4, z5, z6⟩ | (simp [go_sem, cg, g0, g1, g2, y0, y1, y2]; done))
                  ((go_at_call 70; refine (rright_below x.1 x.2.1 x.2.2 _ a2 a3 nt c2 nf c3 _).mono ?_; rintro e wz ⟨rfl, hz⟩
                    have z0 := (bcel hz g k' q0).trans cg
                    have z1 := (bcel hz b (off + m * 3) q1).trans g0
                    have z2 := (bcel hz b (off + m * 3 + 1) q1).trans g1
                    have z3 := (bcel hz b (off + m * 3 + 2) q1).trans g2
                    have z4 := (bcel hz _ 0 q4).trans y0
                    have z5 := (bcel hz _ 1 q4).trans y1
                    have z6 := (bcel hz _ 2 q4).trans y2))
              · have hbz : Below w3.heap.size w3 wz := hbm.drew.trans (hz.mono hbm.size)
                have HR2 := hide hr
                go_wp2
                go_ret
                refine ⟨4, rfl, .inr (.inr (.inr (.inl ⟨by omega, by omega, unhide HA, ⟨k', m, hlt', hml, ?_⟩, rfl⟩))), hB3.trans (hbz.mono (by omega))⟩
                rw [unhide HX]; exact unhide HR2
              · have hbz : Below w3.heap.size w3 wz := hbm.drew.trans (hz.mono hbm.size)
                have HR2 := hide hr
                go_wp2
                go_roundw
                case rel =>
                  refine ⟨m + 1, by omega, by go_num, hbz, fun m' hm' => ?_⟩
                  by_cases e : m' = m
                  · subst e; rw [unhide HX]; exact unhide HR2
                  · exact unhide hgood m' (by omega)
                case measure => simp [intOf]; omega
            · go_wp2
              go_roundw
              case rel =>
                refine ⟨k' + 1, by omega, by go_num, hbm, fun j m' hj hm' => ?_⟩
                by_cases e : j = k'
                · subst e; exact unhide hgood m' (by omega)
                · exact unhide hall j m' (by omega) hm'
              case measure => simp [intOf]; omega
        · go_wp2
          go_ret
          exact ⟨0, rfl, .inr (.inr (.inr (.inr ⟨by omega, by omega, unhide HA, fun i m hi hm => unhide hall i m (by omega) hm, rfl⟩))), hB3.trans (hb.mono (by omega))⟩
end Go.Proofs.YtfmbebofllgmoaaGreatDoor
namespace Go.Proofs.YtfmbebofllgmoaaGreatDoor
open Go.RowKit

def psum (nt nf k : Nat) : Nat := if k = 0 then 0 else if k = 1 then 1 else if k = 2 then 1 + nt else 1 + nt + nf

/-- How far the list of all handlers is built. -/
def Stg (w wr : World) (v : Value) (ns nt nf : Nat) (s : Nat → O3) (tl fl : Nat → Nat) (t f : Nat → Nat → O3) (k : Nat) : Prop :=
  (k = 0 ∧ OwnH w wr v 0 (fun _ => 0) (fun _ _ => (0, 0, 0))) ∨ (k = 1 ∧ OwnH w wr v 1 (cat 0 (fun _ => 0) (fun _ => ns)) (cat 0 (fun _ _ => (0, 0, 0)) (fun _ => s))) ∨
  (k = 2 ∧ OwnH w wr v (1 + nt) (cat 1 (cat 0 (fun _ => 0) (fun _ => ns)) tl) (cat 1 (cat 0 (fun _ _ => (0, 0, 0)) (fun _ => s)) t)) ∨
  (k = 3 ∧ OwnH w wr v (1 + nt + nf) (allL ns nt tl fl) (allF nt s t f))

set_option maxHeartbeats 1000000 in
theorem concat_any (q : Nat) (p1 : Option Addr) (c1 : Nat) (v2 v3 : Value) (ns nt nf : Nat) (s : Nat → O3) (tl fl : Nat → Nat) (t f : Nat → Nat → O3) (w : World)
    (h1 : HandsIn w (.slice p1 1 c1) 1 (fun _ => ns) (fun _ => s)) (h2 : HandsIn w v2 nt tl t) (h3 : HandsIn w v3 nf fl f)
    (x0 : w.cell? ⟨q, 0, none⟩ = some (.slice p1 1 c1)) (x1 : w.cell? ⟨q, 1, none⟩ = some v2) (x2 : w.cell? ⟨q, 2, none⟩ = some v3) (hnt : nt ≤ 8) (hnf : nf ≤ 8) :
    Calls Tryz.prog 50 #[.slice (some ⟨q, 0, none⟩) 3 3] w fun e w' => ∃ v, e = .returned v ∧ OwnH w w' v (1 + nt + nf) (allL ns nt tl fl) (allF nt s t f) ∧ Below w.heap.size w w' := by
  have H1 := hide h1
  have H2 := hide h2
  have H3 := hide h3
  obtain ⟨a2, c2, rfl, l2, r2⟩ := h2
  obtain ⟨a3, c3, rfl, l3, r3⟩ := h3
  clear h1 r2 r3
  have hq := World.block_lt_of_cell? _ _ x0
  go_enter Tryz.func50, Tryz.ntmps50
  go_wp2
  go_loop [3, 11] (fun z i => ∃ k : Nat, k ≤ 3 ∧ i = .int .i64 k ∧ z = .int .i64 (psum nt nf k)) (fun _ i => 3 - (intOf i).toNat)
  case atStart => exact ⟨0, Nat.zero_le _, rfl, rfl⟩
  case round =>
    obtain ⟨k, hk, rfl, rfl⟩ := hrel
    have hcase : k = 0 ∨ k = 1 ∨ k = 2 ∨ k = 3 := by omega
    rcases hcase with rfl | rfl | rfl | rfl
    · have e0 : psum nt nf 0 = 0 := rfl
      rw [e0]
      go_wp2
      go_round
      case rel => exact ⟨1, by omega, rfl, rfl⟩
      case measure => simp [intOf]
    · have e0 : psum nt nf 1 = 1 := rfl
      rw [e0]
      go_wp2
      go_round
      case rel => exact ⟨2, by omega, rfl, by simp [psum]⟩
      case measure => simp [intOf]
    · have e0 : psum nt nf 2 = 1 + nt := rfl
      rw [e0]
      go_wp2
      go_round
      case rel => exact ⟨3, by omega, rfl, by simp [psum]⟩
      case measure => simp [intOf]
    · have e0 : psum nt nf 3 = 1 + nt + nf := rfl
      rw [e0]
      have hg := grow_any (1 + nt + nf) w (by omega) (by omega) (fun _ => 0) (fun _ _ => (0, 0, 0))
      rw [show (((1 + nt + nf : Nat)) : Int) = 1 + (nt : Int) + (nf : Int) from by omega] at hg
      have HG := hide hg
      clear hg e0
      go_wp2_with fail
      refine (unhide HG).mono ?_
      rintro e w1 ⟨v, rfl, ho, hb⟩
      clear HG
      go_wp2
      go_loopw [6, 27] (fun z i wr => ∃ k : Nat, k ≤ 3 ∧ i = .int .i64 k ∧ Below w.heap.size w wr ∧ Stg w wr z ns nt nf s tl fl t f k) (fun _ i _ => 3 - (intOf i).toNat)
      case atStart => exact ⟨0, Nat.zero_le _, rfl, hb, .inl ⟨rfl, ho⟩⟩
      case round =>
        obtain ⟨k, hk, rfl, hbr, hst⟩ := hrel
        have y0 := (bcel hbr q 0 hq).trans x0
        have y1 := (bcel hbr q 1 hq).trans x1
        have y2 := (bcel hbr q 2 hq).trans x2
        rcases hst with ⟨rfl, hs⟩ | ⟨rfl, hs⟩ | ⟨rfl, hs⟩ | ⟨rfl, hs⟩
        · have HS := hide hs
          clear hs
          go_wp2_with (at_builtin; refine wpList_app (w0 := w) rfl (.tmp 31) (.tmp 32) rfl rfl rfl hbr (unhide HS) (unhide H1) (by omega) ?_; intro v' w' o' k')
          go_roundw
          case rel => exact ⟨1, by omega, rfl, k', .inr (.inl ⟨rfl, by simpa using o'⟩)⟩
          case measure => simp [intOf]
        · have HS := hide hs
          clear hs
          go_wp2_with (at_builtin; refine wpList_app (w0 := w) rfl (.tmp 31) (.tmp 32) rfl rfl rfl hbr (unhide HS) (unhide H2) (by omega) ?_; intro v' w' o' k')
          go_roundw
          case rel => exact ⟨2, by omega, rfl, k', .inr (.inr (.inl ⟨rfl, o'⟩))⟩
          case measure => simp [intOf]
        · have HS := hide hs
          clear hs
          go_wp2_with (at_builtin; refine wpList_app (w0 := w) rfl (.tmp 31) (.tmp 32) rfl rfl rfl hbr (unhide HS) (unhide H3) (by omega) ?_; intro v' w' o' k')
          go_roundw
          case rel => exact ⟨3, by omega, rfl, k', .inr (.inr (.inr ⟨rfl, o'⟩))⟩
          case measure => simp [intOf]
        · have HS := hide hs
          clear hs
          go_wp2
          go_ret
          exact ⟨_, rfl, unhide HS, hbr⟩
end Go.Proofs.YtfmbebofllgmoaaGreatDoor
namespace Go.Proofs.YtfmbebofllgmoaaGreatDoor
open Go.RowKit

theorem tabIn_below {B : Nat} {w w' : World} (h : Below B w w') (hB : 0 < B) (ht : TabIn w) : TabIn w' := fun c h1 h2 =>
  ⟨(bcel h 0 _ hB).trans (ht c h1 h2).1, (bcel h 0 _ hB).trans (ht c h1 h2).2⟩
theorem tabIn_lt {w : World} (ht : TabIn w) : 0 < w.heap.size := World.block_lt_of_cell? _ _ (ht 1 (by omega) (by omega)).1

set_option maxHeartbeats 1000000 in
theorem pcheck_any (v1 v2 v3 : Value) (ns nt nf : Nat) (s : Nat → O3) (tl fl : Nat → Nat) (t f : Nat → Nat → O3) (w : World) (ht : TabIn w) (h1 : OpsIn w v1 ns s) (h2 : HandsIn w v2 nt tl t) (h3 : HandsIn w v3 nf fl f) :
    Calls Tryz.prog 27 #[.agg #[v1, v2, v3]] w fun e w' => ∃ x, e = .returned (.int .i64 x) ∧ Ans nt nf (1 + nt + nf) (allL ns nt tl fl) (allF nt s t f) x ∧ Below w.heap.size w w' := by
  have H2 := hide h2
  have H3 := hide h3
  generalize eN : 1 + nt + nf = N
  generalize eL : allL ns nt tl fl = L
  generalize eF : allF nt s t f = F
  have EN := hide eN
  have EL := hide eL
  have EF := hide eF
  clear eN eL eF
  have H1 := hide h1
  obtain ⟨a1, c1, rfl, l1, r1⟩ := h1
  obtain ⟨a2, c2, rfl, l2, r2⟩ := h2
  obtain ⟨a3, c3, rfl, l3, r3⟩ := h3
  clear r1 r2 r3
  by_cases q2 : 8 < nt
  · go_enter Tryz.func27, Tryz.ntmps27
    go_wp2
    go_ret
    exact ⟨1, rfl, .inl ⟨q2, rfl⟩, (Below.refl _ _).alloc (Nat.le_refl _) _⟩
  by_cases q3 : 8 < nf
  · go_enter Tryz.func27, Tryz.ntmps27
    go_wp2
    go_ret
    exact ⟨2, rfl, .inr (.inl ⟨by omega, q3, rfl⟩), (Below.refl _ _).alloc (Nat.le_refl _) _⟩
  obtain ⟨W1, hW⟩ : ∃ W1, W1 = ((w.alloc (.cells #[.slice a1 ns c1, .slice a2 nt c2, .slice a3 nf c3] 33)).alloc (.cells #[.slice a1 ns c1] 31)).alloc (.cells #[.slice (some ⟨w.heap.size + 1, 0, none⟩) 1 1, .slice a2 nt c2, .slice a3 nf c3] 25) := ⟨_, rfl⟩
  have hB1 : Below w.heap.size w W1 := by subst hW; exact bl3 _ _ _
  have i1 : HandsIn W1 (.slice (some ⟨w.heap.size + 1, 0, none⟩) 1 1) 1 (fun _ => ns) (fun _ => s) := by
    refine ⟨_, _, rfl, by omega, .inr ⟨_, _, rfl, fun i hi => ⟨.slice a1 ns c1, ?_, opsIn_below hB1 (unhide H1)⟩⟩⟩
    obtain rfl : i = 0 := by omega
    subst hW; simp [World.cell?_alloc_past]
  have i2 := handsIn_below hB1 (unhide H2)
  have i3 := handsIn_below hB1 (unhide H3)
  have b0 : W1.cell? ⟨w.heap.size, 0, none⟩ = some (.slice a1 ns c1) := by subst hW; rw [World.cell?_alloc_past _ _ _ (by simp; omega), World.cell?_alloc_past _ _ _ (by simp)]; simp
  have b1 : W1.cell? ⟨w.heap.size, 1, none⟩ = some (.slice a2 nt c2) := by subst hW; rw [World.cell?_alloc_past _ _ _ (by simp; omega), World.cell?_alloc_past _ _ _ (by simp)]; simp
  have b2 : W1.cell? ⟨w.heap.size, 2, none⟩ = some (.slice a3 nf c3) := by subst hW; rw [World.cell?_alloc_past _ _ _ (by simp; omega), World.cell?_alloc_past _ _ _ (by simp)]; simp
  have x0 : W1.cell? ⟨w.heap.size + 2, 0, none⟩ = some (.slice (some ⟨w.heap.size + 1, 0, none⟩) 1 1) := by subst hW; simp [World.cell?_alloc_at]
  have x1 : W1.cell? ⟨w.heap.size + 2, 1, none⟩ = some (.slice a2 nt c2) := by subst hW; simp [World.cell?_alloc_at]
  have x2 : W1.cell? ⟨w.heap.size + 2, 2, none⟩ = some (.slice a3 nf c3) := by subst hW; simp [World.cell?_alloc_at]
  have hlt : w.heap.size < W1.heap.size := by subst hW; simp; omega
  have HW := hide hW
  clear hW H1 H2 H3
  have d2 : decide ((8 : Int) < (nt : Int)) = false := by simp; omega
  have d3 : decide ((8 : Int) < (nf : Int)) = false := by simp; omega
  have HT := hide (tabIn_below hB1 (tabIn_lt ht) ht)
  clear ht
  go_enter Tryz.func27, Tryz.ntmps27
  go_wp2_with fail
  rw [← unhide HW]
  refine (concat_any (w.heap.size + 2) (some ⟨w.heap.size + 1, 0, none⟩) 1 _ _ ns nt nf s tl fl t f W1 i1 i2 i3 x0 x1 x2 (by omega) (by omega)).mono ?_
  rintro e w3 ⟨u3, rfl, o3, k3⟩
  obtain ⟨g, cap, hu, hc⟩ := ownH_form o3 k3 (by omega)
  have hc' : ∀ i, i < N → ∃ vi, w3.cell? ⟨g, i, none⟩ = some vi ∧ OpsIn w3 vi (L i) (F i) := by
    rw [← unhide EN, ← unhide EL, ← unhide EF]; exact hc
  rw [unhide EN] at hu
  rw [hu]
  have hN : N ≤ 17 := by have := unhide EN; omega
  have hB3 : Below w.heap.size w w3 := hB1.trans (k3.mono (by omega))
  have y0 := (bcel k3 _ 0 hlt).trans b0
  have y1 := (bcel k3 _ 1 hlt).trans b1
  have y2 := (bcel k3 _ 2 hlt).trans b2
  have hls : w.heap.size < w3.heap.size := Nat.lt_of_lt_of_le hlt k3.size
  have HT3 := hide (tabIn_below k3 (by omega) (unhide HT))
  have HC := hide hc'
  clear hc hc' hu o3 k3 i1 i2 i3 HW b0 b1 b2 x0 x1 x2 hB1 hlt EN EL EF HT
  go_wp2
  go_loop [31] (fun i => ∃ k : Nat, k ≤ N ∧ i = .int .i64 k ∧ Hid (∀ j, j < k → L j ≤ 32)) (fun i => N - (intOf i).toNat)
  case atStart => exact ⟨0, Nat.zero_le _, rfl, fun j hj => absurd hj (Nat.not_lt_zero _)⟩
  case round =>
    obtain ⟨k, hk, rfl, hle⟩ := hrel
    by_cases hlt : k < N
    · obtain ⟨vi, ci, hvi⟩ := unhide HC k hlt
      obtain ⟨ai, cc, rfl, li, ri⟩ := hvi
      clear ri
      by_cases hlong : 32 < L k
      · have HL := hide hlong
        go_wp2
        go_ret
        exact ⟨3, rfl, .inr (.inr (.inl ⟨by omega, by omega, ⟨k, hlt, unhide HL⟩, rfl⟩)), hB3⟩
      · go_wp2
        go_round
        case rel =>
          refine ⟨k + 1, by omega, by go_num, fun j hj => ?_⟩
          by_cases e : j = k
          · subst e; omega
          · exact unhide hle j (by omega)
        case measure => simp [intOf]; omega
    · have HA : Hid (∀ j, j < N → L j ≤ 32) := fun j hj => unhide hle j (by omega)
      clear hle
      go_wp2
      go_loopw [41] (fun i wr => ∃ k : Nat, k ≤ N ∧ i = .int .i64 k ∧ Below w3.heap.size w3 wr ∧ Hid (∀ j m, j < k → m < L j → rt (F j m) nt nf = true)) (fun i _ => N - (intOf i).toNat)
      case atStart => exact ⟨0, Nat.zero_le _, rfl, Below.refl _ _, fun j m hj => absurd hj (Nat.not_lt_zero _)⟩
      case round =>
        obtain ⟨k', hk', rfl, hb, hall⟩ := hrel
        by_cases hlt' : k' < N
        · obtain ⟨vi, ci, hvi⟩ := unhide HC k' hlt'
          obtain ⟨ai, cc, rfl, li, ri⟩ := hvi
          have HR := hide ri
          have hl32 := unhide HA k' hlt'
          clear ri
          have cg := (bcel hb g k' (World.block_lt_of_cell? _ _ ci)).trans ci
          go_wp2
          clear cg
          go_loopw [47] (fun i wr => ∃ m : Nat, m ≤ L k' ∧ i = .int .i64 m ∧ Below w3.heap.size w3 wr ∧ Hid (∀ m', m' < m → rt (F k' m') nt nf = true)) (fun i _ => L k' - (intOf i).toNat)
          case atStart => exact ⟨0, Nat.zero_le _, rfl, hb, fun j hj => absurd hj (Nat.not_lt_zero _)⟩
          case round =>
            obtain ⟨m, hm, rfl, hbm, hgood⟩ := hrel
            by_cases hml : m < L k'
            · rcases unhide HR with hz | ⟨b, off, rfl, hf⟩
              · omega
              have hop := opAt_below hbm (hf m hml)
              have q1 := opAt_lt hop
              obtain ⟨g0, g1, g2⟩ := hop
              have z0 := (bcel hbm _ 0 hls).trans y0
              have z1 := (bcel hbm _ 1 hls).trans y1
              have z2 := (bcel hbm _ 2 hls).trans y2
              have q4 := World.block_lt_of_cell? _ _ z0
              have HTm := hide (tabIn_below hbm (by omega) (unhide HT3))
              clear hf
              generalize hx : F k' m = x at g0 g1 g2
              have HX := hide hx
              clear hx
              cases hr : rightB x.1 x.2.1 x.2.2 nt nf
              all_goals
                go_wp2_with fail
                refine (cright_any x.1 x.2.1 x.2.2 _ a2 a3 nt c2 nf c3 _ (tabIn_below ((Below.refl _ _).alloc (Nat.le_refl _) _) (by omega) (unhide HTm))).mono ?_
                rintro e wz ⟨rfl, hz⟩
              · have hbz : Below w3.heap.size w3 wz := (hbm.alloc hbm.size _).trans (hz.mono (by have := hbm.size; simp; omega))
                have HR2 := hide hr
                go_wp2
                go_ret
                refine ⟨4, rfl, .inr (.inr (.inr (.inl ⟨by omega, by omega, unhide HA, ⟨k', m, hlt', hml, ?_⟩, rfl⟩))), hB3.trans (hbz.mono (by omega))⟩
                rw [unhide HX]; exact unhide HR2
              · have hbz : Below w3.heap.size w3 wz := (hbm.alloc hbm.size _).trans (hz.mono (by have := hbm.size; simp; omega))
                have HR2 := hide hr
                go_wp2
                go_roundw
                case rel =>
                  refine ⟨m + 1, by omega, by go_num, hbz, fun m' hm' => ?_⟩
                  by_cases e : m' = m
                  · subst e; rw [unhide HX]; exact unhide HR2
                  · exact unhide hgood m' (by omega)
                case measure => simp [intOf]; omega
            · go_wp2
              go_roundw
              case rel =>
                refine ⟨k' + 1, by omega, by go_num, hbm, fun j m' hj hm' => ?_⟩
                by_cases e : j = k'
                · subst e; exact unhide hgood m' (by omega)
                · exact unhide hall j m' (by omega) hm'
              case measure => simp [intOf]; omega
        · go_wp2
          go_ret
          exact ⟨0, rfl, .inr (.inr (.inr (.inr ⟨by omega, by omega, unhide HA, fun i m hi hm => unhide hall i m (by omega) hm, rfl⟩))), hB3.trans (hb.mono (by omega))⟩

end Go.Proofs.YtfmbebofllgmoaaGreatDoor
namespace Go.Proofs.YtfmbebofllgmoaaGreatDoor
open Go.RowKit

/-- A timer: is it armed, for when, the how-manieth arming, its number. -/
abbrev TM := Bool × Int × Int × Int
/-- The state of a run. -/
structure PS where
  fuel : Int
  next : Int
  reg : Nat → Int
  clock : Int
  tim : Nat → TM
  armings : Int
  wat : Nat → Bool
  trace : List O3
  heard : Int
  fin : Int

def actV (j : Nat) : Value := if j = 0 then .nilFunc else .func (Fn.func (82 + j)) #[] #[]
def timV (t : TM) (c : Nat) : Value := if c = 0 then .bool t.1 else if c = 1 then .int .i64 t.2.1 else if c = 2 then .int .i64 t.2.2.1 else .int .i64 t.2.2.2
/-- The cells of the run struct. -/
def img (pv : Nat → Value) (vt : Value) (s : PS) (k : Nat) : Value :=
  if k < 4 then pv k else if k < 16 then actV (k - 4) else if k = 16 then .int .i64 s.fuel else if k = 17 then .int .i64 s.next else if k < 22 then .int .i64 (s.reg (k - 18)) else if k = 22 then .int .i64 s.clock
  else if k < 55 then timV (s.tim ((k - 23) / 4)) ((k - 23) % 4) else if k = 55 then .int .i64 s.armings else if k < 64 then .bool (s.wat (k - 56)) else if k = 64 then vt else if k = 65 then .int .i64 s.heard else .int .i64 s.fin
def setC (c : Nat → Value) (k : Nat) (v : Value) : Nat → Value := fun j => if j = k then v else c j

/-- Block b holds the cells c 0 .. c 66, free to be written. -/
def RunAt (w : World) (b : Nat) (c : Nat → Value) : Prop := ∀ k, k < 67 → w.cell? ⟨b, k, none⟩ = some (c k) ∧ w.frozen? ⟨b, k, none⟩ = false

theorem RunAt.set {w : World} {b : Nat} {c : Nat → Value} (h : RunAt w b c) (k : Nat) (v : Value) (hk : k < 67) : RunAt (w.setCell ⟨b, k, none⟩ v) b (setC c k v) := by
  intro j hj
  obtain ⟨h1, h2⟩ := h j hj
  refine ⟨?_, by simpa using h2⟩
  by_cases e : j = k
  · subst e
    rw [World.cell?_setCell_same' _ _ _ (by rw [h1]; rfl)]
    simp [setC]
  · rw [World.cell?_setCell_other _ _ _ _ (by intro he; injection he; omega), h1]
    simp [setC, e]
theorem RunAt.congr {w : World} {b : Nat} {c c' : Nat → Value} (h : RunAt w b c) (he : ∀ k, k < 67 → c' k = c k) : RunAt w b c' := fun k hk => by rw [he k hk]; exact h k hk
theorem RunAt.block {w w' : World} {b : Nat} {c : Nat → Value} (h : RunAt w b c) (he : w'.heap[b]? = w.heap[b]?) : RunAt w' b c := fun k hk => by
  rw [World.cell?_of_block (w := w) (a := ⟨b, k, none⟩) he, World.frozen?_of_block (w := w) (a := ⟨b, k, none⟩) he]
  exact h k hk

/-- Of what was there nothing has turned but the blocks of S; S' has no other old block. -/
structure Fr (S : Nat → Prop) (w w' : World) (S' : Nat → Prop) : Prop where
  os : w'.os = w.os
  tape : w'.tape = w.tape
  output : w'.output = w.output
  size : w.heap.size ≤ w'.heap.size
  same : ∀ k, k < w.heap.size → ¬ S k → w'.heap[k]? = w.heap[k]?
  old : ∀ k, k < w.heap.size → S' k → S k

theorem Fr.refl (S : Nat → Prop) (w : World) : Fr S w w S := ⟨rfl, rfl, rfl, Nat.le_refl _, fun _ _ _ => rfl, fun _ _ h => h⟩
theorem Fr.trans {S S' S'' : Nat → Prop} {w w' w'' : World} (h : Fr S w w' S') (h' : Fr S' w' w'' S'') : Fr S w w'' S'' :=
  ⟨h'.os.trans h.os, h'.tape.trans h.tape, h'.output.trans h.output, Nat.le_trans h.size h'.size,
    fun k hk hn => (h'.same k (Nat.lt_of_lt_of_le hk h.size) (fun hs => hn (h.old k hk hs))).trans (h.same k hk hn), fun k hk hs => h.old k hk (h'.old k (Nat.lt_of_lt_of_le hk h.size) hs)⟩
theorem Fr.alloc {S S' : Nat → Prop} {w w' : World} (h : Fr S w w' S') (o : Obj) : Fr S w (w'.alloc o) S' :=
  ⟨h.os, h.tape, h.output, Nat.le_trans h.size (by simp), fun k hk hn => (Below.heap_alloc _ _ _ (Nat.lt_of_lt_of_le hk h.size)).trans (h.same k hk hn), h.old⟩
theorem Fr.drew {S S' : Nat → Prop} {w w' : World} (h : Fr S w w' S') : Fr S w w'.drew S' := ⟨h.os, h.tape, h.output, h.size, h.same, h.old⟩
theorem Fr.drewN {S S' : Nat → Prop} {w w' : World} (h : Fr S w w' S') (n : Nat) : Fr S w (w'.drewN n) S' := ⟨h.os, h.tape, h.output, h.size, h.same, h.old⟩
/-- A store into a block of S, or into one that is new since w. -/
theorem Fr.setCell {S S' : Nat → Prop} {w w' : World} (h : Fr S w w' S') (a : Addr) (v : Value) (ha : S a.block ∨ w.heap.size ≤ a.block) : Fr S w (w'.setCell a v) S' :=
  ⟨h.os, h.tape, h.output, by simpa [World.setCell] using h.size, fun k hk hn => by
    rw [Below.heap_setCell _ _ _ _ (by intro e; subst e; rcases ha with ha | ha <;> first | exact hn ha | omega)]; exact h.same k hk hn, h.old⟩
theorem Fr.cell {S S' : Nat → Prop} {w w' : World} (h : Fr S w w' S') (b o : Nat) (hb : b < w.heap.size) (hn : ¬ S b) : w'.cell? ⟨b, o, none⟩ = w.cell? ⟨b, o, none⟩ :=
  World.cell?_of_block (w := w) (a := ⟨b, o, none⟩) (h.same b hb hn)
theorem Fr.frozen {S S' : Nat → Prop} {w w' : World} (h : Fr S w w' S') (b o : Nat) (hb : b < w.heap.size) (hn : ¬ S b) : w'.frozen? ⟨b, o, none⟩ = w.frozen? ⟨b, o, none⟩ :=
  World.frozen?_of_block (w := w) (a := ⟨b, o, none⟩) (h.same b hb hn)
theorem Fr.below {S S' : Nat → Prop} {w w' : World} {B : Nat} (h : Fr S w w' S') (hS : ∀ k, S k → B ≤ k) (hB : B ≤ w.heap.size) : Below B w w' :=
  ⟨h.os, h.tape, h.output, h.size, fun k hk => h.same k (by omega) (fun hs => by have := hS k hs; omega)⟩

/-- The cells of a list of events. -/
def flatE : List O3 → List Value
  | [] => []
  | x :: r => .int .i64 x.1 :: .int .i64 x.2.1 :: .int .i64 x.2.2 :: flatE r
theorem flatE_append (a b : List O3) : flatE (a ++ b) = flatE a ++ flatE b := by
  induction a with
  | nil => rfl
  | cons x r ih => simp [flatE, ih]
/-- A source of inputs in memory: it lies in the blocks of S, and hangs on nothing else. -/
structure SrcLaw {σ : Type} (SA : (Nat → Prop) → World → σ → Prop) : Prop where
  keep : ∀ {S : Nat → Prop} {w w' : World} {x : σ}, SA S w x → (∀ k, S k → w'.heap[k]? = w.heap[k]?) → w.heap.size ≤ w'.heap.size → SA S w' x

/-- The run in memory: struct, trace, source. -/
structure RI {σ : Type} (SA : (Nat → Prop) → World → σ → Prop) (B : Nat) (S : Nat → Prop) (w : World) (b : Nat) (pv : Nat → Value) (vt : Value) (T : Nat → Prop) (s : PS) (x : σ) : Prop where
  bound : ∀ k, S k → B ≤ k ∧ k < w.heap.size
  cells : RunAt w b (img pv vt s)
  row : w.ownsRow B 72 3 vt s.trace.length (flatE s.trace)
  src : SA T w x
  inB : S b
  inV : ∀ q, vt.ownBlock = some q → S q ∧ q ≠ b ∧ ¬ T q
  inT : ∀ k, T k → S k ∧ k ≠ b

theorem ownsRow_of_block {w w' : World} {B e size n : Nat} {v : Value} {xs : List Value} (h : w.ownsRow B e size v n xs) (hb : ∀ q, v.ownBlock = some q → w'.heap[q]? = w.heap[q]?) : w'.ownsRow B e size v n xs := by
  refine ⟨h.1, ?_⟩
  rcases h.2 with hn | ⟨g, cap, cur, rfl, hB, hg, r⟩
  · exact .inl hn
  · exact .inr ⟨g, cap, cur, rfl, hB, (hb g rfl).trans hg, r⟩

section
variable {σ : Type} {SA : (Nat → Prop) → World → σ → Prop} {B : Nat} {S T : Nat → Prop} {w : World} {b : Nat} {pv : Nat → Value} {vt : Value} {s : PS} {x : σ}
/-- The run lies there still, where its own blocks have not turned. -/
theorem RI.kept (L : SrcLaw SA) (h : RI SA B S w b pv vt T s x) {w' : World} (hs : ∀ k, S k → w'.heap[k]? = w.heap[k]?) (hz : w.heap.size ≤ w'.heap.size) : RI SA B S w' b pv vt T s x :=
  ⟨fun k hk => ⟨(h.bound k hk).1, Nat.lt_of_lt_of_le (h.bound k hk).2 hz⟩, h.cells.block (hs b h.inB), ownsRow_of_block h.row (fun q hq => hs q (h.inV q hq).1), L.keep h.src (fun k hk => hs k (h.inT k hk).1) hz, h.inB, h.inV, h.inT⟩
theorem RI.alloc (L : SrcLaw SA) (h : RI SA B S w b pv vt T s x) (o : Obj) : RI SA B S (w.alloc o) b pv vt T s x :=
  h.kept L (fun k hk => Below.heap_alloc _ _ _ (h.bound k hk).2) (by simp)
theorem RI.drew (L : SrcLaw SA) (h : RI SA B S w b pv vt T s x) : RI SA B S w.drew b pv vt T s x := h.kept L (fun _ _ => rfl) (Nat.le_refl _)
theorem RI.drewN (L : SrcLaw SA) (h : RI SA B S w b pv vt T s x) (n : Nat) : RI SA B S (w.drewN n) b pv vt T s x := h.kept L (fun _ _ => rfl) (Nat.le_refl _)
/-- A store into a block that is none of the run's. -/
theorem RI.setOther (L : SrcLaw SA) (h : RI SA B S w b pv vt T s x) (a : Addr) (v : Value) (ha : ¬ S a.block) : RI SA B S (w.setCell a v) b pv vt T s x :=
  h.kept L (fun k hk => Below.heap_setCell _ _ _ _ (by intro e; subst e; exact ha hk)) (by simp [World.setCell])
/-- A store into the run struct. -/
theorem RI.set (L : SrcLaw SA) (h : RI SA B S w b pv vt T s x) (k : Nat) (v : Value) (s' : PS) (hk : k < 67) (he : ∀ j, j < 67 → img pv vt s' j = setC (img pv vt s) k v j) (ht : s'.trace = s.trace) :
    RI SA B S (w.setCell ⟨b, k, none⟩ v) b pv vt T s' x := by
  have hsame : ∀ q, q ≠ b → (w.setCell ⟨b, k, none⟩ v).heap[q]? = w.heap[q]? := fun q hq => Below.heap_setCell _ _ _ _ hq
  have hz : w.heap.size = (w.setCell ⟨b, k, none⟩ v).heap.size := by simp [World.setCell]
  exact ⟨fun k hk => ⟨(h.bound k hk).1, by rw [← hz]; exact (h.bound k hk).2⟩, (h.cells.set k v hk).congr he, by rw [ht]; exact ownsRow_of_block h.row (fun q hq => hsame q (h.inV q hq).2.1),
    L.keep h.src (fun q hq => hsame q (h.inT q hq).2) (Nat.le_of_eq hz), h.inB, h.inV, h.inT⟩
theorem RI.cell (h : RI SA B S w b pv vt T s x) (k : Nat) (hk : k < 67) : w.cell? ⟨b, k, none⟩ = some (img pv vt s k) := (h.cells k hk).1
theorem RI.free (h : RI SA B S w b pv vt T s x) (k : Nat) (hk : k < 67) : w.frozen? ⟨b, k, none⟩ = false := (h.cells k hk).2
end

section
variable (pv : Nat → Value) (vt : Value) (s : PS)
theorem img_pv (i : Nat) (h : i < 4) : img pv vt s i = pv i := by simp [img, h]
theorem img_act (i : Nat) (h : i < 12) : img pv vt s (4 + i) = actV i := by
  have e1 : ¬ 4 + i < 4 := by omega
  have e2 : 4 + i < 16 := by omega
  have e3 : 4 + i - 4 = i := by omega
  simp only [img, e1, e2, e3, if_true, if_false]
theorem img_fuel : img pv vt s 16 = .int .i64 s.fuel := by simp [img]
theorem img_next : img pv vt s 17 = .int .i64 s.next := by simp [img]
theorem img_reg (i : Nat) (h : i < 4) : img pv vt s (18 + i) = .int .i64 (s.reg i) := by
  have e1 : ¬ 18 + i < 4 := by omega
  have e2 : ¬ 18 + i < 16 := by omega
  have e3 : ¬ 18 + i = 16 := by omega
  have e4 : ¬ 18 + i = 17 := by omega
  have e5 : 18 + i < 22 := by omega
  have e6 : 18 + i - 18 = i := by omega
  simp only [img, e1, e2, e3, e4, e5, e6, if_true, if_false]
theorem img_clock : img pv vt s 22 = .int .i64 s.clock := by simp [img]
theorem img_tim (i c : Nat) (h : i < 8) (hc : c < 4) : img pv vt s (23 + i * 4 + c) = timV (s.tim i) c := by
  have e1 : ¬ 23 + i * 4 + c < 4 := by omega
  have e2 : ¬ 23 + i * 4 + c < 16 := by omega
  have e3 : ¬ 23 + i * 4 + c = 16 := by omega
  have e4 : ¬ 23 + i * 4 + c = 17 := by omega
  have e5 : ¬ 23 + i * 4 + c < 22 := by omega
  have e6 : ¬ 23 + i * 4 + c = 22 := by omega
  have e7 : 23 + i * 4 + c < 55 := by omega
  have e8 : (23 + i * 4 + c - 23) / 4 = i := by omega
  have e9 : (23 + i * 4 + c - 23) % 4 = c := by omega
  simp only [img, e1, e2, e3, e4, e5, e6, e7, e8, e9, if_true, if_false]
theorem img_armings : img pv vt s 55 = .int .i64 s.armings := by simp [img]
theorem img_wat (i : Nat) (h : i < 8) : img pv vt s (56 + i) = .bool (s.wat i) := by
  have e1 : ¬ 56 + i < 4 := by omega
  have e2 : ¬ 56 + i < 16 := by omega
  have e3 : ¬ 56 + i = 16 := by omega
  have e4 : ¬ 56 + i = 17 := by omega
  have e5 : ¬ 56 + i < 22 := by omega
  have e6 : ¬ 56 + i = 22 := by omega
  have e7 : ¬ 56 + i < 55 := by omega
  have e8 : ¬ 56 + i = 55 := by omega
  have e9 : 56 + i < 64 := by omega
  have e0 : 56 + i - 56 = i := by omega
  simp only [img, e1, e2, e3, e4, e5, e6, e7, e8, e9, e0, if_true, if_false]
theorem img_trace : img pv vt s 64 = vt := by simp [img]
theorem img_heard : img pv vt s 65 = .int .i64 s.heard := by simp [img]
theorem img_fin : img pv vt s 66 = .int .i64 s.fin := by simp [img]
end

def upd {α : Type} (f : Nat → α) (i : Nat) (v : α) : Nat → α := fun j => if j = i then v else f j

theorem idx (j : Nat) (h : j < 67) : j < 4 ∨ (∃ i, i < 12 ∧ j = 4 + i) ∨ j = 16 ∨ j = 17 ∨ (∃ i, i < 4 ∧ j = 18 + i) ∨ j = 22 ∨ (∃ i c, i < 8 ∧ c < 4 ∧ j = 23 + i * 4 + c) ∨ j = 55 ∨ (∃ i, i < 8 ∧ j = 56 + i) ∨ j = 64 ∨ j = 65 ∨ j = 66 := by
  by_cases h1 : j < 4
  · exact .inl h1
  by_cases h2 : j < 16
  · exact .inr (.inl ⟨j - 4, by omega, by omega⟩)
  by_cases h3 : j = 16
  · exact .inr (.inr (.inl h3))
  by_cases h4 : j = 17
  · exact .inr (.inr (.inr (.inl h4)))
  by_cases h5 : j < 22
  · exact .inr (.inr (.inr (.inr (.inl ⟨j - 18, by omega, by omega⟩))))
  by_cases h6 : j = 22
  · exact .inr (.inr (.inr (.inr (.inr (.inl h6)))))
  by_cases h7 : j < 55
  · exact .inr (.inr (.inr (.inr (.inr (.inr (.inl ⟨(j - 23) / 4, (j - 23) % 4, by omega, by omega, by omega⟩))))))
  by_cases h8 : j = 55
  · exact .inr (.inr (.inr (.inr (.inr (.inr (.inr (.inl h8)))))))
  by_cases h9 : j < 64
  · exact .inr (.inr (.inr (.inr (.inr (.inr (.inr (.inr (.inl ⟨j - 56, by omega, by omega⟩))))))))
  by_cases h10 : j = 64
  · exact .inr (.inr (.inr (.inr (.inr (.inr (.inr (.inr (.inr (.inl h10)))))))))
  by_cases h11 : j = 65
  · exact .inr (.inr (.inr (.inr (.inr (.inr (.inr (.inr (.inr (.inr (.inl h11))))))))))
  · exact .inr (.inr (.inr (.inr (.inr (.inr (.inr (.inr (.inr (.inr (.inr (by omega)))))))))))

/-- One store into the struct, read off the state. -/
theorem set_gen (pv : Nat → Value) (vt : Value) (s s' : PS) (k : Nat) (v : Value) (hk : img pv vt s' k = v) (h16 : k ≠ 16 → s'.fuel = s.fuel) (h17 : k ≠ 17 → s'.next = s.next) (hreg : ∀ i, i < 4 → k ≠ 18 + i → s'.reg i = s.reg i)
    (h22 : k ≠ 22 → s'.clock = s.clock) (htim : ∀ i c, i < 8 → c < 4 → k ≠ 23 + i * 4 + c → timV (s'.tim i) c = timV (s.tim i) c) (h55 : k ≠ 55 → s'.armings = s.armings) (hwat : ∀ i, i < 8 → k ≠ 56 + i → s'.wat i = s.wat i)
    (h65 : k ≠ 65 → s'.heard = s.heard) (h66 : k ≠ 66 → s'.fin = s.fin) (j : Nat) (hj : j < 67) : img pv vt s' j = setC (img pv vt s) k v j := by
  unfold setC
  by_cases e : j = k
  · subst e; rw [if_pos rfl]; exact hk
  rw [if_neg e]
  rcases idx j hj with h | ⟨i, hi, rfl⟩ | rfl | rfl | ⟨i, hi, rfl⟩ | rfl | ⟨i, c, hi, hc, rfl⟩ | rfl | ⟨i, hi, rfl⟩ | rfl | rfl | rfl
  · rw [img_pv _ _ _ _ h, img_pv _ _ _ _ h]
  · rw [img_act _ _ _ _ hi, img_act _ _ _ _ hi]
  · rw [img_fuel, img_fuel, h16 (Ne.symm e)]
  · rw [img_next, img_next, h17 (Ne.symm e)]
  · rw [img_reg _ _ _ _ hi, img_reg _ _ _ _ hi, hreg i hi (Ne.symm e)]
  · rw [img_clock, img_clock, h22 (Ne.symm e)]
  · rw [img_tim _ _ _ _ _ hi hc, img_tim _ _ _ _ _ hi hc, htim i c hi hc (Ne.symm e)]
  · rw [img_armings, img_armings, h55 (Ne.symm e)]
  · rw [img_wat _ _ _ _ hi, img_wat _ _ _ _ hi, hwat i hi (Ne.symm e)]
  · rw [img_trace, img_trace]
  · rw [img_heard, img_heard, h65 (Ne.symm e)]
  · rw [img_fin, img_fin, h66 (Ne.symm e)]

section
variable (pv : Nat → Value) (vt : Value) (s : PS)
theorem set_reg (i : Nat) (v : Int) (h : i < 4) : ∀ j, j < 67 → img pv vt { s with reg := upd s.reg i v } j = setC (img pv vt s) (18 + i) (.int .i64 v) j :=
  set_gen _ _ _ _ _ _ (by rw [img_reg _ _ _ _ h]; simp [upd]) (fun _ => rfl) (fun _ => rfl) (fun j _ hne => by simp only [upd]; rw [if_neg (by omega)]) (fun _ => rfl) (fun _ _ _ _ _ => rfl) (fun _ => rfl) (fun _ _ _ => rfl) (fun _ => rfl) (fun _ => rfl)
theorem set_wat (i : Nat) (v : Bool) (h : i < 8) : ∀ j, j < 67 → img pv vt { s with wat := upd s.wat i v } j = setC (img pv vt s) (56 + i) (.bool v) j :=
  set_gen _ _ _ _ _ _ (by rw [img_wat _ _ _ _ h]; simp [upd]) (fun _ => rfl) (fun _ => rfl) (fun _ _ _ => rfl) (fun _ => rfl) (fun _ _ _ _ _ => rfl) (fun _ => rfl) (fun j _ hne => by simp only [upd]; rw [if_neg (by omega)]) (fun _ => rfl) (fun _ => rfl)
theorem set_fuel (v : Int) : ∀ j, j < 67 → img pv vt { s with fuel := v } j = setC (img pv vt s) 16 (.int .i64 v) j :=
  set_gen _ _ _ _ _ _ (by rw [img_fuel]) (fun h => absurd rfl h) (fun _ => rfl) (fun _ _ _ => rfl) (fun _ => rfl) (fun _ _ _ _ _ => rfl) (fun _ => rfl) (fun _ _ _ => rfl) (fun _ => rfl) (fun _ => rfl)
theorem set_next (v : Int) : ∀ j, j < 67 → img pv vt { s with next := v } j = setC (img pv vt s) 17 (.int .i64 v) j :=
  set_gen _ _ _ _ _ _ (by rw [img_next]) (fun _ => rfl) (fun h => absurd rfl h) (fun _ _ _ => rfl) (fun _ => rfl) (fun _ _ _ _ _ => rfl) (fun _ => rfl) (fun _ _ _ => rfl) (fun _ => rfl) (fun _ => rfl)
theorem set_clock (v : Int) : ∀ j, j < 67 → img pv vt { s with clock := v } j = setC (img pv vt s) 22 (.int .i64 v) j :=
  set_gen _ _ _ _ _ _ (by rw [img_clock]) (fun _ => rfl) (fun _ => rfl) (fun _ _ _ => rfl) (fun h => absurd rfl h) (fun _ _ _ _ _ => rfl) (fun _ => rfl) (fun _ _ _ => rfl) (fun _ => rfl) (fun _ => rfl)
theorem set_armings (v : Int) : ∀ j, j < 67 → img pv vt { s with armings := v } j = setC (img pv vt s) 55 (.int .i64 v) j :=
  set_gen _ _ _ _ _ _ (by rw [img_armings]) (fun _ => rfl) (fun _ => rfl) (fun _ _ _ => rfl) (fun _ => rfl) (fun _ _ _ _ _ => rfl) (fun h => absurd rfl h) (fun _ _ _ => rfl) (fun _ => rfl) (fun _ => rfl)
theorem set_heard (v : Int) : ∀ j, j < 67 → img pv vt { s with heard := v } j = setC (img pv vt s) 65 (.int .i64 v) j :=
  set_gen _ _ _ _ _ _ (by rw [img_heard]) (fun _ => rfl) (fun _ => rfl) (fun _ _ _ => rfl) (fun _ => rfl) (fun _ _ _ _ _ => rfl) (fun _ => rfl) (fun _ _ _ => rfl) (fun h => absurd rfl h) (fun _ => rfl)
theorem set_fin (v : Int) : ∀ j, j < 67 → img pv vt { s with fin := v } j = setC (img pv vt s) 66 (.int .i64 v) j :=
  set_gen _ _ _ _ _ _ (by rw [img_fin]) (fun _ => rfl) (fun _ => rfl) (fun _ _ _ => rfl) (fun _ => rfl) (fun _ _ _ _ _ => rfl) (fun _ => rfl) (fun _ _ _ => rfl) (fun _ => rfl) (fun h => absurd rfl h)
theorem set_armed (i : Nat) (v : Bool) (h : i < 8) : ∀ j, j < 67 → img pv vt { s with tim := upd s.tim i (v, (s.tim i).2) } j = setC (img pv vt s) (23 + i * 4) (.bool v) j :=
  set_gen _ _ _ _ _ _ (by have := img_tim pv vt { s with tim := upd s.tim i (v, (s.tim i).2) } i 0 h (by omega); rw [Nat.add_zero] at this; rw [this]; simp [upd, timV]) (fun _ => rfl) (fun _ => rfl) (fun _ _ _ => rfl) (fun _ => rfl) (fun j c hj hc hne => by
    by_cases e : j = i
    · subst e
      have hc0 : c ≠ 0 := by omega
      simp [upd, timV, hc0]
    · simp [upd, e]) (fun _ => rfl) (fun _ _ _ => rfl) (fun _ => rfl) (fun _ => rfl)
end
end Go.Proofs.YtfmbebofllgmoaaGreatDoor
namespace Go.Proofs.YtfmbebofllgmoaaGreatDoor
open Go.RowKit
attribute [local go_sem ↓] Go.wp_at_zero Go.wp_at_succ

section
variable {σ : Type} {SA : (Nat → Prop) → World → σ → Prop} {B : Nat} {S T : Nat → Prop} {w : World} {b : Nat} {pv : Nat → Value} {vt : Value} {s : PS} {x : σ}

theorem ne_size {w : World} {b : Nat} (h : b < w.heap.size) : ¬ w.heap.size = b ∧ ¬ b = w.heap.size := by omega

set_option maxHeartbeats 400000 in
theorem set_any (L : SrcLaw SA) (h : RI SA B S w b pv vt T s x) (cd a v : Int) (h0 : 0 ≤ a) (h4 : a < 4) :
    Calls Tryz.prog 83 #[.pointer (some ⟨b, 0, none⟩), .agg #[.int .i64 cd, .int .i64 a, .int .i64 v]] w fun e w' => e = .returned (.tuple #[]) ∧ RI SA B S w' b pv vt T { s with reg := upd s.reg a.toNat v } x ∧ Fr S w w' S := by
  have hin := h.inB
  obtain ⟨n1, n2⟩ := ne_size (h.bound b h.inB).2
  have c0 := h.cell (18 + a.toNat) (by omega)
  have z0 := h.free (18 + a.toNat) (by omega)
  rw [img_reg _ _ _ _ (by omega)] at c0
  generalize s.reg a.toNat = old at c0
  have hb := (h.bound b h.inB).2
  have H := hide h
  have HI := hide hin
  clear h hin
  go_enter Tryz.func83, Tryz.ntmps83
  go_wp2
  go_region_held3 (fun w' => w'.cell? ⟨w.heap.size, 1, none⟩ = some (.int .i64 a) ∧ w'.cell? ⟨w.heap.size, 2, none⟩ = some (.int .i64 v)) (simp [go_sem, *]) (fail)
  go_wp2
  go_end0
  exact ⟨rfl, ((((unhide H).set L _ _ _ (by omega) (set_reg pv vt s _ _ (by omega)) rfl).alloc L _).drew L), (((Fr.refl S w).setCell _ _ (.inl (unhide HI))).alloc _).drew⟩

set_option maxHeartbeats 400000 in
theorem add_any (L : SrcLaw SA) (h : RI SA B S w b pv vt T s x) (cd a v : Int) (h0 : 0 ≤ a) (h4 : a < 4) (g0 : 0 ≤ v) (g4 : v < 4) :
    Calls Tryz.prog 84 #[.pointer (some ⟨b, 0, none⟩), .agg #[.int .i64 cd, .int .i64 a, .int .i64 v]] w fun e w' => e = .returned (.tuple #[]) ∧ RI SA B S w' b pv vt T { s with reg := upd s.reg a.toNat (wrap64 (s.reg a.toNat + s.reg v.toNat)) } x ∧ Fr S w w' S := by
  have hin := h.inB
  obtain ⟨n1, n2⟩ := ne_size (h.bound b h.inB).2
  have c0 := h.cell (18 + a.toNat) (by omega)
  have c1 := h.cell (18 + v.toNat) (by omega)
  have z0 := h.free (18 + a.toNat) (by omega)
  rw [img_reg _ _ _ _ (by omega)] at c0 c1
  generalize e0 : s.reg a.toNat = ra at c0 ⊢
  generalize e1 : s.reg v.toNat = rv at c1 ⊢
  have hb := (h.bound b h.inB).2
  have H := hide h
  have HI := hide hin
  clear h hin e0 e1
  go_enter Tryz.func84, Tryz.ntmps84
  go_wp2
  go_region
  go_wp2
  go_end0
  exact ⟨rfl, ((((unhide H).set L _ _ _ (by omega) (set_reg pv vt s _ _ (by omega)) rfl).alloc L _).drew L), (((Fr.refl S w).setCell _ _ (.inl (unhide HI))).alloc _).drew⟩

set_option maxHeartbeats 400000 in
theorem cancel_any (L : SrcLaw SA) (h : RI SA B S w b pv vt T s x) (cd a v : Int) (h0 : 0 ≤ a) (h4 : a < 8) :
    Calls Tryz.prog 86 #[.pointer (some ⟨b, 0, none⟩), .agg #[.int .i64 cd, .int .i64 a, .int .i64 v]] w fun e w' => e = .returned (.tuple #[]) ∧ RI SA B S w' b pv vt T { s with tim := upd s.tim a.toNat (false, (s.tim a.toNat).2) } x ∧ Fr S w w' S := by
  have hin := h.inB
  obtain ⟨n1, n2⟩ := ne_size (h.bound b h.inB).2
  have c0 := h.cell (23 + a.toNat * 4) (by omega)
  have z0 := h.free (23 + a.toNat * 4) (by omega)
  generalize img pv vt s (23 + a.toNat * 4) = old at c0
  have hb := (h.bound b h.inB).2
  have H := hide h
  have HI := hide hin
  clear h hin
  go_enter Tryz.func86, Tryz.ntmps86
  go_wp2
  go_region
  go_wp2
  go_end0
  exact ⟨rfl, ((((unhide H).set L _ _ _ (by omega) (set_armed pv vt s _ _ (by omega)) rfl).alloc L _).drew L), (((Fr.refl S w).setCell _ _ (.inl (unhide HI))).alloc _).drew⟩

set_option maxHeartbeats 400000 in
theorem watch_any (L : SrcLaw SA) (h : RI SA B S w b pv vt T s x) (cd a v : Int) (h0 : 0 ≤ a) (h4 : a < 8) :
    Calls Tryz.prog 87 #[.pointer (some ⟨b, 0, none⟩), .agg #[.int .i64 cd, .int .i64 a, .int .i64 v]] w fun e w' => e = .returned (.tuple #[]) ∧ RI SA B S w' b pv vt T { s with wat := upd s.wat a.toNat true } x ∧ Fr S w w' S := by
  have hin := h.inB
  obtain ⟨n1, n2⟩ := ne_size (h.bound b h.inB).2
  have c0 := h.cell (56 + a.toNat) (by omega)
  have z0 := h.free (56 + a.toNat) (by omega)
  generalize img pv vt s (56 + a.toNat) = old at c0
  have hb := (h.bound b h.inB).2
  have H := hide h
  have HI := hide hin
  clear h hin
  go_enter Tryz.func87, Tryz.ntmps87
  go_wp2
  go_region
  go_wp2
  go_end0
  exact ⟨rfl, ((((unhide H).set L _ _ _ (by omega) (set_wat pv vt s _ _ (by omega)) rfl).alloc L _).drew L), (((Fr.refl S w).setCell _ _ (.inl (unhide HI))).alloc _).drew⟩

set_option maxHeartbeats 400000 in
theorem ignore_any (L : SrcLaw SA) (h : RI SA B S w b pv vt T s x) (cd a v : Int) (h0 : 0 ≤ a) (h4 : a < 8) :
    Calls Tryz.prog 88 #[.pointer (some ⟨b, 0, none⟩), .agg #[.int .i64 cd, .int .i64 a, .int .i64 v]] w fun e w' => e = .returned (.tuple #[]) ∧ RI SA B S w' b pv vt T { s with wat := upd s.wat a.toNat false } x ∧ Fr S w w' S := by
  have hin := h.inB
  obtain ⟨n1, n2⟩ := ne_size (h.bound b h.inB).2
  have c0 := h.cell (56 + a.toNat) (by omega)
  have z0 := h.free (56 + a.toNat) (by omega)
  generalize img pv vt s (56 + a.toNat) = old at c0
  have hb := (h.bound b h.inB).2
  have H := hide h
  have HI := hide hin
  clear h hin
  go_enter Tryz.func88, Tryz.ntmps88
  go_wp2
  go_region
  go_wp2
  go_end0
  exact ⟨rfl, ((((unhide H).set L _ _ _ (by omega) (set_wat pv vt s _ _ (by omega)) rfl).alloc L _).drew L), (((Fr.refl S w).setCell _ _ (.inl (unhide HI))).alloc _).drew⟩

set_option maxHeartbeats 400000 in
theorem stop_any (L : SrcLaw SA) (h : RI SA B S w b pv vt T s x) (cd a v : Int) :
    Calls Tryz.prog 93 #[.pointer (some ⟨b, 0, none⟩), .agg #[.int .i64 cd, .int .i64 a, .int .i64 v]] w fun e w' => e = .returned (.tuple #[]) ∧ RI SA B S w' b pv vt T { s with fin := 1 } x ∧ Fr S w w' S := by
  have hin := h.inB
  obtain ⟨n1, n2⟩ := ne_size (h.bound b h.inB).2
  have c0 := h.cell 66 (by omega)
  have z0 := h.free 66 (by omega)
  generalize img pv vt s 66 = old at c0
  have hb := (h.bound b h.inB).2
  have H := hide h
  have HI := hide hin
  clear h hin
  go_enter Tryz.func93, Tryz.ntmps93
  go_wp2
  go_end0
  exact ⟨rfl, (((unhide H).set L _ _ _ (by omega) (set_fin pv vt s 1) rfl).alloc L _), ((Fr.refl S w).setCell _ _ (.inl (unhide HI))).alloc _⟩

set_option maxHeartbeats 400000 in
theorem skip_any (L : SrcLaw SA) (h : RI SA B S w b pv vt T s x) (cd a v : Int) (h0 : 0 ≤ a) (h4 : a < 4) (hn : 0 ≤ s.next ∧ s.next ≤ 1000) :
    Calls Tryz.prog 92 #[.pointer (some ⟨b, 0, none⟩), .agg #[.int .i64 cd, .int .i64 a, .int .i64 v]] w fun e w' => e = .returned (.tuple #[]) ∧ RI SA B S w' b pv vt T (if s.reg a.toNat = v then { s with next := s.next + 1 } else s) x ∧ Fr S w w' S := by
  have hin := h.inB
  obtain ⟨n1, n2⟩ := ne_size (h.bound b h.inB).2
  have c0 := h.cell (18 + a.toNat) (by omega)
  rw [img_reg _ _ _ _ (by omega)] at c0
  have c1 := h.cell 17 (by omega)
  have z1 := h.free 17 (by omega)
  rw [img_next] at c1
  have hb := (h.bound b h.inB).2
  obtain ⟨m1, m2⟩ := hn
  have H := hide h
  have HI := hide hin
  clear h hin
  by_cases hv : s.reg a.toNat = v
  · rw [if_pos hv]
    have hq : (s.reg a.toNat == v) = true := by simpa using hv
    generalize s.next = nx at *
    generalize s.reg a.toNat = ra at *
    clear hv
    go_enter Tryz.func92, Tryz.ntmps92
    go_wp2
    go_region
    go_wp2
    go_end0
    exact ⟨rfl, ((((unhide H).set L _ _ _ (by omega) (set_next pv vt s (nx + 1)) rfl).alloc L _).drew L), (((Fr.refl S w).setCell _ _ (.inl (unhide HI))).alloc _).drew⟩
  · rw [if_neg hv]
    have hq : (s.reg a.toNat == v) = false := by simpa using hv
    generalize s.next = nx at *
    generalize s.reg a.toNat = ra at *
    clear hv
    go_enter Tryz.func92, Tryz.ntmps92
    go_wp2
    go_region
    go_wp2
    go_end0
    exact ⟨rfl, ((unhide H).alloc L _).drew L, ((Fr.refl S w).alloc _).drew⟩

/-- Four stores lay a timer. -/
theorem RI.setTim (L : SrcLaw SA) (h : RI SA B S w b pv vt T s x) (i : Nat) (t : TM) (hi : i < 8) :
    RI SA B S ((((w.setCell ⟨b, 23 + i * 4, none⟩ (.bool t.1)).setCell ⟨b, 23 + i * 4 + 1, none⟩ (.int .i64 t.2.1)).setCell ⟨b, 23 + i * 4 + 2, none⟩ (.int .i64 t.2.2.1)).setCell ⟨b, 23 + i * 4 + 3, none⟩ (.int .i64 t.2.2.2)) b pv vt T { s with tim := upd s.tim i t } x := by
  have g : ∀ (u v : TM) (c : Nat) (q : PS), c < 4 → q.tim i = u → (∀ d, d < 4 → d ≠ c → timV v d = timV u d) → ∀ j, j < 67 → img pv vt { q with tim := upd q.tim i v } j = setC (img pv vt q) (23 + i * 4 + c) (timV v c) j := by
    intro u v c q hc hu hv
    refine set_gen _ _ _ _ _ _ ?_ (fun _ => rfl) (fun _ => rfl) (fun _ _ _ => rfl) (fun _ => rfl) ?_ (fun _ => rfl) (fun _ _ _ => rfl) (fun _ => rfl) (fun _ => rfl)
    · rw [img_tim _ _ _ _ _ hi hc]; simp [upd]
    · intro j d hj hd hne
      by_cases e : j = i
      · subst e
        have := hv d hd (by omega)
        simp only [upd, if_true]
        rw [this, hu]
      · simp [upd, e]
  obtain ⟨t0, t1, t2, t3⟩ := t
  rcases hu : s.tim i with ⟨u0, u1, u2, u3⟩
  have a0 := h.set L (23 + i * 4 + 0) (.bool t0) _ (by omega) (g (u0, u1, u2, u3) (t0, u1, u2, u3) 0 s (by omega) hu (fun d hd hne => by simp [timV, hne])) rfl
  have a1 := a0.set L (23 + i * 4 + 1) (.int .i64 t1) _ (by omega) (g (t0, u1, u2, u3) (t0, t1, u2, u3) 1 _ (by omega) (by simp [upd]) (fun d hd hne => by simp [timV, hne])) rfl
  have a2 := a1.set L (23 + i * 4 + 2) (.int .i64 t2) _ (by omega) (g (t0, t1, u2, u3) (t0, t1, t2, u3) 2 _ (by omega) (by simp [upd]) (fun d hd hne => by simp [timV, hne])) rfl
  have a3 := a2.set L (23 + i * 4 + 3) (.int .i64 t3) _ (by omega) (g (t0, t1, t2, u3) (t0, t1, t2, t3) 3 _ (by omega) (by simp [upd]) (fun d hd hne => by
    have : d = 0 ∨ d = 1 ∨ d = 2 := by omega
    rcases this with rfl | rfl | rfl <;> simp [timV])) rfl
  have e : (upd (upd (upd (upd s.tim i (t0, u1, u2, u3)) i (t0, t1, u2, u3)) i (t0, t1, t2, u3)) i (t0, t1, t2, t3)) = upd s.tim i (t0, t1, t2, t3) := by
    funext j; simp only [upd]; split <;> rfl
  simp only [e, Nat.add_zero] at a3
  exact a3
end
end Go.Proofs.YtfmbebofllgmoaaGreatDoor
namespace Go.Proofs.YtfmbebofllgmoaaGreatDoor
open Go.RowKit
attribute [local go_sem ↓] Go.wp_at_zero Go.wp_at_succ

section
variable {σ : Type} {SA : (Nat → Prop) → World → σ → Prop} {B : Nat} {S T : Nat → Prop} {w : World} {b : Nat} {pv : Nat → Value} {vt : Value} {s : PS} {x : σ}

theorem minmax (rv c : Int) : (if c < if rv < 0 then 0 else rv then c else if rv < 0 then 0 else rv) = min (max rv 0) c := by
  by_cases h : rv < 0
  · simp only [h, if_true]
    by_cases h2 : c < 0
    · simp only [h2, if_true]; omega
    · simp only [h2, if_false]; omega
  · simp only [h, if_false]
    by_cases h2 : c < rv
    · simp only [h2, if_true]; omega
    · simp only [h2, if_false]; omega

set_option maxHeartbeats 1000000 in
theorem arm_any (L : SrcLaw SA) (h : RI SA B S w b pv vt T s x) (cd a v : Int) (h0 : 0 ≤ a) (h4 : a < 8) (g0 : 0 ≤ v) (g4 : v < 4) (hc : 0 ≤ s.clock ∧ s.clock ≤ 1099511627776) (ha : 0 ≤ s.armings ∧ s.armings ≤ 5000) :
    Calls Tryz.prog 85 #[.pointer (some ⟨b, 0, none⟩), .agg #[.int .i64 cd, .int .i64 a, .int .i64 v]] w fun e w' => e = .returned (.tuple #[]) ∧
      RI SA B S w' b pv vt T { s with armings := s.armings + 1, tim := upd s.tim a.toNat (true, s.clock + min (max (s.reg v.toNat) 0) (1099511627776 - s.clock), s.armings + 1, a) } x ∧ Fr S w w' S := by
  have hin := h.inB
  obtain ⟨n1, n2⟩ := ne_size (h.bound b h.inB).2
  have c0 := h.cell (18 + v.toNat) (by omega)
  rw [img_reg _ _ _ _ (by omega)] at c0
  have c1 := h.cell 22 (by omega)
  rw [img_clock] at c1
  have c2 := h.cell 55 (by omega)
  have z2 := h.free 55 (by omega)
  rw [img_armings] at c2
  have t0 := h.cell (23 + a.toNat * 4) (by omega)
  have t1 := h.cell (23 + a.toNat * 4 + 1) (by omega)
  have t2 := h.cell (23 + a.toNat * 4 + 2) (by omega)
  have t3 := h.cell (23 + a.toNat * 4 + 3) (by omega)
  have f0 := h.free (23 + a.toNat * 4) (by omega)
  have f1 := h.free (23 + a.toNat * 4 + 1) (by omega)
  have f2 := h.free (23 + a.toNat * 4 + 2) (by omega)
  have f3 := h.free (23 + a.toNat * 4 + 3) (by omega)
  generalize img pv vt s (23 + a.toNat * 4) = o0 at t0
  generalize img pv vt s (23 + a.toNat * 4 + 1) = o1 at t1
  generalize img pv vt s (23 + a.toNat * 4 + 2) = o2 at t2
  generalize img pv vt s (23 + a.toNat * 4 + 3) = o3 at t3
  have hb := (h.bound b h.inB).2
  obtain ⟨k1, k2⟩ := hc
  obtain ⟨k3, k4⟩ := ha
  have H := hide h
  have HI := hide hin
  clear h hin
  have m0 : 0 ≤ min (max (s.reg v.toNat) 0) (1099511627776 - s.clock) := by omega
  have m1 : min (max (s.reg v.toNat) 0) (1099511627776 - s.clock) ≤ 1099511627776 - s.clock := by omega
  generalize eR : s.reg v.toNat = rv at *
  generalize eC : s.clock = ck at *
  generalize eA : s.armings = am at *
  clear eR
  have HC := hide eC
  have HAm := hide eA
  clear eC eA
  generalize eM : min (max rv 0) (1099511627776 - ck) = m at *
  have HM := hide eM
  clear eM
  go_enter Tryz.func85, Tryz.ntmps85
  go_wp2
  go_region
  rw [minmax, unhide HM]
  generalize (if rv < 0 then (0 : Int) else rv) = mx
  go_wp2
  go_region
  go_wp2
  go_end0
  obtain rfl := unhide HC
  obtain rfl := unhide HAm
  have hs := (unhide H).set L 55 (.int .i64 (s.armings + 1)) _ (by omega) (set_armings pv vt s (s.armings + 1)) rfl
  have hs2 := hs.setTim L a.toNat (true, s.clock + m, s.armings + 1, a) (by omega)
  have hin := unhide HI
  exact ⟨rfl, ((hs2.alloc L _).drew L).drew L, ((((((((Fr.refl S w).setCell _ _ (.inl hin)).setCell _ _ (.inl hin)).setCell _ _ (.inl hin)).setCell _ _ (.inl hin)).setCell _ _ (.inl hin)).alloc _).drew).drew⟩

theorem info92 : ∃ i, Tryz.prog.info? 72 = some i ∧ i.zero = some (.agg #[.int .i64 0, .int .i64 0, .int .i64 0]) ∧ i.size = 3 ∧ i.bytes = 24 := by
  have h : (Tryz.prog.info? 72).map (fun i => (i.zero, i.size, i.bytes)) = some (some (.agg #[.int .i64 0, .int .i64 0, .int .i64 0]), 3, 24) := by kernel_rfl
  cases hi : Tryz.prog.info? 72 with
  | none => rw [hi] at h; cases h
  | some i =>
    rw [hi] at h
    simp only [Option.map_some, Option.some.injEq, Prod.mk.injEq] at h
    exact ⟨i, rfl, h.1, h.2.1, h.2.2⟩

/-- The trace has one event more, and lies in an old row or in a new one. -/
theorem RI.traced (L : SrcLaw SA) (h : RI SA B S w b pv vt T s x) {w' : World} {g cap : Nat} {k a v : Int} (hown : w'.ownsRow B 72 3 (.slice (some ⟨g, 0, none⟩) (s.trace.length + 1) cap) (s.trace.length + 1) (flatE s.trace ++ [.int .i64 k, .int .i64 a, .int .i64 v]))
    (hg : w.grownBy w' vt.ownBlock) (hat : vt.ownBlock = some g ∨ g = w.heap.size) (hlt : g < w'.heap.size) :
    RI SA B (fun q => S q ∨ q = g) (w'.setCell ⟨b, 64, none⟩ (.slice (some ⟨g, 0, none⟩) (s.trace.length + 1) cap)) b pv (.slice (some ⟨g, 0, none⟩) (s.trace.length + 1) cap) T { s with trace := s.trace ++ [(k, a, v)] } x ∧
    Fr S w (w'.setCell ⟨b, 64, none⟩ (.slice (some ⟨g, 0, none⟩) (s.trace.length + 1) cap)) (fun q => S q ∨ q = g) := by
  have hbs := (h.bound b h.inB).2
  have hgb : g ≠ b := by
    rcases hat with e | e
    · exact (h.inV g e).2.1
    · omega
  have hgT : ¬ T g := by
    rcases hat with e | e
    · exact (h.inV g e).2.2
    · intro ht; have := (h.bound g (h.inT g ht).1).2; omega
  have hB : B ≤ w.heap.size := by have := (h.bound b h.inB); omega
  have hgB : B ≤ g := by
    rcases hat with e | e
    · exact (h.bound g (h.inV g e).1).1
    · omega
  have hsame : ∀ q, q < w.heap.size → vt.ownBlock ≠ some q → w'.heap[q]? = w.heap[q]? := fun q hq hne => hg.block q hq (fun e => hne e.symm)
  have hb' : w'.heap[b]? = w.heap[b]? := hsame b hbs (fun e => (h.inV b e).2.1 rfl)
  have hz : (w'.setCell ⟨b, 64, none⟩ (.slice (some ⟨g, 0, none⟩) (s.trace.length + 1) cap)).heap.size = w'.heap.size := by simp [World.setCell]
  refine ⟨⟨?_, ?_, ?_, ?_, .inl h.inB, ?_, ?_⟩, ?_⟩
  · intro k hk
    rw [hz]
    rcases hk with hk | rfl
    · exact ⟨(h.bound k hk).1, Nat.lt_of_lt_of_le (h.bound k hk).2 hg.size⟩
    · exact ⟨hgB, hlt⟩
  · refine ((h.cells.block hb').set 64 _ (by omega)).congr fun j hj => ?_
    unfold setC
    by_cases e : j = 64
    · subst e; rw [if_pos rfl, img_trace]
    · rw [if_neg e]
      rcases idx j hj with h | ⟨i, hi, rfl⟩ | rfl | rfl | ⟨i, hi, rfl⟩ | rfl | ⟨i, c, hi, hc, rfl⟩ | rfl | ⟨i, hi, rfl⟩ | rfl | rfl | rfl
      · rw [img_pv _ _ _ _ h, img_pv _ _ _ _ h]
      · rw [img_act _ _ _ _ hi, img_act _ _ _ _ hi]
      · rw [img_fuel, img_fuel]
      · rw [img_next, img_next]
      · rw [img_reg _ _ _ _ hi, img_reg _ _ _ _ hi]
      · rw [img_clock, img_clock]
      · rw [img_tim _ _ _ _ _ hi hc, img_tim _ _ _ _ _ hi hc]
      · rw [img_armings, img_armings]
      · rw [img_wat _ _ _ _ hi, img_wat _ _ _ _ hi]
      · exact absurd rfl e
      · rw [img_heard, img_heard]
      · rw [img_fin, img_fin]
  · rw [List.length_append, flatE_append]
    exact ownsRow_of_block hown (fun q hq => Below.heap_setCell _ _ _ _ (by simp [Value.ownBlock] at hq; subst hq; exact hgb))
  · refine L.keep h.src (fun q hq => ?_) (by rw [hz]; exact hg.size)
    rw [Below.heap_setCell _ _ _ _ (h.inT q hq).2]
    exact hsame q (h.bound q (h.inT q hq).1).2 (fun e => (h.inV q e).2.2 hq)
  · intro q hq
    simp [Value.ownBlock] at hq
    subst hq
    exact ⟨.inr rfl, hgb, hgT⟩
  · intro q hq
    exact ⟨.inl (h.inT q hq).1, (h.inT q hq).2⟩
  · refine ⟨hg.os, hg.tape, hg.output, by rw [hz]; exact hg.size, fun k hk hn => ?_, fun k hk hs => ?_⟩
    · rw [Below.heap_setCell _ _ _ _ (by intro e; subst e; exact hn h.inB)]
      exact hsame k hk (fun e => hn (h.inV k e).1)
    · rcases hs with hs | rfl
      · exact hs
      · rcases hat with e | e
        · exact (h.inV k e).1
        · omega
end
end Go.Proofs.YtfmbebofllgmoaaGreatDoor
namespace Go.Proofs.YtfmbebofllgmoaaGreatDoor
open Go.RowKit
attribute [local go_sem ↓] Go.wp_at_zero Go.wp_at_succ

section
variable {σ : Type} {SA : (Nat → Prop) → World → σ → Prop} {B : Nat} {S T : Nat → Prop} {w : World} {b : Nat} {pv : Nat → Value} {vt : Value} {s : PS} {x : σ}

theorem wpList_event {ops : Array Oper} {rest : List Oper} {o : Oper} {a : Act} {Q : Exit → Act → World → Prop} (hgd : o.guard = none) (sv xv : Operand)
    (ho : o.op = .call { callee := .builtin .append, args := #[sv, xv], argTypes := #[34, 34] }) {n : Nat} {xs : List Value} {k c v : Int}
    (hs : a.eval sv = vt) (hx : a.eval xv = .slice (some ⟨w.heap.size, 0, none⟩) 1 1) (hrow : w.ownsRow B 72 3 vt n xs) (hn : n ≤ 100000000) (hB : B ≤ w.heap.size)
    (h : ∀ g cap w', w'.ownsRow B 72 3 (.slice (some ⟨g, 0, none⟩) (n + 1) cap) (n + 1) (xs ++ [.int .i64 k, .int .i64 c, .int .i64 v]) → (w.alloc (.cells #[.int .i64 k, .int .i64 c, .int .i64 v] 72)).grownBy w' vt.ownBlock →
      (vt.ownBlock = some g ∨ g = w.heap.size + 1) → g < w'.heap.size → wpList Tryz.prog ops Q rest (a.put o.dst (.slice (some ⟨g, 0, none⟩) (n + 1) cap)) w') :
    wpList Tryz.prog ops Q (o :: rest) a (w.alloc (.cells #[.int .i64 k, .int .i64 c, .int .i64 v] 72)) := by
  obtain ⟨i, hi, hz, hs1, hby⟩ := info92
  have hb' : B ≤ (w.alloc (.cells #[.int .i64 k, .int .i64 c, .int .i64 v] 72)).heap.size := by simp; omega
  have hm : n + 1 ≤ maxLen := by simp only [maxLen]; omega
  have hby' : (n + 1) * 24 ≤ 140737488355328 := by omega
  have hone : ∀ u ∈ [Value.int .i64 k, .int .i64 c, .int .i64 v], u.oneCell' = true := by simp [Value.oneCell']
  have hsz : (w.alloc (.cells #[.int .i64 k, .int .i64 c, .int .i64 v] 72)).heap.size = w.heap.size + 1 := by simp
  exact wpList_append_lies _ hgd sv xv 34 ho B 72 i _ 3 24 Tryz.underlying34 hi hz hs1 hby rfl (by omega) vt n xs hs (hrow.alloc _) ⟨w.heap.size, 0, none⟩ 1 1 [.int .i64 k, .int .i64 c, .int .i64 v] hx rfl
    (World.news_of_block (heap_alloc_new w _)) hone (by omega) hm hby' hb' (w.heap.size + 1) hsz h

def Small (n : Nat) : Prop := n ≤ 100000000
set_option maxHeartbeats 1000000 in
theorem tell_any (L : SrcLaw SA) (h : RI SA B S w b pv vt T s x) (k a v : Int) (hlen : Small s.trace.length) :
    Calls Tryz.prog 114 #[.pointer (some ⟨b, 0, none⟩), .int .i64 k, .int .i64 a, .int .i64 v] w fun e w' => e = .returned (.tuple #[]) ∧ ∃ S' vt', RI SA B S' w' b pv vt' T { s with trace := s.trace ++ [(k, a, v)] } x ∧ Fr S w w' S' := by
  have hin := h.inB
  obtain ⟨n1, n2⟩ := ne_size (h.bound b h.inB).2
  have hb := (h.bound b h.inB).2
  have hBs : B ≤ w.heap.size := by have := h.bound b h.inB; omega
  have c0 := h.cell 64 (by omega)
  have z0 := h.free 64 (by omega)
  rw [img_trace] at c0
  have h1 := h.alloc L (.cells #[.int .i64 k, .int .i64 a, .int .i64 v] 72)
  have H := hide h1
  have hrow := hide h.row
  have HB := hide hBs
  have hw1 : (w.alloc (.cells #[.int .i64 k, .int .i64 a, .int .i64 v] 72)).cell? ⟨b, 64, none⟩ = some vt := h1.cell 64 (by omega) |>.trans (by rw [img_trace])
  have hfz1 : (w.alloc (.cells #[.int .i64 k, .int .i64 a, .int .i64 v] 72)).frozen? ⟨b, 64, none⟩ = false := h1.free 64 (by omega)
  have HW1 := hide hw1
  have HFZ := hide hfz1
  have hne : ∀ q, vt.ownBlock = some q → q ≠ b := fun q hq => (h.inV q hq).2.1
  have HNE := hide hne
  clear h h1 hin hBs hw1 hfz1 hne
  go_enter Tryz.func114, Tryz.ntmps114
  go_wp2_with (at_builtin; refine wpList_event (vt := vt) rfl (.tmp 12) (.tmp 17) rfl rfl rfl (unhide hrow) hlen (unhide HB) ?_; intro g cap w1 hown hgrow hat hlt; have e1 : w1.cell? ⟨b, 64, none⟩ = some vt := hgrow.cell (unhide HW1) (fun e => unhide HNE b e.symm rfl); have e2 : w1.frozen? ⟨b, 64, none⟩ = false := (hgrow.frozen_far ⟨b, 64, none⟩ (by simp; omega) (fun e => unhide HNE b e.symm rfl)).trans (unhide HFZ))
  go_end0
  obtain ⟨r1, r2⟩ := (unhide H).traced L hown hgrow (by simpa using hat) hlt
  exact ⟨rfl, _, _, r1, ((Fr.refl S w).alloc _).trans r2⟩

set_option maxHeartbeats 1000000 in
theorem emit_any (L : SrcLaw SA) (h : RI SA B S w b pv vt T s x) (cd a v : Int) (h0 : 0 ≤ a) (h4 : a < 4) (hlen : Small s.trace.length) :
    Calls Tryz.prog 91 #[.pointer (some ⟨b, 0, none⟩), .agg #[.int .i64 cd, .int .i64 a, .int .i64 v]] w fun e w' => e = .returned (.tuple #[]) ∧ ∃ S' vt', RI SA B S' w' b pv vt' T { s with trace := s.trace ++ [(3, a, s.reg a.toNat)] } x ∧ Fr S w w' S' := by
  have hin := h.inB
  obtain ⟨n1, n2⟩ := ne_size (h.bound b h.inB).2
  have hb := (h.bound b h.inB).2
  have c0 := h.cell (18 + a.toNat) (by omega)
  rw [img_reg _ _ _ _ (by omega)] at c0
  have h1 := (h.alloc L (.cells #[.int .i64 cd, .int .i64 a, .int .i64 v] 70)).drew L
  have ht := tell_any L h1 3 a (s.reg a.toNat) hlen
  have HT := hide ht
  clear ht h h1 hin hlen
  generalize s.reg a.toNat = ra at *
  go_enter Tryz.func91, Tryz.ntmps91
  go_wp2
  go_region_with (go_at_call 114; refine (unhide HT).mono ?_; rintro e w2 ⟨rfl, S', vt', r1, r2⟩)
  all_goals
    go_wp2
    go_end0
    exact ⟨rfl, S', vt', r1, ((Fr.refl S w).alloc _).drew.trans r2⟩
end
end Go.Proofs.YtfmbebofllgmoaaGreatDoor
namespace Go.Proofs.YtfmbebofllgmoaaGreatDoor
open Go.RowKit

/-- Hear of what a source is. -/
def Hears (tyS fnS : Nat) : Prop := ∀ (a : Addr) (k o : Value) (w : World), (invoke (.fn (.method "Hear") #[]) #[.iface tyS (.pointer (some a)), k, o]).run Tryz.prog w = .ok (.enter fnS #[.pointer (some a), k, o]) w
theorem invoke_hear : Hears 89 181 := fun a k o w => by kernel_rfl

/-- The loop asks its source: the recorder's Hear is called. -/
theorem wpList_hear {tyS fnS : Nat} (hinv : Hears tyS fnS) {ops : Array Oper} {rest : List Oper} {o : Oper} {a : Act} {Q : Exit → Act → World → Prop} {w : World} (hgd : o.guard = none) (rv kv ov : Operand)
    (ho : o.op = .call { callee := .invoke rv "Hear", args := #[kv, ov], argTypes := #[3, 3] }) {ra : Addr} {k v : Value} (hr : a.eval rv = .iface tyS (.pointer (some ra))) (hk : a.eval kv = k) (hv : a.eval ov = v)
    (h : Calls Tryz.prog fnS #[.pointer (some ra), k, v] w fun e w' => ∃ u, e = .returned u ∧ wpList Tryz.prog ops Q rest (a.put o.dst u) w') : wpList Tryz.prog ops Q (o :: rest) a w := by
  refine wpList_plain hgd fun K hK => ?_
  unfold Oper.wp execOp
  simp only [ho, resolve, Sem.run_bind, Sem.run_pure, Result.andThen_ok, List.map_toArray, List.map_cons, List.map_nil, hr, hk, hv]
  have e : (#[Value.iface tyS (.pointer (some ra))] ++ #[k, v] : Array Value) = #[.iface tyS (.pointer (some ra)), k, v] := rfl
  simp only [e, hinv ra k v w]
  rw [Oper.upon_enter]
  refine h.mono ?_
  rintro e w' ⟨u, rfl, hu⟩
  exact hK _ _ hu

/-- What a source answers: kind, of, n, files; the end (0: none). -/
structure Rep where
  kind : Int
  of : Int
  n : Int
  files : List Int
  e : Int

/-- A slice of integers in memory, in a block of P. -/
def IntsIn (w : World) (v : Value) (l : List Int) (P : Nat → Prop) : Prop :=
  ∃ a c, v = .slice a l.length c ∧ (l = [] ∨ ∃ q off, a = some ⟨q, off, none⟩ ∧ P q ∧ ∀ i, i < l.length → w.cell? ⟨q, off + i, none⟩ = some (.int .i64 (l.getD i 0)))

/-- A source that keeps its word: at a question that may be asked it answers 'ask', and turns nothing but its own blocks; the files that it answers lie in new memory. -/
structure HearSpec {σ : Type} (SA : (Nat → Prop) → World → σ → Prop) (ask : σ → Int → Int → Rep × σ) (may : Int → Int → Prop) (B rb tyS fnS : Nat) : Prop where
  hears : Hears tyS fnS
  calls : ∀ {T : Nat → Prop} {w : World} {x : σ} {k o : Int}, SA T w x → (∀ q, T q → q < w.heap.size) → may k o → Calls Tryz.prog fnS #[.pointer (some ⟨rb, 0, none⟩), .int .i64 k, .int .i64 o] w fun e w' =>
    ∃ fv T', e = .returned (.tuple #[.agg #[.int .i64 (ask x k o).1.kind, .int .i64 (ask x k o).1.of, .int .i64 (ask x k o).1.n, fv], .int .i64 (ask x k o).1.e]) ∧ SA T' w' (ask x k o).2 ∧ Fr T w w' T' ∧ (∀ q, T' q → q < w'.heap.size) ∧
      IntsIn w' fv (ask x k o).1.files (fun q => (q < B ∨ w.heap.size ≤ q ∨ T q) ∧ q < w'.heap.size ∧ ¬ T' q)

section
variable {σ : Type} {SA : (Nat → Prop) → World → σ → Prop} {ask : σ → Int → Int → Rep × σ} {may : Int → Int → Prop} {B : Nat} {S T : Nat → Prop} {w : World} {b : Nat} {pv : Nat → Value} {vt : Value} {s : PS} {x : σ}

/-- The source has answered: the run lies there with the source as it is now. -/
theorem RI.asked (h : RI SA B S w b pv vt T s x) {w' : World} {T' : Nat → Prop} {x' : σ} (hf : Fr T w w' T') (hs : SA T' w' x') (hb : ∀ q, T' q → q < w'.heap.size) :
    RI SA B (fun q => (S q ∧ ¬ T q) ∨ T' q) w' b pv vt T' s x' ∧ Fr S w w' (fun q => (S q ∧ ¬ T q) ∨ T' q) := by
  have hBw : B ≤ w.heap.size := by have := h.bound b h.inB; omega
  have hbT : ¬ T b := fun ht => (h.inT b ht).2 rfl
  have hbs := (h.bound b h.inB).2
  refine ⟨⟨?_, ?_, ?_, hs, .inl ⟨h.inB, hbT⟩, ?_, ?_⟩, ?_⟩
  · intro k hk
    rcases hk with ⟨hk, _⟩ | hk
    · exact ⟨(h.bound k hk).1, Nat.lt_of_lt_of_le (h.bound k hk).2 hf.size⟩
    · refine ⟨?_, hb k hk⟩
      by_cases hlt : k < w.heap.size
      · exact (h.bound k (h.inT k (hf.old k hlt hk)).1).1
      · omega
  · exact h.cells.block (hf.same b hbs hbT)
  · exact ownsRow_of_block h.row (fun q hq => hf.same q (h.bound q (h.inV q hq).1).2 (h.inV q hq).2.2)
  · intro q hq
    obtain ⟨h1, h2, h3⟩ := h.inV q hq
    exact ⟨.inl ⟨h1, h3⟩, h2, fun ht => h3 (hf.old q (h.bound q h1).2 ht)⟩
  · intro k hk
    exact ⟨.inr hk, fun e => by subst e; exact hbT (hf.old k hbs hk)⟩
  · refine ⟨hf.os, hf.tape, hf.output, hf.size, fun k hk hn => hf.same k hk (fun ht => hn (h.inT k ht).1), fun k hk hs => ?_⟩
    rcases hs with ⟨hs, _⟩ | hs
    · exact hs
    · exact (h.inT k (hf.old k hk hs)).1

theorem intsIn_kept {w w' : World} {v : Value} {l : List Int} {P P' : Nat → Prop} (h : IntsIn w v l P) (hk : ∀ q, P q → w'.heap[q]? = w.heap[q]?) (hp : ∀ q, P q → P' q) : IntsIn w' v l P' := by
  obtain ⟨a, c, hv, hl⟩ := h
  refine ⟨a, c, hv, ?_⟩
  rcases hl with hl | ⟨q, off, ha, hq, hc⟩
  · exact .inl hl
  · exact .inr ⟨q, off, ha, hp q hq, fun i hi => (World.cell?_of_block (w := w) (a := ⟨q, off + i, none⟩) (hk q hq)).trans (hc i hi)⟩

/-- What the loop's hear finds behind its source's answer. -/
theorem hear_facts {w1 : World} {T' : Nat → Prop} {x' : σ} (h : RI SA B S w b pv vt T s x) (L : SrcLaw SA) (hs : SA T' w1 x') (hf : Fr T (w.alloc (.cells #[.int .i64 0, .int .i64 0, .int .i64 0, .slice none 0 0] 49)) w1 T') (hq : ∀ q, T' q → q < w1.heap.size) :
    (w1.cell? ⟨b, 65, none⟩ = some (.int .i64 s.heard) ∧ w1.frozen? ⟨b, 65, none⟩ = false ∧ w1.cell? ⟨b, 66, none⟩ = some (.int .i64 s.fin) ∧ w1.frozen? ⟨b, 66, none⟩ = false) ∧
    (w1.cell? ⟨w.heap.size, 0, none⟩ = some (.int .i64 0) ∧ w1.cell? ⟨w.heap.size, 1, none⟩ = some (.int .i64 0) ∧ w1.cell? ⟨w.heap.size, 2, none⟩ = some (.int .i64 0) ∧ w1.cell? ⟨w.heap.size, 3, none⟩ = some (.slice none 0 0)) ∧
    (w1.frozen? ⟨w.heap.size, 0, none⟩ = false ∧ w1.frozen? ⟨w.heap.size, 1, none⟩ = false ∧ w1.frozen? ⟨w.heap.size, 2, none⟩ = false ∧ w1.frozen? ⟨w.heap.size, 3, none⟩ = false) ∧
    w.heap.size < w1.heap.size ∧ b < w1.heap.size ∧ ¬ w1.heap.size = w.heap.size ∧ ¬ w1.heap.size = b ∧ ¬ b = w1.heap.size := by
  have hb := (h.bound b h.inB).2
  have hTn : ¬ T w.heap.size := fun ht => by have := (h.bound _ (h.inT _ ht).1).2; omega
  obtain ⟨r1, _⟩ := (h.alloc L (.cells #[.int .i64 0, .int .i64 0, .int .i64 0, .slice none 0 0] 49)).asked hf hs hq
  have a5 := r1.cell 65 (by omega)
  rw [img_heard] at a5
  have a6 := r1.cell 66 (by omega)
  rw [img_fin] at a6
  have hsz : w.heap.size + 1 ≤ w1.heap.size := by have := hf.size; simpa using this
  have c : ∀ j, w1.cell? ⟨w.heap.size, j, none⟩ = (w.alloc (.cells #[.int .i64 0, .int .i64 0, .int .i64 0, .slice none 0 0] 49)).cell? ⟨w.heap.size, j, none⟩ := fun j => hf.cell _ _ (by simp) hTn
  have f : ∀ j, w1.frozen? ⟨w.heap.size, j, none⟩ = (w.alloc (.cells #[.int .i64 0, .int .i64 0, .int .i64 0, .slice none 0 0] 49)).frozen? ⟨w.heap.size, j, none⟩ := fun j => hf.frozen _ _ (by simp) hTn
  refine ⟨⟨a5, r1.free 65 (by omega), a6, r1.free 66 (by omega)⟩, ⟨?_, ?_, ?_, ?_⟩, ⟨?_, ?_, ?_, ?_⟩, by omega, by omega, by omega, by omega, by omega⟩
  · rw [c]; simp
  · rw [c]; simp
  · rw [c]; simp
  · rw [c]; simp
  · rw [f]; simp
  · rw [f]; simp
  · rw [f]; simp
  · rw [f]; simp

/-- The last stores of the loop's hear. -/
theorem hear_close {w1 : World} {T' : Nat → Prop} {x' : σ} (L : SrcLaw SA) (h : RI SA B S w b pv vt T s x) (hs : SA T' w1 x') (hf : Fr T (w.alloc (.cells #[.int .i64 0, .int .i64 0, .int .i64 0, .slice none 0 0] 49)) w1 T') (hq : ∀ q, T' q → q < w1.heap.size)
    (k : Nat) (v : Value) (s' : PS) (hk : k < 67) (he : ∀ j, j < 67 → img pv vt s' j = setC (img pv vt s) k v j) (ht : s'.trace = s.trace) (u0 u1 u2 u3 : Value) (o : Obj) {fv : Value} {fl : List Int}
    (hi : IntsIn w1 fv fl (fun q => (q < B ∨ (w.alloc (.cells #[.int .i64 0, .int .i64 0, .int .i64 0, .slice none 0 0] 49)).heap.size ≤ q ∨ T q) ∧ q < w1.heap.size ∧ ¬ T' q)) :
    ∃ S', RI SA B S' ((((((w1.setCell ⟨b, k, none⟩ v).setCell ⟨w.heap.size, 0, none⟩ u0).setCell ⟨w.heap.size, 1, none⟩ u1).setCell ⟨w.heap.size, 2, none⟩ u2).setCell ⟨w.heap.size, 3, none⟩ u3).alloc o) b pv vt T' s' x' ∧
      Fr S w ((((((w1.setCell ⟨b, k, none⟩ v).setCell ⟨w.heap.size, 0, none⟩ u0).setCell ⟨w.heap.size, 1, none⟩ u1).setCell ⟨w.heap.size, 2, none⟩ u2).setCell ⟨w.heap.size, 3, none⟩ u3).alloc o) S' ∧
      IntsIn ((((((w1.setCell ⟨b, k, none⟩ v).setCell ⟨w.heap.size, 0, none⟩ u0).setCell ⟨w.heap.size, 1, none⟩ u1).setCell ⟨w.heap.size, 2, none⟩ u2).setCell ⟨w.heap.size, 3, none⟩ u3).alloc o) fv fl
        (fun q => (q < B ∨ w.heap.size ≤ q ∨ S q) ∧ q < ((((((w1.setCell ⟨b, k, none⟩ v).setCell ⟨w.heap.size, 0, none⟩ u0).setCell ⟨w.heap.size, 1, none⟩ u1).setCell ⟨w.heap.size, 2, none⟩ u2).setCell ⟨w.heap.size, 3, none⟩ u3).alloc o).heap.size ∧ ¬ S' q) := by
  have hb := (h.bound b h.inB).2
  have hSn : ¬ S w.heap.size := fun ht => by have := (h.bound _ ht).2; omega
  have hTn : ¬ T w.heap.size := fun ht => hSn (h.inT _ ht).1
  obtain ⟨r1, r2⟩ := (h.alloc L (.cells #[.int .i64 0, .int .i64 0, .int .i64 0, .slice none 0 0] 49)).asked hf hs hq
  have hn : ¬ ((S w.heap.size ∧ ¬ T w.heap.size) ∨ T' w.heap.size) := by
    rintro (⟨h1, _⟩ | h2)
    · exact hSn h1
    · exact hTn (hf.old _ (by simp) h2)
  have hsz : w.heap.size + 1 ≤ w1.heap.size := by have := hf.size; simpa using this
  refine ⟨_, ((((((r1.set L k v s' hk he ht).setOther L ⟨w.heap.size, 0, none⟩ u0 hn).setOther L ⟨w.heap.size, 1, none⟩ u1 hn).setOther L ⟨w.heap.size, 2, none⟩ u2 hn).setOther L ⟨w.heap.size, 3, none⟩ u3 hn).alloc L o), ?_, ?_⟩
  · have f0 : Fr S w w1 _ := ((Fr.refl S w).alloc _).trans r2
    exact (((((f0.setCell _ _ (.inl h.inB)).setCell _ _ (.inr (Nat.le_refl _))).setCell _ _ (.inr (Nat.le_refl _))).setCell _ _ (.inr (Nat.le_refl _))).setCell _ _ (.inr (Nat.le_refl _))).alloc _
  · refine intsIn_kept hi (fun q hq' => ?_) (fun q hq' => ?_)
    · obtain ⟨g1, g2, _⟩ := hq'
      have g1' : q < B ∨ w.heap.size + 1 ≤ q ∨ T q := by simpa using g1
      have hbB := (h.bound b h.inB).1
      have gb : q ≠ b ∧ q ≠ w.heap.size := by
        rcases g1' with g | g | g
        · omega
        · omega
        · have := (h.bound _ (h.inT _ g).1).2
          exact ⟨(h.inT _ g).2, by omega⟩
      rw [Below.heap_alloc _ _ _ (by simpa [World.setCell] using g2), Below.heap_setCell _ _ _ _ (by simp; omega), Below.heap_setCell _ _ _ _ (by simp; omega), Below.heap_setCell _ _ _ _ (by simp; omega), Below.heap_setCell _ _ _ _ (by simp; omega), Below.heap_setCell _ _ _ _ (by simp; omega)]
    · obtain ⟨g1, g2, g3⟩ := hq'
      have g1' : q < B ∨ w.heap.size + 1 ≤ q ∨ T q := by simpa using g1
      refine ⟨?_, by simp [World.setCell]; omega, ?_⟩
      · rcases g1' with g | g | g
        · exact .inl g
        · exact .inr (.inl (by omega))
        · exact .inr (.inr (h.inT _ g).1)
      rintro (⟨h1, h1'⟩ | h2)
      · have := h.bound _ h1
        rcases g1' with g | g | g
        · omega
        · omega
        · exact h1' g
      · exact g3 h2

/-- Behind the loop's hear. -/
def HearPost (SA : (Nat → Prop) → World → σ → Prop) (B : Nat) (S : Nat → Prop) (w : World) (b : Nat) (pv : Nat → Value) (vt : Value) (s : PS) (R : Rep) (x' : σ) (e : Ending) (w' : World) : Prop :=
  ∃ S' T' fv, RI SA B S' w' b pv vt T' (if R.e = 0 then { s with heard := wrap64 (s.heard + 1) } else { s with fin := R.e }) x' ∧ Fr S w w' S' ∧
    (if R.e = 0 then e = .returned (.tuple #[.agg #[.int .i64 R.kind, .int .i64 R.of, .int .i64 R.n, fv], .bool true]) ∧ IntsIn w' fv R.files (fun q => (q < B ∨ w.heap.size ≤ q ∨ S q) ∧ q < w'.heap.size ∧ ¬ S' q)
     else e = .returned (.tuple #[.agg #[.int .i64 0, .int .i64 0, .int .i64 0, .slice none 0 0], .bool false]))

set_option maxHeartbeats 1000000 in
theorem hear_any (L : SrcLaw SA) {rb tyS fnS : Nat} (K : HearSpec SA ask may B rb tyS fnS) (hp : pv 3 = .iface tyS (.pointer (some ⟨rb, 0, none⟩))) (h : RI SA B S w b pv vt T s x) (kd of : Int) (hm : may kd of) :
    Calls Tryz.prog 113 #[.pointer (some ⟨b, 0, none⟩), .int .i64 kd, .int .i64 of] w fun e w' => HearPost SA B S w b pv vt s (ask x kd of).1 (ask x kd of).2 e w' := by
  have c0 := h.cell 3 (by omega)
  rw [img_pv _ _ _ _ (by omega), hp] at c0
  obtain ⟨n1, n2⟩ := ne_size (h.bound b h.inB).2
  have hb := (h.bound b h.inB).2
  have hSn : ¬ S w.heap.size := fun ht => by have := (h.bound _ ht).2; omega
  have h1 := h.alloc L (.cells #[.int .i64 0, .int .i64 0, .int .i64 0, .slice none 0 0] 49)
  have hc := K.calls h1.src (fun q hq => (h1.bound q (h1.inT q hq).1).2) hm
  have HC := hide hc
  have H1 := hide h1
  have H := hide h
  have HSn := hide hSn
  generalize eR : ask x kd of = R at *
  clear hc h h1 hp hSn eR
  obtain ⟨⟨rk, ro, rn, rf, re⟩, x'⟩ := R
  have hre : (re != 0) = true ∨ (re != 0) = false := by cases (re != 0) <;> simp
  rcases hre with hre | hre
  all_goals
    go_enter Tryz.func113, Tryz.ntmps113
    go_wp2_with (refine wpList_hear K.hears (ra := ⟨rb, 0, none⟩) rfl (.tmp 14) (.tmp 15) (.tmp 16) rfl rfl rfl rfl ?_; refine (unhide HC).mono ?_; rintro e w1 ⟨fv, T', rfl, hs, hf, hq, hi⟩; refine ⟨_, rfl, ?_⟩; have HI := hide hi; obtain ⟨fa, fc, rfl, hfi⟩ := hi; obtain ⟨⟨a5, z5, a6, z6⟩, ⟨v0, v1, v2, v3⟩, ⟨y0, y1, y2, y3⟩, q1, q2, q3, q4, q5⟩ := hear_facts (unhide H) L hs hf hq; have HS := hide hs; have HF := hide hf; have HQ := hide hq; clear hs hf hq hfi)
  · refine bodyPost_ret (v := .tuple #[.agg #[.int .i64 0, .int .i64 0, .int .i64 0, .slice none 0 0], .bool false]) ?_ rfl ?_
    · simp [results, Tryz.results113, go_sem, v0, v1, v2, v3, q1]
    · have hre' : ¬ re = 0 := by simpa using hre
      obtain ⟨S', p1, p2, _⟩ := hear_close L (unhide H) (unhide HS) (unhide HF) (unhide HQ) 66 (.int .i64 re) { s with fin := re } (by omega) (set_fin pv vt s re) rfl (.int .i64 0) (.int .i64 0) (.int .i64 0) (.slice none 0 0) (.cells #[.int .i64 rk, .int .i64 ro, .int .i64 rn, .slice fa rf.length fc] 49) (unhide HI)
      refine ⟨S', T', .slice none 0 0, ?_, p2, ?_⟩
      · rw [if_neg hre']; exact p1
      · rw [if_neg hre']
  · refine bodyPost_ret (v := .tuple #[.agg #[.int .i64 rk, .int .i64 ro, .int .i64 rn, .slice fa rf.length fc], .bool true]) ?_ rfl ?_
    · simp [results, Tryz.results113, go_sem, v0, v1, v2, v3, q1]
    · have hre' : re = 0 := by simpa using hre
      obtain ⟨S', p1, p2, p3⟩ := hear_close L (unhide H) (unhide HS) (unhide HF) (unhide HQ) 65 (.int .i64 (wrap64 (s.heard + 1))) { s with heard := wrap64 (s.heard + 1) } (by omega) (set_heard pv vt s _) rfl (.int .i64 rk) (.int .i64 ro) (.int .i64 rn) (.slice fa rf.length fc) (.cells #[.int .i64 rk, .int .i64 ro, .int .i64 rn, .slice fa rf.length fc] 49) (unhide HI)
      refine ⟨S', T', .slice fa rf.length fc, ?_, p2, ?_⟩
      · rw [if_pos hre']; exact p1
      · rw [if_pos hre']; exact ⟨rfl, p3⟩
end
end Go.Proofs.YtfmbebofllgmoaaGreatDoor
namespace Go.Proofs.YtfmbebofllgmoaaGreatDoor
open Go.RowKit
attribute [local go_sem ↓] Go.wp_at_zero Go.wp_at_succ

/-- A clock is heard. -/
def ckS (s : PS) (R : Rep) : PS := if R.e = 0 then (if R.n < s.clock then { s with heard := wrap64 (s.heard + 1), fin := 4 } else { s with heard := wrap64 (s.heard + 1), clock := R.n }) else { s with fin := R.e }
def ckB (s : PS) (R : Rep) : Bool := decide (R.e = 0) && !decide (R.n < s.clock)

section
variable {σ : Type} {SA : (Nat → Prop) → World → σ → Prop} {ask : σ → Int → Int → Rep × σ} {may : Int → Int → Prop} {B : Nat} {S T : Nat → Prop} {w : World} {b : Nat} {pv : Nat → Value} {vt : Value} {s : PS} {x : σ}

/-- A run in memory, some blocks of its own later. -/
def RunPost (SA : (Nat → Prop) → World → σ → Prop) (B : Nat) (S : Nat → Prop) (w : World) (b : Nat) (pv : Nat → Value) (s : PS) (x : σ) (w' : World) : Prop :=
  ∃ S' vt' T', RI SA B S' w' b pv vt' T' s x ∧ Fr S w w' S'

set_option maxHeartbeats 1000000 in
theorem hearClock_any (L : SrcLaw SA) {rb tyS fnS : Nat} (K : HearSpec SA ask may B rb tyS fnS) (hp : pv 3 = .iface tyS (.pointer (some ⟨rb, 0, none⟩))) (h : RI SA B S w b pv vt T s x) (hm : may 1 0) :
    Calls Tryz.prog 95 #[.pointer (some ⟨b, 0, none⟩)] w fun e w' => e = .returned (.bool (ckB s (ask x 1 0).1)) ∧ RunPost SA B S w b pv (ckS s (ask x 1 0).1) (ask x 1 0).2 w' := by
  have hc := hear_any L K hp h 1 0 hm
  generalize ask x 1 0 = R at *
  obtain ⟨⟨rk, ro, rn, rf, re⟩, x'⟩ := R
  have HC := hide hc
  have HIN := hide h.inB
  clear hc h hp hm
  by_cases hre : re = 0
  · by_cases hlt : rn < s.clock
    · have e1 : ckB s ⟨rk, ro, rn, rf, re⟩ = false := by simp [ckB, hlt]
      have e2 : ckS s ⟨rk, ro, rn, rf, re⟩ = { s with heard := wrap64 (s.heard + 1), fin := 4 } := by simp [ckS, hre, hlt]
      rw [e1, e2]
      have HRE := hide hre
      clear hre e1 e2
      go_enter Tryz.func95, Tryz.ntmps95
      go_wp2_with (go_at_call 113; refine (unhide HC).mono ?_; rintro e w1 ⟨S', T', fv, r1, r2, r3⟩; rw [if_pos (unhide HRE)] at r1 r3; obtain ⟨r3, ri⟩ := r3; obtain ⟨fa, fc, rfl, _⟩ := ri; subst r3; have R1 := hide r1; have R2 := hide r2; have a1 := (r1.cell 22 (by omega)).trans (by rw [img_clock]); have a2 := r1.cell 66 (by omega); have a3 := r1.free 66 (by omega); have hbw := (r1.bound b r1.inB).2; obtain ⟨n1, n2⟩ := ne_size hbw; generalize img pv vt { s with heard := wrap64 (s.heard + 1) } 66 = old at a2; clear r1 r2)
      go_region
      go_wp2
      go_ret
      have q := (((unhide R1).set L 66 (.int .i64 4) _ (by omega) (set_fin pv vt _ 4) rfl).alloc L (.cells #[.int .i64 rk, .int .i64 ro, .int .i64 rn, .slice fa rf.length fc] 49)).drew L
      exact ⟨rfl, S', vt, T', q, (((unhide R2).setCell _ _ (.inl (unhide HIN))).alloc _).drew⟩
    · have e1 : ckB s ⟨rk, ro, rn, rf, re⟩ = true := by simp only [ckB, hre, hlt]; rfl
      have e2 : ckS s ⟨rk, ro, rn, rf, re⟩ = { s with heard := wrap64 (s.heard + 1), clock := rn } := by simp [ckS, hre, hlt]
      rw [e1, e2]
      have HRE := hide hre
      clear hre e1 e2
      go_enter Tryz.func95, Tryz.ntmps95
      go_wp2_with (go_at_call 113; refine (unhide HC).mono ?_; rintro e w1 ⟨S', T', fv, r1, r2, r3⟩; rw [if_pos (unhide HRE)] at r1 r3; obtain ⟨r3, ri⟩ := r3; obtain ⟨fa, fc, rfl, _⟩ := ri; subst r3; have R1 := hide r1; have R2 := hide r2; have a1 := (r1.cell 22 (by omega)).trans (by rw [img_clock]); have a3 := r1.free 22 (by omega); have hbw := (r1.bound b r1.inB).2; obtain ⟨n1, n2⟩ := ne_size hbw; clear r1 r2)
      go_region
      go_wp2
      go_ret
      have q := (((unhide R1).set L 22 (.int .i64 rn) _ (by omega) (set_clock pv vt _ rn) rfl).alloc L (.cells #[.int .i64 rk, .int .i64 ro, .int .i64 rn, .slice fa rf.length fc] 49)).drew L
      exact ⟨rfl, S', vt, T', q, (((unhide R2).setCell _ _ (.inl (unhide HIN))).alloc _).drew⟩
  · have e1 : ckB s ⟨rk, ro, rn, rf, re⟩ = false := by simp [ckB, hre]
    have e2 : ckS s ⟨rk, ro, rn, rf, re⟩ = { s with fin := re } := by simp [ckS, hre]
    rw [e1, e2]
    go_enter Tryz.func95, Tryz.ntmps95
    go_wp2_with (go_at_call 113; refine (unhide HC).mono ?_; rintro e w1 ⟨S', T', fv, r1, r2, r3⟩; rw [if_neg hre] at r1 r3; subst r3; have R1 := hide r1; have R2 := hide r2; clear r1 r2)
    go_ret
    exact ⟨rfl, S', vt, T', (unhide R1).alloc L _, (unhide R2).alloc _⟩

theorem after_alloc {S S' : Nat → Prop} {w w1 : World} {o : Obj} (r2 : Fr S (w.alloc o) w1 S') : w.heap.size < w1.heap.size := by have := r2.size; simp at this; omega

set_option maxHeartbeats 1000000 in
theorem now_any (L : SrcLaw SA) {rb tyS fnS : Nat} (K : HearSpec SA ask may B rb tyS fnS) (hp : pv 3 = .iface tyS (.pointer (some ⟨rb, 0, none⟩))) (h : RI SA B S w b pv vt T s x) (hm : may 1 0) (cd a v : Int) (h0 : 0 ≤ a) (h4 : a < 4) :
    Calls Tryz.prog 89 #[.pointer (some ⟨b, 0, none⟩), .agg #[.int .i64 cd, .int .i64 a, .int .i64 v]] w fun e w' => e = .returned (.tuple #[]) ∧
      RunPost SA B S w b pv (if ckB s (ask x 1 0).1 then { ckS s (ask x 1 0).1 with reg := upd (ckS s (ask x 1 0).1).reg a.toNat (ckS s (ask x 1 0).1).clock } else ckS s (ask x 1 0).1) (ask x 1 0).2 w' := by
  have hSn : ¬ S w.heap.size := fun ht => by have := (h.bound _ ht).2; omega
  have hc := hearClock_any L K hp (h.alloc L (.cells #[.int .i64 cd, .int .i64 a, .int .i64 v] 70)) hm
  have HC := hide hc
  have HIN := hide h.inB
  have HSn := hide hSn
  clear hc h hp hm hSn
  cases hbq : ckB s (ask x 1 0).1
  · go_enter Tryz.func89, Tryz.ntmps89
    go_wp2_with (go_at_call 95; refine (unhide HC).mono ?_; rintro e w1 ⟨rfl, S', vt', T', r1, r2⟩; have R1 := hide r1; have R2 := hide r2; clear r1 r2)
    go_end0
    exact ⟨rfl, S', vt', T', unhide R1, ((Fr.refl S w).alloc _).trans (unhide R2)⟩
  · generalize ckS s (ask x 1 0).1 = s1 at *
    go_enter Tryz.func89, Tryz.ntmps89
    go_wp2_with (go_at_call 95; refine (unhide HC).mono ?_; rintro e w1 ⟨rfl, S', vt', T', r1, r2⟩; have R1 := hide r1; have R2 := hide r2; have a1 := (r1.cell 22 (by omega)).trans (by rw [img_clock]); have a2 := r1.cell (18 + a.toNat) (by omega); have a3 := r1.free (18 + a.toNat) (by omega); have hbw := (r1.bound b r1.inB).2; have b1 : w1.cell? ⟨w.heap.size, 1, none⟩ = some (.int .i64 a) := (r2.cell _ _ (by simp) (unhide HSn)).trans (by simp); have q1 := after_alloc r2; generalize img pv vt' s1 (18 + a.toNat) = old at a2; clear r1 r2)
    go_region
    go_wp2
    go_end0
    have q := (((unhide R1).set L (18 + a.toNat) (.int .i64 s1.clock) _ (by omega) (set_reg pv vt' s1 a.toNat s1.clock (by omega)) rfl)).drew L
    exact ⟨rfl, S', vt', T', q, ((((Fr.refl S w).alloc _).trans (unhide R2)).setCell _ _ (.inl (unhide HIN))).drew⟩

/-- What Lot makes of the answer. -/
def lotS (s : PS) (R : Rep) (i : Nat) : PS := if R.e = 0 then { s with heard := wrap64 (s.heard + 1), reg := upd s.reg i R.n } else { s with fin := R.e }

set_option maxHeartbeats 1000000 in
theorem lot_any (L : SrcLaw SA) {rb tyS fnS : Nat} (K : HearSpec SA ask may B rb tyS fnS) (hp : pv 3 = .iface tyS (.pointer (some ⟨rb, 0, none⟩))) (h : RI SA B S w b pv vt T s x) (cd a v : Int) (hm : may 4 v) (h0 : 0 ≤ a) (h4 : a < 4) :
    Calls Tryz.prog 90 #[.pointer (some ⟨b, 0, none⟩), .agg #[.int .i64 cd, .int .i64 a, .int .i64 v]] w fun e w' => e = .returned (.tuple #[]) ∧ RunPost SA B S w b pv (lotS s (ask x 4 v).1 a.toNat) (ask x 4 v).2 w' := by
  have hSn : ¬ S w.heap.size := fun ht => by have := (h.bound _ ht).2; omega
  have hc := hear_any L K hp (h.alloc L (.cells #[.int .i64 cd, .int .i64 a, .int .i64 v] 70)) 4 v hm
  generalize ask x 4 v = R at *
  obtain ⟨⟨rk, ro, rn, rf, re⟩, x'⟩ := R
  have HC := hide hc
  have HIN := hide h.inB
  have HSn := hide hSn
  clear hc h hp hm hSn
  by_cases hre : re = 0
  · have e2 : lotS s ⟨rk, ro, rn, rf, re⟩ a.toNat = { s with heard := wrap64 (s.heard + 1), reg := upd s.reg a.toNat rn } := by simp [lotS, hre]
    rw [e2]
    have HRE := hide hre
    clear hre e2
    go_enter Tryz.func90, Tryz.ntmps90
    go_wp2_with (go_at_call 113; refine (unhide HC).mono ?_; rintro e w1 ⟨S', T', fv, r1, r2, r3⟩; rw [if_pos (unhide HRE)] at r1 r3; obtain ⟨r3, ri⟩ := r3; obtain ⟨fa, fc, rfl, _⟩ := ri; subst r3; have R1 := hide r1; have R2 := hide r2; have a2 := r1.cell (18 + a.toNat) (by omega); have a3 := r1.free (18 + a.toNat) (by omega); have hbw := (r1.bound b r1.inB).2; obtain ⟨n1, n2⟩ := ne_size hbw; have b1 : w1.cell? ⟨w.heap.size, 1, none⟩ = some (.int .i64 a) := (r2.cell _ _ (by simp) (unhide HSn)).trans (by simp); have q1 := after_alloc r2; generalize img pv vt { s with heard := wrap64 (s.heard + 1) } (18 + a.toNat) = old at a2; clear r1 r2)
    go_region
    go_wp2
    go_end0
    have q := (((unhide R1).set L (18 + a.toNat) (.int .i64 rn) _ (by omega) (set_reg pv vt _ a.toNat rn (by omega)) rfl).alloc L (.cells #[.int .i64 rk, .int .i64 ro, .int .i64 rn, .slice fa rf.length fc] 49)).drew L
    exact ⟨rfl, S', vt, T', q, (((((Fr.refl S w).alloc _).trans (unhide R2)).setCell _ _ (.inl (unhide HIN))).alloc _).drew⟩
  · have e2 : lotS s ⟨rk, ro, rn, rf, re⟩ a.toNat = { s with fin := re } := by simp [lotS, hre]
    rw [e2]
    go_enter Tryz.func90, Tryz.ntmps90
    go_wp2_with (go_at_call 113; refine (unhide HC).mono ?_; rintro e w1 ⟨S', T', fv, r1, r2, r3⟩; rw [if_neg hre] at r1 r3; subst r3; have R1 := hide r1; have R2 := hide r2; have b2 : w1.cell? ⟨w.heap.size, 2, none⟩ = some (.int .i64 v) := (r2.cell _ _ (by simp) (unhide HSn)).trans (by simp); clear r1 r2)
    go_end0
    exact ⟨rfl, S', vt, T', (unhide R1).alloc L _, (((Fr.refl S w).alloc _).trans (unhide R2)).alloc _⟩
end
end Go.Proofs.YtfmbebofllgmoaaGreatDoor
namespace Go.Proofs.YtfmbebofllgmoaaGreatDoor
open Go.RowKit

section
variable {σ : Type} {SA : (Nat → Prop) → World → σ → Prop} {ask : σ → Int → Int → Rep × σ} {may : Int → Int → Prop} {B : Nat} {S T : Nat → Prop} {w : World} {b : Nat} {pv : Nat → Value} {vt : Value} {s : PS} {x : σ}

/-- One operation. -/
def opM (ask : σ → Int → Int → Rep × σ) (o : O3) (s : PS) (x : σ) : PS × σ :=
  if o.1 = 1 then ({ s with reg := upd s.reg o.2.1.toNat o.2.2 }, x)
  else if o.1 = 2 then ({ s with reg := upd s.reg o.2.1.toNat (wrap64 (s.reg o.2.1.toNat + s.reg o.2.2.toNat)) }, x)
  else if o.1 = 3 then ({ s with armings := s.armings + 1, tim := upd s.tim o.2.1.toNat (true, s.clock + min (max (s.reg o.2.2.toNat) 0) (1099511627776 - s.clock), s.armings + 1, o.2.1) }, x)
  else if o.1 = 4 then ({ s with tim := upd s.tim o.2.1.toNat (false, (s.tim o.2.1.toNat).2) }, x)
  else if o.1 = 5 then ({ s with wat := upd s.wat o.2.1.toNat true }, x)
  else if o.1 = 6 then ({ s with wat := upd s.wat o.2.1.toNat false }, x)
  else if o.1 = 7 then (if ckB s (ask x 1 0).1 then { ckS s (ask x 1 0).1 with reg := upd (ckS s (ask x 1 0).1).reg o.2.1.toNat (ckS s (ask x 1 0).1).clock } else ckS s (ask x 1 0).1, (ask x 1 0).2)
  else if o.1 = 8 then (lotS s (ask x 4 o.2.2).1 o.2.1.toNat, (ask x 4 o.2.2).2)
  else if o.1 = 9 then ({ s with trace := s.trace ++ [(3, o.2.1, s.reg o.2.1.toNat)] }, x)
  else if o.1 = 10 then (if s.reg o.2.1.toNat = o.2.2 then { s with next := s.next + 1 } else s, x)
  else ({ s with fin := 1 }, x)

theorem right_reg {c a v : Int} {nt nf : Nat} (h : rightB c a v nt nf = true) (hc : c = 1 ∨ c = 2 ∨ c = 7 ∨ c = 8 ∨ c = 9 ∨ c = 10) : 0 ≤ a ∧ a < 4 := by
  rcases hc with rfl | rfl | rfl | rfl | rfl | rfl <;> simp [rightB, fitsB, tabA, tabB] at h <;> omega
theorem right_tim {c a v : Int} {nt nf : Nat} (h : rightB c a v nt nf = true) (hc : c = 3 ∨ c = 4) : 0 ≤ a ∧ a < nt := by
  rcases hc with rfl | rfl <;> simp [rightB, fitsB, tabA, tabB] at h <;> omega
theorem right_file {c a v : Int} {nt nf : Nat} (h : rightB c a v nt nf = true) (hc : c = 5 ∨ c = 6) : 0 ≤ a ∧ a < nf := by
  rcases hc with rfl | rfl <;> simp [rightB, fitsB, tabA, tabB] at h <;> omega
theorem right_b {c a v : Int} {nt nf : Nat} (h : rightB c a v nt nf = true) (hc : c = 2 ∨ c = 3) : 0 ≤ v ∧ v < 4 := by
  rcases hc with rfl | rfl <;> simp [rightB, fitsB, tabA, tabB] at h <;> omega
theorem right_lot {a v : Int} {nt nf : Nat} (h : rightB 8 a v nt nf = true) : 1 ≤ v ∧ v ≤ 1000000 := by
  simp [rightB, fitsB, tabA, tabB] at h; omega
theorem right_code {c a v : Int} {nt nf : Nat} (h : rightB c a v nt nf = true) : 1 ≤ c ∧ c < 12 := by
  simp [rightB] at h; omega

/-- What an operation leans on. -/
structure OpInv (s : PS) : Prop where
  next : 0 ≤ s.next ∧ s.next ≤ 1000
  clock : 0 ≤ s.clock ∧ s.clock ≤ 1099511627776
  armings : 0 ≤ s.armings ∧ s.armings ≤ 5000
  trace : Small s.trace.length

theorem act_any (L : SrcLaw SA) {rb tyS fnS : Nat} (K : HearSpec SA ask may B rb tyS fnS) (hp : pv 3 = .iface tyS (.pointer (some ⟨rb, 0, none⟩))) (h : RI SA B S w b pv vt T s x) (hm : may 1 0) (hm4 : ∀ v, 1 ≤ v → v ≤ 1000000 → may 4 v)
    (c a v : Int) (nt nf : Nat) (hnt : nt ≤ 8) (hnf : nf ≤ 8) (hr : rightB c a v nt nf = true) (hi : OpInv s) :
    Calls Tryz.prog (82 + c.toNat) #[.pointer (some ⟨b, 0, none⟩), .agg #[.int .i64 c, .int .i64 a, .int .i64 v]] w fun e w' => e = .returned (.tuple #[]) ∧ RunPost SA B S w b pv (opM ask (c, a, v) s x).1 (opM ask (c, a, v) s x).2 w' := by
  have hc := right_code hr
  have hcs : c = 1 ∨ c = 2 ∨ c = 3 ∨ c = 4 ∨ c = 5 ∨ c = 6 ∨ c = 7 ∨ c = 8 ∨ c = 9 ∨ c = 10 ∨ c = 11 := by omega
  rcases hcs with rfl | rfl | rfl | rfl | rfl | rfl | rfl | rfl | rfl | rfl | rfl
  · obtain ⟨q1, q2⟩ := right_reg hr (by omega)
    exact (set_any L h 1 a v q1 q2).mono fun e w' ⟨he, r1, r2⟩ => ⟨he, S, vt, T, by simpa [opM] using r1, r2⟩
  · obtain ⟨q1, q2⟩ := right_reg hr (by omega)
    obtain ⟨q3, q4⟩ := right_b hr (by omega)
    exact (add_any L h 2 a v q1 q2 q3 q4).mono fun e w' ⟨he, r1, r2⟩ => ⟨he, S, vt, T, by simpa [opM] using r1, r2⟩
  · obtain ⟨q1, q2⟩ := right_tim hr (by omega)
    obtain ⟨q3, q4⟩ := right_b hr (by omega)
    exact (arm_any L h 3 a v q1 (by omega) q3 q4 hi.clock hi.armings).mono fun e w' ⟨he, r1, r2⟩ => ⟨he, S, vt, T, by simpa [opM] using r1, r2⟩
  · obtain ⟨q1, q2⟩ := right_tim hr (by omega)
    exact (cancel_any L h 4 a v q1 (by omega)).mono fun e w' ⟨he, r1, r2⟩ => ⟨he, S, vt, T, by simpa [opM] using r1, r2⟩
  · obtain ⟨q1, q2⟩ := right_file hr (by omega)
    exact (watch_any L h 5 a v q1 (by omega)).mono fun e w' ⟨he, r1, r2⟩ => ⟨he, S, vt, T, by simpa [opM] using r1, r2⟩
  · obtain ⟨q1, q2⟩ := right_file hr (by omega)
    exact (ignore_any L h 6 a v q1 (by omega)).mono fun e w' ⟨he, r1, r2⟩ => ⟨he, S, vt, T, by simpa [opM] using r1, r2⟩
  · obtain ⟨q1, q2⟩ := right_reg hr (by omega)
    exact (now_any L K hp h hm 7 a v q1 q2).mono fun e w' ⟨he, r⟩ => ⟨he, by simpa [opM] using r⟩
  · obtain ⟨q1, q2⟩ := right_reg hr (by omega)
    obtain ⟨q3, q4⟩ := right_lot hr
    exact (lot_any L K hp h 8 a v (hm4 v q3 q4) q1 q2).mono fun e w' ⟨he, r⟩ => ⟨he, by simpa [opM] using r⟩
  · obtain ⟨q1, q2⟩ := right_reg hr (by omega)
    exact (emit_any L h 9 a v q1 q2 hi.trace).mono fun e w' ⟨he, S', vt', r1, r2⟩ => ⟨he, S', vt', T, by simpa [opM] using r1, r2⟩
  · obtain ⟨q1, q2⟩ := right_reg hr (by omega)
    exact (skip_any L h 10 a v q1 q2 hi.next).mono fun e w' ⟨he, r1, r2⟩ => ⟨he, S, vt, T, by simpa [opM] using r1, r2⟩
  · exact (stop_any L h 11 a v).mono fun e w' ⟨he, r1, r2⟩ => ⟨he, S, vt, T, by simpa [opM] using r1, r2⟩
end
end Go.Proofs.YtfmbebofllgmoaaGreatDoor
namespace Go.Proofs.YtfmbebofllgmoaaGreatDoor
open Go.RowKit
attribute [local go_sem ↓] Go.wp_at_zero Go.wp_at_succ

section
variable {σ : Type} {SA : (Nat → Prop) → World → σ → Prop} {ask : σ → Int → Int → Rep × σ} {may : Int → Int → Prop} {B : Nat} {S T : Nat → Prop} {w : World} {b : Nat} {pv : Nat → Value} {vt : Value} {s : PS} {x : σ}

/-- A handler of n operations, k operations of it at most. -/
def hM (ask : σ → Int → Int → Rep × σ) (f : Nat → O3) (n : Nat) : Nat → PS → σ → PS × σ
  | 0, s, x => (s, x)
  | k + 1, s, x => if s.next < n ∧ s.fin = 0 then (if s.fuel = 0 then ({ s with fin := 3 }, x) else hM ask f n k (opM ask (f s.next.toNat) { s with fuel := s.fuel - 1, next := s.next + 1 } x).1 (opM ask (f s.next.toNat) { s with fuel := s.fuel - 1, next := s.next + 1 } x).2) else (s, x)

/-- What the numbers of a run keep. -/
structure QInv (N : Nat) (s : PS) : Prop where
  fuel : 0 ≤ s.fuel ∧ s.fuel ≤ 5000
  clock : 0 ≤ s.clock ∧ s.clock ≤ 1099511627776
  armings : 0 ≤ s.armings ∧ s.armings + s.fuel ≤ 5000
  trace : s.trace.length + s.fuel.toNat ≤ N

/-- The source's clocks are times. -/
def ClockOk (ask : σ → Int → Int → Rep × σ) : Prop := ∀ x, (ask x 1 0).1.e = 0 → 0 ≤ (ask x 1 0).1.n ∧ (ask x 1 0).1.n ≤ 1099511627776

theorem ite_ok {α : Type} {P : α → Prop} {c : Prop} [Decidable c] {a b : α} (ha : P a) (hb : P b) : P (if c then a else b) := by split <;> assumption

theorem ckS_next (s : PS) (R : Rep) : (ckS s R).next = s.next := by
  unfold ckS; exact ite_ok (P := fun q : PS => q.next = s.next) (ite_ok (P := fun q : PS => q.next = s.next) rfl rfl) rfl
theorem lotS_next (s : PS) (R : Rep) (i : Nat) : (lotS s R i).next = s.next := by
  unfold lotS; exact ite_ok (P := fun q : PS => q.next = s.next) rfl rfl

theorem opM_next (o : O3) (s : PS) (x : σ) : (opM ask o s x).1.next = s.next ∨ (opM ask o s x).1.next = s.next + 1 := by
  have hck := ckS_next s (ask x 1 0).1
  have hlo := lotS_next s (ask x 4 o.2.2).1 o.2.1.toNat
  have g : ∀ (P : PS × σ → Prop), (∀ q : PS × σ, (q.1.next = s.next ∨ q.1.next = s.next + 1) → P q) → P (opM ask o s x) := by
    intro P hP
    unfold opM
    refine ite_ok (hP _ (.inl rfl)) (ite_ok (hP _ (.inl rfl)) (ite_ok (hP _ (.inl rfl)) (ite_ok (hP _ (.inl rfl)) (ite_ok (hP _ (.inl rfl)) (ite_ok (hP _ (.inl rfl)) (ite_ok (hP _ (.inl ?_)) (ite_ok (hP _ (.inl hlo)) (ite_ok (hP _ (.inl rfl)) (ite_ok (hP _ ?_) (hP _ (.inl rfl)))))))))))
    · exact ite_ok (P := fun q : PS => q.next = s.next) hck hck
    · exact ite_ok (P := fun q : PS => q.next = s.next ∨ q.next = s.next + 1) (.inr rfl) (.inl rfl)
  exact g (fun q => q.1.next = s.next ∨ q.1.next = s.next + 1) (fun _ h => h)

theorem opM_inv (hk : ClockOk ask) {N : Nat} (o : O3) (s : PS) (x : σ) (h : QInv N s) (h1 : s.armings + s.fuel + 1 ≤ 5000) (h2 : s.trace.length + s.fuel.toNat + 1 ≤ N) : QInv N (opM ask o s x).1 := by
  obtain ⟨a1, a2, a3, a4⟩ := h
  have hck : QInv N (ckS s (ask x 1 0).1) := by
    unfold ckS
    by_cases e : (ask x 1 0).1.e = 0
    · rw [if_pos e]
      exact ite_ok (P := QInv N) ⟨a1, a2, a3, a4⟩ ⟨a1, hk x e, a3, a4⟩
    · rw [if_neg e]; exact ⟨a1, a2, a3, a4⟩
  have hlo : QInv N (lotS s (ask x 4 o.2.2).1 o.2.1.toNat) := by
    unfold lotS; exact ite_ok (P := QInv N) ⟨a1, a2, a3, a4⟩ ⟨a1, a2, a3, a4⟩
  unfold opM
  refine ite_ok (P := fun q : PS × σ => QInv N q.1) ⟨a1, a2, a3, a4⟩ (ite_ok (P := fun q : PS × σ => QInv N q.1) ⟨a1, a2, a3, a4⟩ (ite_ok (P := fun q : PS × σ => QInv N q.1) ?_ (ite_ok (P := fun q : PS × σ => QInv N q.1) ⟨a1, a2, a3, a4⟩ (ite_ok (P := fun q : PS × σ => QInv N q.1) ⟨a1, a2, a3, a4⟩ (ite_ok (P := fun q : PS × σ => QInv N q.1) ⟨a1, a2, a3, a4⟩ (ite_ok (P := fun q : PS × σ => QInv N q.1) ?_ (ite_ok (P := fun q : PS × σ => QInv N q.1) hlo (ite_ok (P := fun q : PS × σ => QInv N q.1) ?_ (ite_ok (P := fun q : PS × σ => QInv N q.1) ?_ ⟨a1, a2, a3, a4⟩)))))))))
  · exact ⟨a1, a2, ⟨by show 0 ≤ s.armings + 1; omega, by show s.armings + 1 + s.fuel ≤ 5000; omega⟩, a4⟩
  · exact ite_ok (P := QInv N) ⟨hck.fuel, hck.clock, hck.armings, hck.trace⟩ hck
  · exact ⟨a1, a2, a3, by show (s.trace ++ [(3, o.2.1, s.reg o.2.1.toNat)]).length + s.fuel.toNat ≤ N; rw [List.length_append]; simp only [List.length_cons, List.length_nil]; omega⟩
  · exact ite_ok (P := QInv N) ⟨a1, a2, a3, a4⟩ ⟨a1, a2, a3, a4⟩
end
end Go.Proofs.YtfmbebofllgmoaaGreatDoor
namespace Go.Proofs.YtfmbebofllgmoaaGreatDoor
open Go.RowKit

/-- The timers' cells. -/
def timL (t : Nat → TM) : List Value := (List.range 32).map fun j => timV (t (j / 4)) (j % 4)
theorem timL_get (t : Nat → TM) (i c : Nat) (hi : i < 8) (hc : c < 4) : (timL t)[i * 4 + c]? = some (timV (t i) c) := by
  have e : (i * 4 + c) / 4 = i := by omega
  have e' : (i * 4 + c) % 4 = c := by omega
  have e'' : i * 4 + c < 32 := by omega
  simp [timL, e'', e, e']
theorem timL_length (t : Nat → TM) : (timL t).length = 32 := by simp [timL]
theorem index_tim0 (t : Nat → TM) (w : World) : (Instr.index 127 (.agg (timL t).toArray) (.int .i64 0)).run Tryz.prog w = .ok (.agg #[.bool (t 0).1, .int .i64 (t 0).2.1, .int .i64 (t 0).2.2.1, .int .i64 (t 0).2.2.2]) w := by kernel_rfl
theorem index_tim1 (t : Nat → TM) (w : World) : (Instr.index 127 (.agg (timL t).toArray) (.int .i64 1)).run Tryz.prog w = .ok (.agg #[.bool (t 1).1, .int .i64 (t 1).2.1, .int .i64 (t 1).2.2.1, .int .i64 (t 1).2.2.2]) w := by kernel_rfl
theorem index_tim2 (t : Nat → TM) (w : World) : (Instr.index 127 (.agg (timL t).toArray) (.int .i64 2)).run Tryz.prog w = .ok (.agg #[.bool (t 2).1, .int .i64 (t 2).2.1, .int .i64 (t 2).2.2.1, .int .i64 (t 2).2.2.2]) w := by kernel_rfl
theorem index_tim3 (t : Nat → TM) (w : World) : (Instr.index 127 (.agg (timL t).toArray) (.int .i64 3)).run Tryz.prog w = .ok (.agg #[.bool (t 3).1, .int .i64 (t 3).2.1, .int .i64 (t 3).2.2.1, .int .i64 (t 3).2.2.2]) w := by kernel_rfl
theorem index_tim4 (t : Nat → TM) (w : World) : (Instr.index 127 (.agg (timL t).toArray) (.int .i64 4)).run Tryz.prog w = .ok (.agg #[.bool (t 4).1, .int .i64 (t 4).2.1, .int .i64 (t 4).2.2.1, .int .i64 (t 4).2.2.2]) w := by kernel_rfl
theorem index_tim5 (t : Nat → TM) (w : World) : (Instr.index 127 (.agg (timL t).toArray) (.int .i64 5)).run Tryz.prog w = .ok (.agg #[.bool (t 5).1, .int .i64 (t 5).2.1, .int .i64 (t 5).2.2.1, .int .i64 (t 5).2.2.2]) w := by kernel_rfl
theorem index_tim6 (t : Nat → TM) (w : World) : (Instr.index 127 (.agg (timL t).toArray) (.int .i64 6)).run Tryz.prog w = .ok (.agg #[.bool (t 6).1, .int .i64 (t 6).2.1, .int .i64 (t 6).2.2.1, .int .i64 (t 6).2.2.2]) w := by kernel_rfl
theorem index_tim7 (t : Nat → TM) (w : World) : (Instr.index 127 (.agg (timL t).toArray) (.int .i64 7)).run Tryz.prog w = .ok (.agg #[.bool (t 7).1, .int .i64 (t 7).2.1, .int .i64 (t 7).2.2.1, .int .i64 (t 7).2.2.2]) w := by kernel_rfl
theorem index_tim (t : Nat → TM) (i : Nat) (hi : i < 8) (w : World) : (Instr.index 127 (.agg (timL t).toArray) (.int .i64 (i : Int))).run Tryz.prog w = .ok (.agg #[.bool (t i).1, .int .i64 (t i).2.1, .int .i64 (t i).2.2.1, .int .i64 (t i).2.2.2]) w := by
  have hc : i = 0 ∨ i = 1 ∨ i = 2 ∨ i = 3 ∨ i = 4 ∨ i = 5 ∨ i = 6 ∨ i = 7 := by omega
  rcases hc with rfl | rfl | rfl | rfl | rfl | rfl | rfl | rfl
  · exact index_tim0 t w
  · exact index_tim1 t w
  · exact index_tim2 t w
  · exact index_tim3 t w
  · exact index_tim4 t w
  · exact index_tim5 t w
  · exact index_tim6 t w
  · exact index_tim7 t w
theorem info142 : (Tryz.prog.info? 127).map (·.size) = some 32 := by kernel_rfl

section
variable {σ : Type} {SA : (Nat → Prop) → World → σ → Prop} {B : Nat} {S T : Nat → Prop} {w : World} {b : Nat} {pv : Nat → Value} {vt : Value} {s : PS} {x : σ}
theorem RI.range (h : RI SA B S w b pv vt T s x) : w.rangeAt b 23 (timL s.tim) := by
  intro j v hv
  have hj : j < 32 := by
    have := (List.getElem?_eq_some_iff.1 hv).1
    simpa [timL_length] using this
  have e := timL_get s.tim (j / 4) (j % 4) (by omega) (by omega)
  rw [show j / 4 * 4 + j % 4 = j from by omega, hv] at e
  cases e
  have := h.cell (23 + j / 4 * 4 + j % 4) (by omega)
  rw [img_tim _ _ _ _ _ (by omega) (by omega)] at this
  rw [show 23 + j = 23 + j / 4 * 4 + j % 4 from by omega]
  exact this

/-- slices.Index of a slice of bools in the run struct: is one of them true? -/
def anyB (f : Nat → Bool) : Nat → Bool
  | 0 => false
  | n + 1 => anyB f n || f n
theorem anyB_false (f : Nat → Bool) (n : Nat) (h : ∀ i, i < n → f i = false) : anyB f n = false := by
  induction n with
  | zero => rfl
  | succ n ih => simp [anyB, ih (fun i hi => h i (by omega)), h n (by omega)]
theorem anyB_true (f : Nat → Bool) (n i : Nat) (hi : i < n) (h : f i = true) : anyB f n = true := by
  induction n with
  | zero => omega
  | succ n ih =>
    by_cases e : i = n
    · subst e; simp [anyB, h]
    · simp [anyB, ih (by omega)]

set_option maxHeartbeats 400000 in
theorem index_any (b : Nat) (f : Nat → Bool) (w : World) (hf : ∀ i, i < 8 → w.cell? ⟨b, 56 + i, none⟩ = some (.bool (f i))) :
    Calls Tryz.prog 133 #[.slice (some ⟨b, 56, none⟩) 8 8, .bool true] w fun e w' => (∃ k : Int, e = .returned (.int .i64 k) ∧ decide (0 ≤ k) = anyB f 8) ∧ w' = w := by
  have HF := hide hf
  clear hf
  go_enter Tryz.func133, Tryz.ntmps133
  go_wp2
  go_loop [8] (fun i => ∃ k : Nat, k ≤ 8 ∧ i = .int .i64 k ∧ Hid (∀ j, j < k → f j = false)) (fun i => 8 - (intOf i).toNat)
  case atStart => exact ⟨0, Nat.zero_le _, rfl, fun j hj => absurd hj (Nat.not_lt_zero _)⟩
  case round =>
    obtain ⟨k, hk, rfl, hno⟩ := hrel
    by_cases hlt : k < 8
    · have c := unhide HF k hlt
      cases hv : f k
      · rw [hv] at c
        go_wp2
        go_round
        case rel =>
          refine ⟨k + 1, by omega, by go_num, fun j hj => ?_⟩
          by_cases e : j = k
          · subst e; exact hv
          · exact unhide hno j (by omega)
        case measure => simp [intOf]; omega
      · rw [hv] at c
        go_wp2
        go_ret
        exact ⟨⟨k, rfl, by rw [anyB_true f 8 k hlt hv]; simp⟩, rfl⟩
    · have e := anyB_false f 8 (fun j hj => unhide hno j (by omega))
      have E := hide e
      clear e
      go_wp2
      go_ret
      exact ⟨⟨-1, rfl, by rw [unhide E]; simp⟩, rfl⟩

theorem contains_any (b : Nat) (f : Nat → Bool) (w : World) (hf : ∀ i, i < 8 → w.cell? ⟨b, 56 + i, none⟩ = some (.bool (f i))) :
    Calls Tryz.prog 115 #[.slice (some ⟨b, 56, none⟩) 8 8, .bool true] w fun e w' => e = .returned (.bool (anyB f 8)) ∧ w' = w := by
  have HI := hide (index_any b f w hf)
  clear hf
  go_enter Tryz.func115, Tryz.ntmps115
  go_wp2_with (go_at_call 133; refine (unhide HI).mono ?_; rintro e w' ⟨⟨k, rfl, hk⟩, rfl⟩)
  go_ret
  exact ⟨rfl, rfl⟩

def idleB (s : PS) : Bool := !anyB (fun i => (s.tim i).1) 8 && !anyB s.wat 8

set_option maxHeartbeats 1000000 in
theorem idle_any (L : SrcLaw SA) (h : RI SA B S w b pv vt T s x) :
    Calls Tryz.prog 94 #[.pointer (some ⟨b, 0, none⟩)] w fun e w' => e = .returned (.bool (idleB s)) ∧ RI SA B S w' b pv vt T s x ∧ Fr S w w' S := by
  have hra := hide h.range
  have hlen : (timL s.tim).length = 32 := timL_length _
  have hinf : (Tryz.prog.info? 127).map (·.size) = some (timL s.tim).length := by rw [hlen]; exact info142
  have hix := index_tim s.tim
  have H := hide h
  have HL := hide hinf
  have HX := hide hix
  clear h hinf hix hlen
  generalize hA : timL s.tim = A at *
  have HA := hide hA
  clear hA
  go_enter Tryz.func94, Tryz.ntmps94
  go_wp2_with (refine wpList_load_mid rfl 127 (.tmp 7) rfl b 23 rfl A _ (unhide hra) Tryz.underlying127 rfl (unhide HL) ?_)
  clear HL hra
  go_loopw [9] (fun i wr => ∃ k : Nat, k ≤ 8 ∧ i = .int .i64 k ∧ RI SA B S wr b pv vt T s x ∧ Fr S w wr S ∧ Hid (∀ j, j < k → (s.tim j).1 = false)) (fun i _ => 8 - (intOf i).toNat)
  case atStart => exact ⟨0, Nat.zero_le _, rfl, unhide H, Fr.refl S w, fun j hj => absurd hj (Nat.not_lt_zero _)⟩
  case round =>
    obtain ⟨k, hk, rfl, r1, r2, hno⟩ := hrel
    by_cases hlt : k < 8
    · have ix := fun w => (unhide HX) k hlt w
      have R1 := hide r1
      have R2 := hide r2
      clear r1 r2
      cases hv : (s.tim k).1
      · rw [hv] at ix
        generalize (s.tim k).2 = t2 at ix
        go_wp2
        go_roundw
        case rel =>
          refine ⟨k + 1, by omega, by go_num, (unhide R1).alloc L _, (unhide R2).alloc _, fun j hj => ?_⟩
          by_cases e : j = k
          · subst e; exact hv
          · exact unhide hno j (by omega)
        case measure => simp [intOf]; omega
      · have e : idleB s = false := by
          unfold idleB; rw [anyB_true (fun i => (s.tim i).1) 8 k hlt hv]; rfl
        rw [hv] at ix
        generalize (s.tim k).2 = t2 at ix
        have E := hide e
        clear e
        go_wp2
        go_ret
        exact ⟨ret_bool (unhide E).symm, (unhide R1).alloc L _, (unhide R2).alloc _⟩
    · have e : idleB s = !anyB s.wat 8 := by
        unfold idleB; rw [anyB_false (fun i => (s.tim i).1) 8 (fun j hj => unhide hno j (by omega))]; rfl
      have hc := contains_any b s.wat wr (fun i hi => (r1.cell (56 + i) (by omega)).trans (by rw [img_wat _ _ _ _ hi]))
      have HC := hide hc
      have E := hide e
      have R1 := hide r1
      have R2 := hide r2
      clear e hc r1 r2
      go_wp2_with (go_at_call 115; refine (unhide HC).mono ?_; rintro e w' ⟨rfl, hw'⟩; rw [hw']; clear hw')
      go_ret
      exact ⟨ret_bool (unhide E).symm, unhide R1, unhide R2⟩
end
end Go.Proofs.YtfmbebofllgmoaaGreatDoor
namespace Go.Proofs
open Go.Shelf
def YtfmbebofllgmoaaGreatDoor.sortT_ren : Go.Shelf.Ren := ⟨fun | 6 => 134 | 15 => 144 | 14 => 143 | 28 => 155 | 29 => 156 | 20 => 147 | 21 => 148 | 22 => 149 | 23 => 150 | 24 => 151 | 25 => 152 | 26 => 153 | 27 => 154 | 46 => 159 | 47 => 160 | 48 => 161 | 49 => 162 | 50 => 163 | 57 => 164 | n => n, fun | 22 => 192 | 24 => 126 | 25 => 205 | 3 => 3 | 39 => 184 | 0 => 0 | 53 => 183 | 55 => 222 | 4 => 4 | 46 => 215 | 45 => 214 | 50 => 194 | 5 => 5 | 9 => 9 | 66 => 223 | 70 => 227 | 76 => 229 | 77 => 85 | n => n, fun | n => n⟩
theorem YtfmbebofllgmoaaGreatDoor.sortT : Go.Proofs.SlLaysF0.n6 Tryz.prog YtfmbebofllgmoaaGreatDoor.sortT_ren := {
  mixed := by kernel_rfl
  f6 := ⟨Tryz.f134.name, by decide, Tryz.func134.trans (congrArg some (by kernel_rfl))⟩
  f14 := ⟨Tryz.f143.name, by decide, Tryz.func143.trans (congrArg some (by kernel_rfl))⟩
  f15 := Tryz.func144.trans (congrArg some (by kernel_rfl))
  f20 := ⟨Tryz.f147.name, by decide, Tryz.func147.trans (congrArg some (by kernel_rfl))⟩
  f21 := ⟨Tryz.f148.name, by decide, Tryz.func148.trans (congrArg some (by kernel_rfl))⟩
  f22 := ⟨Tryz.f149.name, by decide, Tryz.func149.trans (congrArg some (by kernel_rfl))⟩
  f23 := ⟨Tryz.f150.name, by decide, Tryz.func150.trans (congrArg some (by kernel_rfl))⟩
  f24 := ⟨Tryz.f151.name, by decide, Tryz.func151.trans (congrArg some (by kernel_rfl))⟩
  f25 := ⟨Tryz.f152.name, by decide, Tryz.func152.trans (congrArg some (by kernel_rfl))⟩
  f26 := ⟨Tryz.f153.name, by decide, Tryz.func153.trans (congrArg some (by kernel_rfl))⟩
  f27 := ⟨Tryz.f154.name, by decide, Tryz.func154.trans (congrArg some (by kernel_rfl))⟩
  f28 := Tryz.func155.trans (congrArg some (by kernel_rfl))
  f29 := Tryz.func156.trans (congrArg some (by kernel_rfl))
  f46 := ⟨Tryz.f159.name, by decide, Tryz.func159.trans (congrArg some (by kernel_rfl))⟩
  f47 := Tryz.func160.trans (congrArg some (by kernel_rfl))
  f48 := Tryz.func161.trans (congrArg some (by kernel_rfl))
  f49 := ⟨Tryz.f162.name, by decide, Tryz.func162.trans (congrArg some (by kernel_rfl))⟩
  f50 := ⟨Tryz.f163.name, by decide, Tryz.func163.trans (congrArg some (by kernel_rfl))⟩
  f57 := ⟨Tryz.f164.name, by decide, Tryz.func164.trans (congrArg some (by kernel_rfl))⟩
  t0 := Tryz.underlying0
  a0 := Tryz.isAgg0
  z0 := Tryz.sizeOf0
  v0 := Tryz.zeroValue0
  t3 := Tryz.underlying3
  a3 := Tryz.isAgg3
  z3 := Tryz.sizeOf3
  v3 := Tryz.zeroValue3
  t4 := Tryz.underlying4
  a4 := Tryz.isAgg4
  z4 := Tryz.sizeOf4
  v4 := Tryz.zeroValue4
  t5 := Tryz.underlying5
  a5 := Tryz.isAgg5
  z5 := Tryz.sizeOf5
  v5 := Tryz.zeroValue5
  t9 := Tryz.underlying9
  a9 := Tryz.isAgg9
  z9 := Tryz.sizeOf9
  v9 := Tryz.zeroValue9
  t22 := Tryz.underlying192
  a22 := Tryz.isAgg192
  z22 := Tryz.sizeOf192
  v22 := Tryz.zeroValue192
  t25 := Tryz.underlying205
  a25 := Tryz.isAgg205
  z25 := Tryz.sizeOf205
  v25 := Tryz.zeroValue205
  t39 := Tryz.underlying184
  a39 := Tryz.isAgg184
  z39 := Tryz.sizeOf184
  v39 := Tryz.zeroValue184
  t45 := Tryz.underlying214
  a45 := Tryz.isAgg214
  z45 := Tryz.sizeOf214
  v45 := Tryz.zeroValue214
  t46 := Tryz.underlying215
  a46 := Tryz.isAgg215
  z46 := Tryz.sizeOf215
  v46 := Tryz.zeroValue215
  t50 := Tryz.underlying194
  a50 := Tryz.isAgg194
  z50 := Tryz.sizeOf194
  v50 := Tryz.zeroValue194
  t53 := Tryz.underlying183
  a53 := Tryz.isAgg183
  z53 := Tryz.sizeOf183
  v53 := Tryz.zeroValue183
  t55 := Tryz.underlying222
  a55 := Tryz.isAgg222
  z55 := Tryz.sizeOf222
  v55 := Tryz.zeroValue222
  t66 := Tryz.underlying223
  a66 := Tryz.isAgg223
  z66 := Tryz.sizeOf223
  v66 := Tryz.zeroValue223
  t70 := Tryz.underlying227
  a70 := Tryz.isAgg227
  z70 := Tryz.sizeOf227
  v70 := Tryz.zeroValue227
  t76 := Tryz.underlying229
  a76 := Tryz.isAgg229
  z76 := Tryz.sizeOf229
  v76 := Tryz.zeroValue229
  t77 := Tryz.underlying85
  a77 := Tryz.isAgg85
  z77 := Tryz.sizeOf85
  v77 := Tryz.zeroValue85 }
def YtfmbebofllgmoaaGreatDoor.cmpInt_ren : Go.Shelf.Ren := ⟨fun | 5 => 137 | 7 => 145 | n => n, fun | 22 => 3 | 3 => 3 | 4 => 4 | n => n, fun | n => n⟩
theorem YtfmbebofllgmoaaGreatDoor.cmpInt : Go.Proofs.SlLaysC2.n5 Tryz.prog YtfmbebofllgmoaaGreatDoor.cmpInt_ren := {
  mixed := by kernel_rfl
  f5 := ⟨Tryz.f137.name, by decide, Tryz.func137.trans (congrArg some (by kernel_rfl))⟩
  f7 := ⟨Tryz.f145.name, by decide, Tryz.func145.trans (congrArg some (by kernel_rfl))⟩
  t3 := Tryz.underlying3
  a3 := Tryz.isAgg3
  z3 := Tryz.sizeOf3
  v3 := Tryz.zeroValue3
  t4 := Tryz.underlying4
  a4 := Tryz.isAgg4
  z4 := Tryz.sizeOf4
  v4 := Tryz.zeroValue4
  t22 := Tryz.underlying3
  a22 := Tryz.isAgg3
  z22 := Tryz.sizeOf3
  v22 := Tryz.zeroValue3 }
def YtfmbebofllgmoaaGreatDoor.bitsLen2_ren : Go.Shelf.Ren := ⟨fun | 125 => 144 | 128 => 155 | 129 => 156 | n => n, fun | 46 => 184 | 3 => 3 | 51 => 183 | 53 => 222 | 4 => 4 | 5 => 5 | 9 => 9 | n => n, fun | n => n⟩
theorem YtfmbebofllgmoaaGreatDoor.bitsLen2 : Go.Proofs.Lays.n125 Tryz.prog YtfmbebofllgmoaaGreatDoor.bitsLen2_ren := {
  mixed := by kernel_rfl
  f125 := Tryz.func144.trans (congrArg some (by kernel_rfl))
  f128 := Tryz.func155.trans (congrArg some (by kernel_rfl))
  f129 := Tryz.func156.trans (congrArg some (by kernel_rfl))
  t3 := Tryz.underlying3
  a3 := Tryz.isAgg3
  z3 := Tryz.sizeOf3
  v3 := Tryz.zeroValue3
  t4 := Tryz.underlying4
  a4 := Tryz.isAgg4
  z4 := Tryz.sizeOf4
  v4 := Tryz.zeroValue4
  t5 := Tryz.underlying5
  a5 := Tryz.isAgg5
  z5 := Tryz.sizeOf5
  v5 := Tryz.zeroValue5
  t9 := Tryz.underlying9
  a9 := Tryz.isAgg9
  z9 := Tryz.sizeOf9
  v9 := Tryz.zeroValue9
  t46 := Tryz.underlying184
  a46 := Tryz.isAgg184
  z46 := Tryz.sizeOf184
  v46 := Tryz.zeroValue184
  t51 := Tryz.underlying183
  a51 := Tryz.isAgg183
  z51 := Tryz.sizeOf183
  v51 := Tryz.zeroValue183
  t53 := Tryz.underlying222
  a53 := Tryz.isAgg222
  z53 := Tryz.sizeOf222
  v53 := Tryz.zeroValue222 }
end Go.Proofs
namespace Go.Proofs.YtfmbebofllgmoaaGreatDoor
open Go.Shelf Go.RowKit Go.Lib Go.Sort
attribute [local go_sem ↓] Go.wp_at_zero Go.wp_at_succ

def encT (t : TM) : List Value := [.bool t.1, .int .i64 t.2.1, .int .i64 t.2.2.1, .int .i64 t.2.2.2]

def orI (a b : Int) : Int := if a = 0 then b else a
def cfT (x y : TM) : Int := orI (Lib.compareInt x.2.1 y.2.1) (Lib.compareInt x.2.2.1 y.2.2.1)
def OrRel (w : World) (a b : Int) (i : Value) (wr : World) : Prop := wr = w ∧ (i = .int .i64 0 ∨ (i = .int .i64 1 ∧ a = 0) ∨ (i = .int .i64 2 ∧ a = 0 ∧ b = 0))
set_option maxHeartbeats 1000000 in
theorem or_two (B : Nat) (a b : Int) (w : World) (h0 : w.cell? ⟨B, 0, none⟩ = some (.int .i64 a)) (h1 : w.cell? ⟨B, 1, none⟩ = some (.int .i64 b)) :
    Calls Tryz.prog 136 #[.slice (some ⟨B, 0, none⟩) 2 2] w fun e w' => e = .returned (.int .i64 (orI a b)) ∧ w' = w := by
  unfold orI
  go_enter Tryz.func136, Tryz.ntmps136
  go_wp2
  go_loopw [8] (fun i wr => OrRel w a b i wr) (fun i _ => 2 - (intOf i).toNat)
  case atStart => exact ⟨rfl, .inl rfl⟩
  case round =>
    obtain ⟨rfl, rfl | ⟨rfl, rfl⟩ | ⟨rfl, rfl, rfl⟩⟩ := hrel
    · by_cases ha : a = 0
      · subst ha
        go_wp2
        go_roundw
        case rel => exact ⟨rfl, .inr (.inl ⟨rfl, rfl⟩)⟩
        case measure => simp [intOf]
      · have hne : (a == 0) = false := by simpa using ha
        go_wp2
        go_ret
        exact ⟨rfl, rfl⟩
    · by_cases ha : b = 0
      · subst ha
        go_wp2
        go_roundw
        case rel => exact ⟨rfl, .inr (.inr ⟨rfl, rfl, rfl⟩)⟩
        case measure => simp [intOf]
      · have hne : (b == 0) = false := by simpa using ha
        go_wp2
        go_ret
        exact ⟨rfl, rfl⟩
    · go_wp2
      go_ret
      exact ⟨rfl, rfl⟩

theorem cell_top (w : World) (o1 o2 : Obj) (a b : Value) (j : Nat) (v : Value) (hj : #[a, b][j]? = some v) : (((w.alloc o1).alloc o2).alloc (.cells #[a, b] 3)).drew.cell? ⟨w.heap.size + 1 + 1, j, none⟩ = some v := by
  have h : (((w.alloc o1).alloc o2).alloc (.cells #[a, b] 3)).drew.heap[w.heap.size + 1 + 1]? = some (.cells #[a, b] 3) := by
    have := heap_alloc_new ((w.alloc o1).alloc o2) (.cells #[a, b] 3)
    have e : ((w.alloc o1).alloc o2).heap.size = w.heap.size + 1 + 1 := by simp
    rw [e] at this
    exact this
  rw [cell_of_row _ _ j _ 3 (0, 0) h]
  exact hj
theorem three_grow (W : World) (a b c : Obj) : (((W.alloc a).alloc b).alloc c).drew = grow (W.drewN 1) #[a, b, c] := by
  have h : (((W.alloc a).alloc b).alloc c).drew = (((W.drewN 1).alloc a).alloc b).alloc c := rfl
  rw [h, alloc_eq_grow, alloc_eq_grow, alloc_eq_grow, grow_grow, grow_grow]
  rfl
set_option maxHeartbeats 2000000 in
set_option maxRecDepth 100000 in
theorem closure103 (x y : TM) (W : World) : Calls Tryz.prog 135 #[.agg (encT x).toArray, .agg (encT y).toArray] W fun e w' => e = .returned (.int .i64 (cfT x y)) ∧ ∃ q os', w' = grow (W.drewN q) os' := by
  have hcon := fun a b W' => AnyG.cmp_Compare_int cmpInt a b W'
  change ∀ a b W', Calls Tryz.prog 137 _ _ _ at hcon
  obtain ⟨x0, x1, x2, x3⟩ := x
  obtain ⟨y0, y1, y2, y3⟩ := y
  simp only [encT, cfT]
  generalize Lib.compareInt = cf at *
  go_enter Tryz.func135, Tryz.ntmps135
  go_wp2
  go_region_held3 (fun w' => w'.cell? ⟨W.heap.size, 1, none⟩ = some (.int .i64 x1) ∧ w'.cell? ⟨W.heap.size, 2, none⟩ = some (.int .i64 x2) ∧ w'.cell? ⟨W.heap.size + 1, 1, none⟩ = some (.int .i64 y1) ∧ w'.cell? ⟨W.heap.size + 1, 2, none⟩ = some (.int .i64 y2)) (simp [go_sem, World.cell?_alloc_past]) (first | (go_at_call 137; refine (hcon _ _ _).mono ?_; rintro e w' ⟨rfl, rfl⟩) | (go_at_call 136; refine (or_two _ (cf x1 y1) (cf x2 y2) _ (cell_top _ _ _ _ _ 0 _ rfl) (cell_top _ _ _ _ _ 1 _ rfl)).mono ?_; rintro e w' ⟨rfl, rfl⟩))
  go_wp2
  go_ret
  exact ⟨rfl, 1, _, three_grow W _ _ _⟩

theorem cmpLays103 (blk off size : Nat) (w : World) : CmpLays Tryz.prog 135 #[] encT 4 cfT blk off size w := fun _ _ _ _ x y => closure103 x y _

theorem hlen2 (n : Nat) (W : World) (h : n ≤ 12) : Calls Tryz.prog 144 #[.int .u64 n] W fun e w' => (∃ l : Int, e = .returned (.int .i64 l)) ∧ w' = W :=
  (Any.bits_Len bitsLen2 n W (by omega) (by omega)).mono fun _ _ ⟨he, hw⟩ => ⟨⟨_, he⟩, hw⟩

/-- slices.SortFunc over timers, twelve or fewer. -/
theorem sort_any (blk off cap : Nat) (d : Array TM) (w : World) (hH : HoldsK encT 4 w blk off d) (hblk : blk < w.heap.size) (h12 : d.size ≤ 12) :
    Calls Tryz.prog 134 #[.slice (some ⟨blk, off, none⟩) d.size cap, .func (.func 135) #[] #[]] w fun e w' => e = .returned (.tuple #[]) ∧ ∃ n os, w' = sortWorldK encT 4 w blk off n (Sort.insertionSort (ltOf cfT) d 0 d.size) os := by
  have eg : ∀ args w, (callFunc 135 args).run Tryz.prog w = .ok (.enter 135 args) w := enters_of Tryz.func135 (by kernel_rfl) rfl
  exact AnyQ.slices_SortFunc_small sortT 4 Tryz.isAgg126 Tryz.sizeOf126 encT (fun _ => rfl) (fun x v hv => by simp [encT] at hv; rcases hv with rfl | rfl | rfl | rfl <;> rfl) cfT 135 #[] blk off cap d w eg (cmpLays103 blk off d.size w) hH hblk h12 hlen2
end Go.Proofs.YtfmbebofllgmoaaGreatDoor
namespace Go.Proofs.YtfmbebofllgmoaaGreatDoor
open Go.RowKit
attribute [local go_sem ↓] Go.wp_at_zero Go.wp_at_succ

theorem info3 : ∃ i, Tryz.prog.info? 3 = some i ∧ i.zero = some (.int .i64 0) ∧ i.size = 1 ∧ i.bytes = 8 := by
  have h : (Tryz.prog.info? 3).map (fun i => (i.zero, i.size, i.bytes)) = some (some (.int .i64 0), 1, 8) := by kernel_rfl
  cases hi : Tryz.prog.info? 3 with
  | none => rw [hi] at h; cases h
  | some i =>
    rw [hi] at h
    simp only [Option.map_some, Option.some.injEq, Prod.mk.injEq] at h
    exact ⟨i, rfl, h.1, h.2.1, h.2.2⟩

/-- A list of integers of the call's own, all of its blocks from B on. -/
def OwnI (w : World) (B : Nat) (v : Value) (l : List Int) : Prop := w.ownsRow B 3 1 v l.length (l.map fun z => Value.int .i64 z)

theorem wpList_int {ops : Array Oper} {rest : List Oper} {o : Oper} {a : Act} {Q : Exit → Act → World → Prop} {w : World} {B : Nat} {v : Value} {l : List Int} (hgd : o.guard = none) (sv xv : Operand)
    (ho : o.op = .call { callee := .builtin .append, args := #[sv, xv], argTypes := #[26, 26] }) {z : Int}
    (hs : a.eval sv = v) (hx : a.eval xv = .slice (some ⟨w.heap.size, 0, none⟩) 1 1) (hrow : OwnI w B v l) (hn : l.length ≤ 1000) (hB : B ≤ w.heap.size)
    (h : ∀ v' w', OwnI w' B v' (l ++ [z]) → (w.alloc (.cells #[.int .i64 z] 3)).grownBy w' v.ownBlock → wpList Tryz.prog ops Q rest (a.put o.dst v') w') :
    wpList Tryz.prog ops Q (o :: rest) a (w.alloc (.cells #[.int .i64 z] 3)) := by
  obtain ⟨i, hi, hz, hs1, hby⟩ := info3
  have hb' : B ≤ (w.alloc (.cells #[.int .i64 z] 3)).heap.size := by simp; omega
  have hm : l.length + 1 ≤ maxLen := by simp only [maxLen]; omega
  have hby' : (l.length + 1) * 8 ≤ 140737488355328 := by omega
  have hone : ∀ u ∈ [Value.int .i64 z], u.oneCell' = true := by simp [Value.oneCell']
  have hsz : (w.alloc (.cells #[.int .i64 z] 3)).heap.size = w.heap.size + 1 := by simp
  refine wpList_append_lies _ hgd sv xv 26 ho B 3 i _ 1 8 Tryz.underlying26 hi hz hs1 hby rfl (by omega) v l.length _ hs (hrow.alloc _) ⟨w.heap.size, 0, none⟩ 1 1 [.int .i64 z] hx rfl
    (World.news_of_block (heap_alloc_new w _)) hone (by omega) hm hby' hb' (w.heap.size + 1) hsz ?_
  intro g cap w' h1 h2 _ _
  refine h _ w' ?_ h2
  unfold OwnI
  rw [List.length_append, List.map_append]
  exact h1

section
variable {σ : Type} {SA : (Nat → Prop) → World → σ → Prop} {ask : σ → Int → Int → Rep × σ} {may : Int → Int → Prop} {B : Nat} {S T : Nat → Prop} {w : World} {b : Nat} {pv : Nat → Value} {vt : Value} {s : PS} {x : σ}

theorem Fr.grown {S S' : Nat → Prop} {w w' w'' : World} {row : Option Nat} (h : Fr S w w' S') (hg : w'.grownBy w'' row) (hr : ∀ k, row = some k → w.heap.size ≤ k) : Fr S w w'' S' :=
  ⟨hg.os.trans h.os, hg.tape.trans h.tape, hg.output.trans h.output, Nat.le_trans h.size hg.size, fun k hk hn => (hg.block k (Nat.lt_of_lt_of_le hk h.size) (fun e => by have := hr k e.symm; omega)).trans (h.same k hk hn), h.old⟩
theorem RI.grown (L : SrcLaw SA) (h : RI SA B S w b pv vt T s x) {w' : World} {row : Option Nat} (hg : w.grownBy w' row) (hr : ∀ k, row = some k → ¬ S k) : RI SA B S w' b pv vt T s x :=
  h.kept L (fun k hk => hg.block k (h.bound k hk).2 (fun e => hr k e.symm hk)) hg.size

set_option maxHeartbeats 1000000 in
theorem ready_any (L : SrcLaw SA) (h : RI SA B S w b pv vt T s x) (v : Value) (l : List Int) (hl : IntsIn w v l (fun q => q < w.heap.size ∧ ¬ S q)) (h8 : l.length ≤ 8) (hf : ∀ z, z ∈ l → 0 ≤ z ∧ z < 8) :
    Calls Tryz.prog 117 #[.pointer (some ⟨b, 0, none⟩), v] w fun e w' => ∃ v', e = .returned v' ∧ OwnI w' w.heap.size v' (l.filter fun z => s.wat z.toNat) ∧ RI SA B S w' b pv vt T s x ∧ Fr S w w' S := by
  obtain ⟨a, c, rfl, hc⟩ := hl
  have hSz : ∀ k, S k → k < w.heap.size := fun k hk => (h.bound k hk).2
  have H := hide h
  have HC := hide hc
  have HF := hide hf
  have HZ := hide hSz
  clear h hc hf hSz
  go_enter Tryz.func117, Tryz.ntmps117
  go_wp2
  go_loopw [5, 10] (fun u i wr => ∃ k : Nat, k ≤ l.length ∧ i = .int .i64 k ∧ OwnI wr w.heap.size u ((l.take k).filter fun z => s.wat z.toNat) ∧ RI SA B S wr b pv vt T s x ∧ Fr S w wr S) (fun _ i _ => l.length - (intOf i).toNat)
  case atStart => exact ⟨0, Nat.zero_le _, rfl, World.ownsRow_nil _ _ _ _, unhide H, Fr.refl S w⟩
  case round =>
    obtain ⟨k, hk, rfl, ho, r1, r2⟩ := hrel
    by_cases hlt : k < l.length
    · rcases unhide HC with hz | ⟨q, off, rfl, ⟨q1, q2⟩, hcell⟩
      · rw [hz] at hlt; simp at hlt
      have cz := (r2.cell q (off + k) q1 q2).trans (hcell k hlt)
      have hget : l.getD k 0 = l[k] := by simp [List.getD, hlt]
      rw [hget] at cz
      obtain ⟨z0, z8⟩ := unhide HF l[k] (List.getElem_mem hlt)
      have htk : l.take (k + 1) = l.take k ++ [l[k]] := List.take_succ_eq_append_getElem hlt
      have cw := (r1.cell (56 + l[k].toNat) (by omega)).trans (by rw [img_wat _ _ _ _ (by omega)])
      have hfil : ((l.take (k + 1)).filter fun z => s.wat z.toNat) = ((l.take k).filter fun z => s.wat z.toNat) ++ (if s.wat l[k].toNat then [l[k]] else []) := by
        rw [htk, List.filter_append]; congr 1; simp [List.filter_cons]
      have hlen : ((l.take k).filter fun z => s.wat z.toNat).length ≤ 1000 := by
        have := List.length_filter_le (fun z => s.wat z.toNat) (l.take k)
        have := List.length_take_le k l
        omega
      have HO := hide ho
      have R1 := hide r1
      have R2 := hide r2
      have HFI := hide hfil
      have HLE := hide hlen
      have hsz : w.heap.size ≤ wr.heap.size := r2.size
      have HNE := hide (ho.lt)
      clear hcell ho r1 r2 hfil hlen htk hget
      generalize l[k] = z at *
      cases hwz : s.wat z.toNat
      · rw [hwz] at cw
        have HWZ := hide hwz
        clear hwz
        go_wp2
        go_roundw
        case rel =>
          refine ⟨k + 1, by omega, by go_num, ?_, unhide R1, unhide R2⟩
          rw [unhide HFI, unhide HWZ]
          simpa using unhide HO
        case measure => simp [intOf]; omega
      · rw [hwz] at cw
        have HWZ := hide hwz
        clear hwz
        go_wp2_with (at_builtin; refine wpList_int rfl (.tmp 20) (.tmp 22) rfl rfl rfl (unhide HO) (unhide HLE) hsz ?_; intro v' w' o' g')
        go_roundw
        case rel =>
          have hro : ∀ j, Value.ownBlock u5 = some j → w.heap.size ≤ j := fun j hj => ((unhide HNE) j hj).1
          refine ⟨k + 1, by omega, by go_num, ?_, ((unhide R1).alloc L _).grown L g' (fun j hj hs => ?_), ((unhide R2).alloc _).grown g' hro⟩
          · rw [unhide HFI, unhide HWZ]; simpa using o'
          · have h1 := hro j hj
            have h2 := unhide HZ j hs
            omega
        case measure => simp [intOf]; omega
    · go_wp2
      go_ret
      have e : l.take k = l := List.take_of_length_le (by omega)
      rw [e] at ho
      exact ⟨_, rfl, ho, r1, r2⟩
end
end Go.Proofs.YtfmbebofllgmoaaGreatDoor
namespace Go.Proofs.YtfmbebofllgmoaaGreatDoor
open Go.RowKit Go.Sort
attribute [local go_sem ↓] Go.wp_at_zero Go.wp_at_succ
set_option maxHeartbeats 1000000 in
theorem insertion_nil (fv : Value) (w : World) : Calls Tryz.prog 147 #[.slice none 0 0, .int .i64 0, .int .i64 0, fv] w fun e w' => e = .returned (.tuple #[]) ∧ w' = w := by
  go_enter Tryz.func147, Tryz.ntmps147
  go_wp2
  go_loopw [8] (fun i wr => i = .int .i64 1 ∧ wr = w) (fun _ _ => 0)
  case atStart => exact ⟨rfl, rfl⟩
  case round =>
    obtain ⟨rfl, rfl⟩ := hrel
    go_wp2
    go_end0
    exact ⟨rfl, rfl⟩
set_option maxHeartbeats 2000000 in
theorem pdq_nil (lim : Int) (fv : Value) (w : World) : Calls Tryz.prog 143 #[.slice none 0 0, .int .i64 0, .int .i64 0, .int .i64 lim, fv] w fun e w' => e = .returned (.tuple #[]) ∧ w' = w := by
  have h := insertion_nil fv
  go_enter Tryz.func143, Tryz.ntmps143
  go_wp2
  go_loopw [1, 2] (fun i j wr => i = .int .i64 0 ∧ j = .int .i64 0 ∧ wr = w) (fun _ _ _ => 0)
  case atStart => exact ⟨rfl, rfl, rfl⟩
  case round =>
    obtain ⟨rfl, rfl, rfl⟩ := hrel
    go_wp2_with (go_at_call 147; refine (h _).mono ?_; rintro e w' ⟨rfl, rfl⟩)
    refine bodyPost_ret (v := .tuple #[]) (by simp [results, Tryz.results143, go_sem]) rfl ?_
    exact ⟨rfl, rfl⟩
theorem sort_nil (fv : Value) (w : World) : Calls Tryz.prog 134 #[.slice none 0 0, fv] w fun e w' => e = .returned (.tuple #[]) ∧ w' = w := by
  have hl := fun W => hlen2 0 W (by omega)
  simp only [Int.natCast_zero] at hl
  have hp := fun lim W => pdq_nil lim fv W
  go_enter Tryz.func134, Tryz.ntmps134
  go_wp2_with (first | (go_at_call 144; refine (hl _).mono ?_; rintro e w' ⟨⟨lim, rfl⟩, rfl⟩) | (go_at_call 143; refine (hp _ _).mono ?_; rintro e w' ⟨rfl, rfl⟩))
  go_end0
  exact ⟨rfl, rfl⟩
theorem ltT (x y : TM) : ltOf cfT x y = true ↔ (x.2.1 < y.2.1 ∨ (x.2.1 = y.2.1 ∧ x.2.2.1 < y.2.2.1)) := by
  unfold ltOf cfT orI Lib.compareInt
  by_cases h1 : x.2.1 < y.2.1
  · simp [h1]
  · by_cases h2 : y.2.1 < x.2.1
    · simp [h1, h2]; omega
    · have h3 : x.2.1 = y.2.1 := by omega
      by_cases h4 : x.2.2.1 < y.2.2.1
      · simp [h3, h4]
      · by_cases h5 : y.2.2.1 < x.2.2.1 <;> simp [h3, h4, h5]
theorem ltF (x y : TM) : ltOf cfT x y = false ↔ ¬ (x.2.1 < y.2.1 ∨ (x.2.1 = y.2.1 ∧ x.2.2.1 < y.2.2.1)) := by
  rw [← ltT]; simp
theorem swoT : SWO (ltOf cfT) where
  irrefl x := by rw [ltF]; omega
  trans x y z h1 h2 := by rw [ltT] at *; omega
  ntrans x y z h1 h2 := by rw [ltF] at *; omega

theorem sorted_size (d : Array TM) : (Sort.insertionSort (ltOf cfT) d 0 d.size).size = d.size := (insertionSort_holds (lt := ltOf cfT) swoT d 0 d.size (Nat.zero_le _) (Nat.le_refl _)).1.1

theorem sortWorld_block (w : World) (blk off n : Nat) (d : Array TM) (os : Array Obj) (q : Nat) (hq : q < w.heap.size) (hne : q ≠ blk) : (sortWorldK encT 4 w blk off n d os).heap[q]? = w.heap[q]? := by
  show ((w.heap.modify blk _) ++ os)[q]? = w.heap[q]?
  rw [Array.getElem?_append_left (by simpa using hq), Array.getElem?_modify, if_neg (Ne.symm hne)]
theorem sortWorld_size (w : World) (blk off n : Nat) (d : Array TM) (os : Array Obj) : w.heap.size ≤ (sortWorldK encT 4 w blk off n d os).heap.size := by
  show w.heap.size ≤ ((w.heap.modify blk _) ++ os).size
  simp
theorem sortWorld_holds (w : World) (blk n : Nat) (d d' : Array TM) (os : Array Obj) (hb : blk < w.heap.size) (h : HoldsK encT 4 w blk 0 d) (hs : d'.size = d.size) : HoldsK encT 4 (sortWorldK encT 4 w blk 0 n d' os) blk 0 d' := by
  unfold sortWorldK
  exact holdsK_grow _ _ _ _ _ _ _ (by unfold putRowK; simpa using hb) (holdsK_putRowK _ _ _ _ _ d d' (holdsK_ahead _ _ _ _ _ _ _ h) hs)
end Go.Proofs.YtfmbebofllgmoaaGreatDoor
