/-
  PROVED HERE: rerunref.register, rerunref.right and check.fits answer what P3 says of one operation, at all numbers. rerunlaw.wipe and rerunlaw.ops: a handler is written over, or copied with four operations behind it, and old memory stays. rerunlaw.handlers copies a list of handlers, with four behind it, and old memory stays. rerunlaw.sameOps and sameHandlers answer true of a copy and its original. check.right answers as rerunref.right does, at all numbers, wherever the table lies in memory as the text lays it. rerunlaw.program copies a program, and old memory stays. rerunlaw.still answers true of a copy that was not written into, and writes over that copy alone. append onto a list of handlers that the call itself has built: what it holds then. slices.Grow of nil, for the list of handlers. rerunref.Check answers what P3 says (Ans), for every program in memory. slices.Concat of three lists of handlers: all of them in order. check.Program and rerun.Check answer what P3 says (Ans), for every program in memory. the keep statements' own small functions: pick, and sameEvents of events that are the same.
-/
import Derived.Test.YtfmbebofllgmoaaGreatDoorProg
import Derived.WalkKit
import Derived.WalkSpells
import Derived.WalkLawsBesides
import Derived.Deep.QuietTactic
import Derived.BigQuiet
import Derived.Deep.RegionHeld3
import Derived.Deep.AppendLies
namespace Go.Proofs.YtfmbebofllgmoaaGreatDoor
open Go.RowKit

theorem ret_bool {a b : Bool} (h : a = b) : Ending.returned (.bool a) = .returned (.bool b) := by rw [h]

def regB (a : Int) : Bool := decide (0 ≤ a) && decide (a < 4)

theorem register_any (a : Int) (w : World) :
    Calls Tryz.prog 104 #[.int .i64 a] w fun e w' => e = .returned (.bool (regB a)) ∧ w' = w := by
  unfold regB
  by_cases h : 0 ≤ a
  · go_enter Tryz.func104, Tryz.ntmps104
    go_wp2
    go_ret
    exact ⟨by simp [h], rfl⟩
  · go_enter Tryz.func104, Tryz.ntmps104
    go_wp2
    go_ret
    exact ⟨ret_bool (by have : decide (0 ≤ a) = false := by simpa using h
                        rw [this]; rfl), rfl⟩

def fitsB (n m : Int) (nt nf : Nat) : Bool :=
  if m = 1 then decide (0 ≤ n) && decide (n < 4)
  else if m = 2 then decide (0 ≤ n) && decide (n < nt)
  else if m = 3 then decide (0 ≤ n) && decide (n < nf)
  else if m = 4 then decide (1 ≤ n) && decide (n ≤ 1000000)
  else true

set_option maxHeartbeats 400000 in
theorem fits_any (n m : Int) (v1 : Value) (a2 a3 : Option Addr) (nt c2 nf c3 : Nat) (w : World) :
    Calls Tryz.prog 82 #[.int .i64 n, .int .i64 m, .agg #[v1, .slice a2 nt c2, .slice a3 nf c3]] w fun e w' => e = .returned (.bool (fitsB n m nt nf)) ∧ w' = w.alloc (.cells #[v1, .slice a2 nt c2, .slice a3 nf c3] 33) := by
  go_enter Tryz.func82, Tryz.ntmps82
  go_wp2
  all_goals go_ret
  all_goals refine ⟨ret_bool ?_, rfl⟩
  all_goals simp_all [fitsB]
  all_goals omega

def tabA (c : Int) : Int := if c = 3 then 2 else if c = 4 then 2 else if c = 5 then 3 else if c = 6 then 3 else if c = 11 then 0 else 1
def tabB (c : Int) : Int := if c = 2 then 1 else if c = 3 then 1 else if c = 8 then 4 else 0

def rightB (c a b : Int) (nt nf : Nat) : Bool :=
  decide (1 ≤ c) && decide (c < 12) && fitsB a (tabA c) nt nf && fitsB b (tabB c) nt nf


theorem rightB_other (c a b : Int) (nt nf : Nat) (h1 : c ≠ 1) (h2 : c ≠ 2) (h3 : c ≠ 3) (h4 : c ≠ 4) (h5 : c ≠ 5) (h6 : c ≠ 6) (h7 : c ≠ 7) (h8 : c ≠ 8) (h9 : c ≠ 9) (h10 : c ≠ 10) :
    (c == 11) = rightB c a b nt nf := by
  by_cases h : c = 11
  · subst h; simp [rightB, fitsB, tabA, tabB]
  · have e : (decide (1 ≤ c) && decide (c < 12)) = false := by
      by_cases k : 1 ≤ c
      · have : ¬ c < 12 := by omega
        simp [this]
      · simp [k]
    unfold rightB
    rw [e]
    simp [h]

set_option maxHeartbeats 1000000 in
/-- rerunref.right. -/
theorem rright_any (c a b : Int) (v1 : Value) (a2 a3 : Option Addr) (nt c2 nf c3 : Nat) (w : World) :
    Calls Tryz.prog 70 #[.agg #[.int .i64 c, .int .i64 a, .int .i64 b], .agg #[v1, .slice a2 nt c2, .slice a3 nf c3]] w fun e w' => e = .returned (.bool (rightB c a b nt nf)) ∧ w' = (w.alloc (.cells #[.int .i64 c, .int .i64 a, .int .i64 b] 70)).alloc (.cells #[v1, .slice a2 nt c2, .slice a3 nf c3] 33) := by
  go_enter Tryz.func70, Tryz.ntmps70
  go_wp2_with (go_at_call 104; refine (register_any _ _).mono ?_; rintro e w' ⟨rfl, rfl⟩)
  all_goals go_ret
  all_goals refine ⟨ret_bool ?_, rfl⟩
  all_goals first
    | exact rightB_other c a b nt nf (by simp_all) (by simp_all) (by simp_all) (by simp_all) (by simp_all) (by simp_all) (by simp_all) (by simp_all) (by simp_all) (by simp_all)
    | (simp_all [rightB, fitsB, tabA, tabB, regB]; done)
    | (simp_all [rightB, fitsB, tabA, tabB, regB]; omega)
end Go.Proofs.YtfmbebofllgmoaaGreatDoor
namespace Go.Proofs.YtfmbebofllgmoaaGreatDoor
open Go.RowKit

structure Wiped (g : Nat) (w w' : World) : Prop where
  os : w'.os = w.os
  tape : w'.tape = w.tape
  output : w'.output = w.output
  size : w'.heap.size = w.heap.size
  block : ∀ k, k ≠ g → w'.heap[k]? = w.heap[k]?
  frozen : ∀ a, w'.frozen? a = w.frozen? a
  there : ∀ a, (w.cell? a).isSome = true → (w'.cell? a).isSome = true

theorem Wiped.refl (g : Nat) (w : World) : Wiped g w w := ⟨rfl, rfl, rfl, rfl, fun _ _ => rfl, fun _ => rfl, fun _ h => h⟩
theorem Wiped.setCell {g : Nat} {w w' : World} (h : Wiped g w w') (o : Nat) (v : Value) : Wiped g w (w'.setCell ⟨g, o, none⟩ v) := by
  refine ⟨h.os, h.tape, h.output, ?_, ?_, ?_, ?_⟩
  · rw [← h.size]; simp [World.setCell]
  · intro k hk
    rw [Below.heap_setCell _ _ _ _ hk]; exact h.block k hk
  · intro a; rw [← h.frozen a]; simp
  · intro a ha
    have := h.there a ha
    by_cases e : a = ⟨g, o, none⟩
    · subst e
      rw [World.cell?_setCell_same' _ _ _ this]; rfl
    · rw [World.cell?_setCell_other _ _ _ _ (Ne.symm e)]; exact this

theorem hide {p : Prop} (h : p) : Hid p := h
theorem unhide {p : Prop} (h : Hid p) : p := h
def Writable (w : World) (g m : Nat) : Prop := ∀ k, k < m → (w.cell? ⟨g, k, none⟩).isSome = true ∧ w.frozen? ⟨g, k, none⟩ = false

set_option maxHeartbeats 400000 in
theorem wipe_any (g n c : Nat) (w : World) (hn : (n : Int) ≤ 2^62) (hw : Writable w g (n * 3)) :
    Calls Tryz.prog 69 #[.slice (some ⟨g, 0, none⟩) n c] w fun e w' => e = .returned (.tuple #[]) ∧ Wiped g w w' := by
  go_enter Tryz.func69, Tryz.ntmps69
  go_wp2
  go_loopw [2] (fun i wr => ∃ k : Nat, k ≤ n ∧ i = .int .i64 k ∧ Wiped g w wr) (fun i _ => n - (intOf i).toNat)
  case atStart => exact ⟨0, Nat.zero_le _, rfl, Wiped.refl _ _⟩
  case round =>
    obtain ⟨k, hk, rfl, hwp⟩ := hrel
    by_cases hlt : k < n
    · obtain ⟨t0, z0⟩ := hw (k * 3) (by omega)
      obtain ⟨t1, z1⟩ := hw (k * 3 + 1) (by omega)
      obtain ⟨t2, z2⟩ := hw (k * 3 + 2) (by omega)
      obtain ⟨v0, c0⟩ := Option.isSome_iff_exists.1 (hwp.there _ t0)
      obtain ⟨v1, c1⟩ := Option.isSome_iff_exists.1 (hwp.there _ t1)
      obtain ⟨v2, c2⟩ := Option.isSome_iff_exists.1 (hwp.there _ t2)
      rw [← hwp.frozen] at z0 z1 z2
      clear t0 t1 t2 hw
      go_wp2
      go_roundw
      case rel => exact ⟨k + 1, by omega, by go_num, ((hwp.setCell _ _).setCell _ _).setCell _ _⟩
      case measure => simp [intOf]; omega
    · go_wp2
      go_end0
      exact ⟨rfl, hwp⟩

/-- An operation, as three numbers. -/
abbrev O3 := Int × Int × Int
/-- Three cells hold an operation. -/
def OpAt (w : World) (b o : Nat) (x : O3) : Prop :=
  w.cell? ⟨b, o, none⟩ = some (.int .i64 x.1) ∧ w.cell? ⟨b, o + 1, none⟩ = some (.int .i64 x.2.1) ∧ w.cell? ⟨b, o + 2, none⟩ = some (.int .i64 x.2.2)
/-- A slice value whose n elements are the operations f 0, f 1, .. -/
def OpsIn (w : World) (v : Value) (n : Nat) (f : Nat → O3) : Prop :=
  ∃ a c, v = .slice a n c ∧ n * 24 ≤ 140737488351232 ∧ (n = 0 ∨ ∃ b off, a = some ⟨b, off, none⟩ ∧ ∀ i, i < n → OpAt w b (off + i * 3) (f i))

theorem opAt_below {w w' : World} (h : Below w.heap.size w w') {b o : Nat} {x : O3} (hx : OpAt w b o x) : OpAt w' b o x := by
  have hb : b < w.heap.size := World.block_lt_of_cell? w _ hx.1
  exact ⟨(h.cell (p := ⟨b, _, none⟩) hb).trans hx.1, (h.cell (p := ⟨b, _, none⟩) hb).trans hx.2.1, (h.cell (p := ⟨b, _, none⟩) hb).trans hx.2.2⟩
theorem opsIn_below {w w' : World} (h : Below w.heap.size w w') {v : Value} {n : Nat} {f : Nat → O3} (hx : OpsIn w v n f) : OpsIn w' v n f := by
  obtain ⟨a, c, hv, hn, hc⟩ := hx
  refine ⟨a, c, hv, hn, ?_⟩
  rcases hc with hc | ⟨b, off, ha, hc⟩
  · exact .inl hc
  · exact .inr ⟨b, off, ha, fun i hi => opAt_below h (hc i hi)⟩

/-- What the copy of n operations holds: they, and four of (9, 0, 0) behind them. -/
def padF (n : Nat) (f : Nat → O3) : Nat → O3 := fun i => if i < n then f i else (9, 0, 0)

theorem info72 : (Tryz.prog.info? 70).map (fun i => (i.zero, i.size, i.bytes)) = some (some (.agg #[.int .i64 0, .int .i64 0, .int .i64 0]), 3, 24) := by kernel_rfl

theorem make_ops (n : Nat) (hn : n * 24 ≤ 140737488351232) (w : World) : (Instr.makeSlice 31 (.int .i64 ((n : Int) + 4)) (.int .i64 ((n : Int) + 4))).run Tryz.prog w =
    .ok (.slice (some ⟨w.heap.size, 0, none⟩) (n + 4) (n + 4)) (w.alloc (.cells (madeCells #[.int .i64 0, .int .i64 0, .int .i64 0] ((n + 4) * 3)) 70)) := by
  have h := info72
  cases hi : Tryz.prog.info? 70 with
  | none => rw [hi] at h; cases h
  | some i =>
    rw [hi] at h
    simp only [Option.map_some, Option.some.injEq, Prod.mk.injEq] at h
    obtain ⟨hz, hs, hb⟩ := h
    have := run_make (P := Tryz.prog) w 31 70 i _ Tryz.underlying31 hi hz .i64 .i64 ((n : Int) + 4) ((n : Int) + 4) (by omega) (by omega) (by rw [hb]; omega) (by omega)
    rw [this, hs]
    have e : ((n : Int) + 4).toNat = n + 4 := by omega
    rw [e]
    rfl

/-- The copy in memory: block g, n operations and four behind them, all of them free to be written. -/
structure OwnOps (w : World) (g m : Nat) (f : Nat → O3) : Prop where
  there : Writable w g (m * 3)
  cells : ∀ i, i < m → OpAt w g (i * 3) (f i)

theorem writable_made (w : World) (z : Array Value) (m : Nat) (t : TypeId) : Writable (w.alloc (.cells (madeCells z m) t)) w.heap.size m := by
  intro k hk
  refine ⟨?_, ?_⟩
  · simp [size_madeCells, hk]
  · simp

theorem Writable.setCell {w : World} {g m : Nat} (h : Writable w g m) (a : Addr) (v : Value) : Writable (w.setCell a v) g m := by
  intro k hk
  obtain ⟨h1, h2⟩ := h k hk
  refine ⟨?_, by simpa using h2⟩
  by_cases e : a = ⟨g, k, none⟩
  · subst e; rw [World.cell?_setCell_same' _ _ _ h1]; rfl
  · rw [World.cell?_setCell_other _ _ _ _ e]; exact h1

theorem opAt_set {w : World} {g o : Nat} (x : O3) (h0 : (w.cell? ⟨g, o, none⟩).isSome = true) (h1 : (w.cell? ⟨g, o + 1, none⟩).isSome = true) (h2 : (w.cell? ⟨g, o + 2, none⟩).isSome = true) :
    OpAt (((w.setCell ⟨g, o, none⟩ (.int .i64 x.1)).setCell ⟨g, o + 1, none⟩ (.int .i64 x.2.1)).setCell ⟨g, o + 2, none⟩ (.int .i64 x.2.2)) g o x := by
  refine ⟨?_, ?_, ?_⟩
  · rw [World.cell?_setCell_other _ _ _ _ (by simp), World.cell?_setCell_other _ _ _ _ (by simp), World.cell?_setCell_same' _ _ _ h0]
  · rw [World.cell?_setCell_other _ _ _ _ (by simp), World.cell?_setCell_same' _ _ _ (by rw [World.cell?_setCell_other _ _ _ _ (by simp)]; exact h1)]
  · rw [World.cell?_setCell_same' _ _ _ (by rw [World.cell?_setCell_other _ _ _ _ (by simp), World.cell?_setCell_other _ _ _ _ (by simp)]; exact h2)]

theorem opAt_set_other {w : World} {g o b o' : Nat} (x y z : Value) (u : O3) (h : OpAt w b o' u) (hne : b ≠ g ∨ o' + 3 ≤ o ∨ o + 3 ≤ o') :
    OpAt (((w.setCell ⟨g, o, none⟩ x).setCell ⟨g, o + 1, none⟩ y).setCell ⟨g, o + 2, none⟩ z) b o' u := by
  obtain ⟨h0, h1, h2⟩ := h
  refine ⟨?_, ?_, ?_⟩
  all_goals
    rw [World.cell?_setCell_other _ _ _ _ (by simp; omega), World.cell?_setCell_other _ _ _ _ (by simp; omega), World.cell?_setCell_other _ _ _ _ (by simp; omega)]
    assumption

set_option maxHeartbeats 400000 in
theorem ops_any (v : Value) (n : Nat) (f : Nat → O3) (w : World) (hv : OpsIn w v n f) :
    Calls Tryz.prog 65 #[v] w fun e w' => e = .returned (.slice (some ⟨w.heap.size, 0, none⟩) n (n + 4)) ∧ Below w.heap.size w w' ∧ w.heap.size < w'.heap.size ∧ OwnOps w' w.heap.size (n + 4) (padF n f) := by
  obtain ⟨a, c, rfl, hn, hf⟩ := hv
  have hmk := make_ops n hn
  go_enter Tryz.func65, Tryz.ntmps65
  go_wp2
  go_loopw [4] (fun i wr => ∃ k : Nat, k ≤ n + 4 ∧ i = .int .i64 k ∧ Below w.heap.size w wr ∧ w.heap.size < wr.heap.size ∧ Writable wr w.heap.size ((n + 4) * 3) ∧ ∀ i, i < k → OpAt wr w.heap.size (i * 3) (padF n f i)) (fun i _ => n + 4 - (intOf i).toNat)
  case atStart => exact ⟨0, Nat.zero_le _, rfl, (Below.refl _ _).alloc (Nat.le_refl _) _, by simp, writable_made _ _ _ _, fun i hi => absurd hi (Nat.not_lt_zero _)⟩
  case round =>
    obtain ⟨k, hk, rfl, hb, hsz, hwr, hops⟩ := hrel
    by_cases hlt : k < n + 4
    · obtain ⟨t0, z0⟩ := hwr (k * 3) (by omega)
      obtain ⟨t1, z1⟩ := hwr (k * 3 + 1) (by omega)
      obtain ⟨t2, z2⟩ := hwr (k * 3 + 2) (by omega)
      obtain ⟨v0, c0⟩ := Option.isSome_iff_exists.1 t0
      obtain ⟨v1, c1⟩ := Option.isSome_iff_exists.1 t1
      obtain ⟨v2, c2⟩ := Option.isSome_iff_exists.1 t2
      have HW := hide hwr
      have HO := hide hops
      have HF := hide hf
      have T0 := hide t0
      have T1 := hide t1
      have T2 := hide t2
      clear hwr hops hf t0 t1 t2
      by_cases hkn : k < n
      · rcases unhide HF with hz | ⟨b, off, rfl, hf⟩
        · omega
        obtain ⟨g0, g1, g2⟩ := hf k hkn
        have hlt' : b < w.heap.size := World.block_lt_of_cell? w _ g0
        rw [← hb.cell (p := ⟨b, _, none⟩) hlt'] at g0 g1 g2
        have hne : ¬ w.heap.size = b := by omega
        have hne' : ¬ b = w.heap.size := by omega
        have HF2 := hide hf
        clear hf
        generalize hx : f k = x at g0 g1 g2
        have HX := hide hx
        clear hx
        go_wp2
        go_roundw
        case rel =>
          have hw1 := ((unhide HW).setCell ⟨w.heap.size, k * 3, none⟩ (.int .i64 9) |>.setCell ⟨w.heap.size, k * 3 + 1, none⟩ (.int .i64 0)).setCell ⟨w.heap.size, k * 3 + 2, none⟩ (.int .i64 0)
          refine ⟨k + 1, by omega, by go_num, (((((hb.setCell (by simp) _).setCell (by simp) _).setCell (by simp) _).setCell (by simp) _).setCell (by simp) _).setCell (by simp) _, by simpa using hsz, (hw1.setCell _ _ |>.setCell _ _).setCell _ _, ?_⟩
          intro i hi
          by_cases e : i = k
          · subst e
            have : padF n f i = x := by simp [padF, hkn, unhide HX]
            rw [this]
            exact opAt_set x (hw1 _ (by omega)).1 (hw1 _ (by omega)).1 (hw1 _ (by omega)).1
          · exact opAt_set_other _ _ _ _ (opAt_set_other _ _ _ _ (unhide HO i (by omega)) (by omega)) (by omega)
        case measure => simp [intOf]; omega
      · go_wp2
        go_roundw
        case rel =>
          refine ⟨k + 1, by omega, by go_num, ((hb.setCell (by simp) _).setCell (by simp) _).setCell (by simp) _, by simpa using hsz, ((unhide HW).setCell _ _ |>.setCell _ _).setCell _ _, ?_⟩
          intro i hi
          by_cases e : i = k
          · subst e
            have : padF n f i = (9, 0, 0) := by simp [padF, hkn]
            rw [this]
            exact opAt_set (9, 0, 0) (unhide T0) (unhide T1) (unhide T2)
          · exact opAt_set_other _ _ _ _ (unhide HO i (by omega)) (by omega)
        case measure => simp [intOf]; omega
    · go_wp2
      go_ret
      obtain rfl : k = n + 4 := by omega
      exact ⟨rfl, hb, hsz, ⟨hwr, hops⟩⟩
end Go.Proofs.YtfmbebofllgmoaaGreatDoor
namespace Go.Proofs.YtfmbebofllgmoaaGreatDoor
open Go.RowKit

/-- A slice value whose n elements are handlers: the i-th has ln i operations f i 0, f i 1, .. -/
def HandsIn (w : World) (v : Value) (n : Nat) (ln : Nat → Nat) (f : Nat → Nat → O3) : Prop :=
  ∃ a c, v = .slice a n c ∧ n * 24 ≤ 140737488351232 ∧ (n = 0 ∨ ∃ b off, a = some ⟨b, off, none⟩ ∧ ∀ i, i < n → ∃ vi, w.cell? ⟨b, off + i, none⟩ = some vi ∧ OpsIn w vi (ln i) (f i))

theorem handsIn_below {w w' : World} (h : Below w.heap.size w w') {v : Value} {n : Nat} {ln : Nat → Nat} {f : Nat → Nat → O3} (hx : HandsIn w v n ln f) : HandsIn w' v n ln f := by
  obtain ⟨a, c, hv, hn, hc⟩ := hx
  refine ⟨a, c, hv, hn, ?_⟩
  rcases hc with hc | ⟨b, off, ha, hc⟩
  · exact .inl hc
  · refine .inr ⟨b, off, ha, fun i hi => ?_⟩
    obtain ⟨vi, h1, h2⟩ := hc i hi
    exact ⟨vi, (h.cell (p := ⟨b, _, none⟩) (World.block_lt_of_cell? w _ h1)).trans h1, opsIn_below h h2⟩

theorem opAt_lt {w : World} {b o : Nat} {x : O3} (h : OpAt w b o x) : b < w.heap.size := World.block_lt_of_cell? w ⟨b, o, none⟩ h.1
theorem opAt_setCell {w : World} {b o : Nat} {x : O3} (h : OpAt w b o x) {a : Addr} (hne : a.block ≠ b) (v : Value) : OpAt (w.setCell a v) b o x := by
  have e : ∀ o, a ≠ ⟨b, o, none⟩ := fun o he => hne (by rw [he])
  exact ⟨(World.cell?_setCell_other _ _ _ _ (e _)).trans h.1, (World.cell?_setCell_other _ _ _ _ (e _)).trans h.2.1, (World.cell?_setCell_other _ _ _ _ (e _)).trans h.2.2⟩
theorem Writable.below {w w' : World} {B g m : Nat} (h : Writable w g m) (hb : Below B w w') (hg : g < B) : Writable w' g m := by
  intro k hk
  rw [hb.cell (p := ⟨g, k, none⟩) hg, hb.frozen (p := ⟨g, k, none⟩) hg]
  exact h k hk
theorem opAt_below' {w w' : World} {B b o : Nat} {x : O3} (h : Below B w w') (hx : OpAt w b o x) (hb : b < B) : OpAt w' b o x :=
  ⟨(h.cell (p := ⟨b, _, none⟩) hb).trans hx.1, (h.cell (p := ⟨b, _, none⟩) hb).trans hx.2.1, (h.cell (p := ⟨b, _, none⟩) hb).trans hx.2.2⟩
theorem OwnOps.below {w w' : World} {B g m : Nat} {f : Nat → O3} (h : OwnOps w g m f) (hb : Below B w w') (hg : g < B) : OwnOps w' g m f :=
  ⟨h.there.below hb hg, fun i hi => opAt_below' hb (h.cells i hi) hg⟩
theorem OwnOps.setCell {w : World} {g m : Nat} {f : Nat → O3} (h : OwnOps w g m f) {a : Addr} (hne : a.block ≠ g) (v : Value) : OwnOps (w.setCell a v) g m f :=
  ⟨h.there.setCell _ _, fun i hi => opAt_setCell (h.cells i hi) hne v⟩

/-- The copy of n handlers in memory, as far as it is made (k of n + 4): block g, the handlers' own blocks G i. -/
structure OwnHands (w : World) (g n k : Nat) (ln : Nat → Nat) (f : Nat → Nat → O3) (G : Nat → Nat) : Prop where
  there : Writable w g (n + 4)
  heads : ∀ i, i < k → i < n → w.cell? ⟨g, i, none⟩ = some (.slice (some ⟨G i, 0, none⟩) (ln i) (ln i + 4))
  pads : ∀ i, i < k → n ≤ i → w.cell? ⟨g, i, none⟩ = some (.slice (some ⟨G i, 0, none⟩) 1 1)
  far : ∀ i, i < k → g < G i ∧ G i < w.heap.size
  own : ∀ i, i < k → i < n → OwnOps w (G i) (ln i + 4) (padF (ln i) (f i))
  pad : ∀ i, i < k → n ≤ i → OpAt w (G i) 0 (9, 0, 0)

theorem OwnHands.below {w w' : World} {B g n k : Nat} {ln : Nat → Nat} {f : Nat → Nat → O3} {G : Nat → Nat} (h : OwnHands w g n k ln f G) (hb : Below B w w') (hg : g < B) (hG : ∀ i, i < k → G i < B) : OwnHands w' g n k ln f G :=
  ⟨h.there.below hb hg, fun i hi hn => (hb.cell (p := ⟨g, _, none⟩) hg).trans (h.heads i hi hn), fun i hi hn => (hb.cell (p := ⟨g, _, none⟩) hg).trans (h.pads i hi hn),
   fun i hi => ⟨(h.far i hi).1, Nat.lt_of_lt_of_le (h.far i hi).2 hb.size⟩, fun i hi hn => (h.own i hi hn).below hb (hG i hi), fun i hi hn => opAt_below' hb (h.pad i hi hn) (hG i hi)⟩

/-- One more header is stored: a handler's. -/
theorem OwnHands.step {w : World} {g n k q : Nat} {ln : Nat → Nat} {f : Nat → Nat → O3} {G : Nat → Nat} (h : OwnHands w g n k ln f G) (hk : k < n) (hq : g < q ∧ q < w.heap.size) (ho : OwnOps w q (ln k + 4) (padF (ln k) (f k))) :
    OwnHands (w.setCell ⟨g, k, none⟩ (.slice (some ⟨q, 0, none⟩) (ln k) (ln k + 4))) g n (k + 1) ln f (fun i => if i = k then q else G i) := by
  refine ⟨h.there.setCell _ _, ?_, ?_, ?_, ?_, ?_⟩
  · intro i hi hn
    by_cases e : i = k
    · subst e
      simp only [if_true]
      exact World.cell?_setCell_same' _ _ _ (h.there _ (by omega)).1
    · simp only [e, if_false]
      rw [World.cell?_setCell_other _ _ _ _ (by intro he; injection he; omega)]
      exact h.heads i (by omega) hn
  · intro i hi hn; omega
  · intro i hi
    by_cases e : i = k
    · simp only [e, if_true]; simpa using hq
    · simp only [e, if_false]; simpa using h.far i (by omega)
  · intro i hi hn
    by_cases e : i = k
    · subst e
      simp only [if_true]
      exact ho.setCell (by simp; omega) _
    · simp only [e, if_false]
      exact (h.own i (by omega) hn).setCell (by have := (h.far i (by omega)).1; simp; omega) _
  · intro i hi hn; omega

/-- One more header is stored: one of the four behind them. -/
theorem OwnHands.stepPad {w : World} {g n k q : Nat} {ln : Nat → Nat} {f : Nat → Nat → O3} {G : Nat → Nat} (h : OwnHands w g n k ln f G) (hk : n ≤ k) (hk' : k < n + 4) (hq : g < q ∧ q < w.heap.size) (ho : OpAt w q 0 (9, 0, 0)) :
    OwnHands (w.setCell ⟨g, k, none⟩ (.slice (some ⟨q, 0, none⟩) 1 1)) g n (k + 1) ln f (fun i => if i = k then q else G i) := by
  refine ⟨h.there.setCell _ _, ?_, ?_, ?_, ?_, ?_⟩
  · intro i hi hn
    have e : i ≠ k := by omega
    simp only [e, if_false]
    rw [World.cell?_setCell_other _ _ _ _ (by intro he; injection he; omega)]
    exact h.heads i (by omega) hn
  · intro i hi hn
    by_cases e : i = k
    · subst e
      simp only [if_true]
      exact World.cell?_setCell_same' _ _ _ (h.there _ (by omega)).1
    · simp only [e, if_false]
      rw [World.cell?_setCell_other _ _ _ _ (by intro he; injection he; omega)]
      exact h.pads i (by omega) hn
  · intro i hi
    by_cases e : i = k
    · simp only [e, if_true]; simpa using hq
    · simp only [e, if_false]; simpa using h.far i (by omega)
  · intro i hi hn
    have e : i ≠ k := by omega
    simp only [e, if_false]
    exact (h.own i (by omega) hn).setCell (by have := (h.far i (by omega)).1; simp; omega) _
  · intro i hi hn
    by_cases e : i = k
    · subst e
      simp only [if_true]
      exact opAt_setCell ho (by simp; omega) _
    · simp only [e, if_false]
      exact opAt_setCell (h.pad i (by omega) hn) (by have := (h.far i (by omega)).1; simp; omega) _

theorem info31 : (Tryz.prog.info? 31).map (fun i => (i.zero, i.size, i.bytes)) = some (some (.slice none 0 0), 1, 24) := by kernel_rfl

theorem make_hands (n : Nat) (hn : n * 24 ≤ 140737488351232) (w : World) : (Instr.makeSlice 25 (.int .i64 ((n : Int) + 4)) (.int .i64 ((n : Int) + 4))).run Tryz.prog w =
    .ok (.slice (some ⟨w.heap.size, 0, none⟩) (n + 4) (n + 4)) (w.alloc (.cells (madeCells #[.slice none 0 0] (n + 4)) 31)) := by
  have h := info31
  cases hi : Tryz.prog.info? 31 with
  | none => rw [hi] at h; cases h
  | some i =>
    rw [hi] at h
    simp only [Option.map_some, Option.some.injEq, Prod.mk.injEq] at h
    obtain ⟨hz, hs, hb⟩ := h
    have := run_make (P := Tryz.prog) w 25 31 i _ Tryz.underlying25 hi hz .i64 .i64 ((n : Int) + 4) ((n : Int) + 4) (by omega) (by omega) (by rw [hb]; omega) (by omega)
    rw [this, hs]
    have e : ((n : Int) + 4).toNat = n + 4 := by omega
    rw [e, Nat.mul_one]
    rfl

set_option maxHeartbeats 400000 in
theorem handlers_any (v : Value) (n : Nat) (ln : Nat → Nat) (f : Nat → Nat → O3) (w : World) (hv : HandsIn w v n ln f) :
    Calls Tryz.prog 66 #[v] w fun e w' => e = .returned (.slice (some ⟨w.heap.size, 0, none⟩) n (n + 4)) ∧ Below w.heap.size w w' ∧ w.heap.size < w'.heap.size ∧ ∃ G, OwnHands w' w.heap.size n (n + 4) ln f G := by
  obtain ⟨a, c, rfl, hn, hf⟩ := hv
  have hmk := make_hands n hn
  go_enter Tryz.func66, Tryz.ntmps66
  go_wp2
  go_loopw [4] (fun i wr => ∃ k : Nat, k ≤ n + 4 ∧ i = .int .i64 k ∧ Below w.heap.size w wr ∧ w.heap.size < wr.heap.size ∧ ∃ G, OwnHands wr w.heap.size n k ln f G) (fun i _ => n + 4 - (intOf i).toNat)
  case atStart =>
    exact ⟨0, Nat.zero_le _, rfl, (Below.refl _ _).alloc (Nat.le_refl _) _, by simp, fun _ => 0,
      ⟨writable_made _ _ _ _, fun i hi => absurd hi (Nat.not_lt_zero _), fun i hi => absurd hi (Nat.not_lt_zero _), fun i hi => absurd hi (Nat.not_lt_zero _), fun i hi => absurd hi (Nat.not_lt_zero _), fun i hi => absurd hi (Nat.not_lt_zero _)⟩⟩
  case round =>
    obtain ⟨k, hk, rfl, hb, hsz, G, hG⟩ := hrel
    by_cases hlt : k < n + 4
    · obtain ⟨t0, z0⟩ := hG.there k (by omega)
      obtain ⟨v0, c0⟩ := Option.isSome_iff_exists.1 t0
      clear t0
      have HF := hide hf
      clear hf
      by_cases hkn : k < n
      · rcases unhide HF with hz | ⟨b, off, rfl, hf⟩
        · omega
        obtain ⟨vi, g0, gi⟩ := hf k hkn
        have hlt' : b < w.heap.size := World.block_lt_of_cell? w _ g0
        rw [← hb.cell (p := ⟨b, _, none⟩) hlt'] at g0
        have hi : OpsIn wr vi (ln k) (f k) := opsIn_below hb gi
        clear hf
        go_wp2_with fail
        refine (ops_any vi (ln k) (f k) wr hi).mono ?_
        rintro e w1 ⟨rfl, hb1, hs1, ho1⟩
        have c1 : w1.cell? ⟨w.heap.size, k, none⟩ = some v0 := (hb1.cell (p := ⟨_, _, none⟩) hsz).trans c0
        have z1 : w1.frozen? ⟨w.heap.size, k, none⟩ = false := (hb1.frozen (p := ⟨_, _, none⟩) hsz).trans z0
        have hG1 := hG.below hb1 hsz (fun i hi => (hG.far i hi).2)
        have hb2 := hb.trans (hb1.mono (Nat.le_of_lt hsz))
        have hs2 : w.heap.size < w1.heap.size := by omega
        go_wp2
        go_roundw
        case rel =>
          exact ⟨k + 1, by omega, by go_num, hb2.setCell (Nat.le_refl _) _, by simpa using hs2, _, hG1.step hkn ⟨hsz, hs1⟩ ho1⟩
        case measure => simp [intOf]; omega
      · go_wp2
        go_roundw
        case rel =>
          have hb2 := hb.alloc (Nat.le_of_lt hsz) (.cells #[.int .i64 9, .int .i64 0, .int .i64 0] 70)
          have hb1 : Below wr.heap.size wr (wr.alloc (.cells #[.int .i64 9, .int .i64 0, .int .i64 0] 70)) := (Below.refl _ _).alloc (Nat.le_refl _) _
          have hG1 := hG.below hb1 hsz (fun i hi => (hG.far i hi).2)
          rw [← World.setCell_alloc_past _ _ _ _ hsz]
          refine ⟨k + 1, by omega, by go_num, hb2.setCell (Nat.le_refl _) _, by simp; omega, _, hG1.stepPad (by omega) hlt ⟨hsz, by simp⟩ ⟨by simp, by simp, by simp⟩⟩
        case measure => simp [intOf]; omega
    · go_wp2
      go_ret
      obtain rfl : k = n + 4 := by omega
      exact ⟨rfl, hb, hsz, G, hG⟩
end Go.Proofs.YtfmbebofllgmoaaGreatDoor
namespace Go.Proofs.YtfmbebofllgmoaaGreatDoor
open Go.RowKit

/-- Nothing but draws lies between two worlds. -/
def Dr (w w' : World) : Prop := ∃ m, w' = w.drewN m
theorem Dr.refl (w : World) : Dr w w := ⟨0, rfl⟩
theorem Dr.cell {w w' : World} (h : Dr w w') (a : Addr) : w'.cell? a = w.cell? a := by obtain ⟨m, rfl⟩ := h; simp
theorem Dr.more {w w' : World} (h : Dr w w') (k : Nat) : Dr w (w'.drewN k) := by
  obtain ⟨m, rfl⟩ := h
  exact ⟨m + k, by rw [World.drewN_drewN]⟩

set_option maxHeartbeats 400000 in
theorem sameOps_any (g n : Nat) (v : Value) (f : Nat → O3) (w : World) (hv : OpsIn w v n f) (ho : OwnOps w g (n + 4) (padF n f)) :
    Calls Tryz.prog 67 #[.slice (some ⟨g, 0, none⟩) n (n + 4), v] w fun e w' => e = .returned (.bool true) ∧ Dr w w' := by
  obtain ⟨a, c, rfl, hn, hf⟩ := hv
  have HF := hide hf
  clear hf
  have hn1 : (0 : Int) ≤ (n : Int) + 4 := by omega
  have hn2 : (n : Int) + 4 ≤ 140737488351232 := by omega
  go_enter Tryz.func67, Tryz.ntmps67
  go_wp2
  clear hn2 hn1
  go_loopw [6] (fun i wr => ∃ k : Nat, k ≤ n + 4 ∧ i = .int .i64 k ∧ Dr w wr) (fun i _ => n + 4 - (intOf i).toNat)
  case atStart => exact ⟨0, Nat.zero_le _, rfl, Dr.refl _⟩
  case round =>
    obtain ⟨k, hk, rfl, hd⟩ := hrel
    by_cases hlt : k < n + 4
    · obtain ⟨o0, o1, o2⟩ := ho.cells k hlt
      rw [← hd.cell] at o0 o1 o2
      by_cases hkn : k < n
      · rcases unhide HF with hz | ⟨b, off, rfl, hf⟩
        · omega
        obtain ⟨g0, g1, g2⟩ := hf k hkn
        rw [← hd.cell] at g0 g1 g2
        clear hf
        have ep : padF n f k = f k := by simp [padF, hkn]
        rw [ep] at o0 o1 o2
        clear ep
        generalize f k = x at *
        have hk0 : (0 : Int) ≤ (k : Int) := by omega
        have hk1 : (k : Int) < (n : Int) := by omega
        have hk2 : (k : Int) < (n : Int) + 4 := by omega
        go_wp2
        go_quiet (fail)
        go_wp2
        go_roundw
        case rel => exact ⟨k + 1, by omega, by go_num, hd.more _⟩
        case measure => simp [intOf]; omega
      · have ep : padF n f k = (9, 0, 0) := by simp [padF, hkn]
        rw [ep] at o0 o1 o2
        clear ep
        have hg : decide ((k : Int) < (n : Int)) = false := by simp; omega
        have hk0 : (0 : Int) ≤ (k : Int) := by omega
        have hk2 : (k : Int) < (n : Int) + 4 := by omega
        go_wp2
        go_quiet (fail)
        go_wp2
        go_roundw
        case rel => exact ⟨k + 1, by omega, by go_num, hd.more _⟩
        case measure => simp [intOf]; omega
    · go_wp2
      go_ret
      exact ⟨by simp, hd⟩

theorem opAt_dr {w w' : World} (h : Dr w w') {b o : Nat} {x : O3} (hx : OpAt w b o x) : OpAt w' b o x := by
  obtain ⟨m, rfl⟩ := h; exact hx
theorem opsIn_dr {w w' : World} (h : Dr w w') {v : Value} {n : Nat} {f : Nat → O3} (hx : OpsIn w v n f) : OpsIn w' v n f := by
  obtain ⟨m, rfl⟩ := h; exact hx
theorem handsIn_dr {w w' : World} (h : Dr w w') {v : Value} {n : Nat} {ln : Nat → Nat} {f : Nat → Nat → O3} (hx : HandsIn w v n ln f) : HandsIn w' v n ln f := by
  obtain ⟨m, rfl⟩ := h; exact hx
theorem OwnOps.dr {w w' : World} {g m : Nat} {f : Nat → O3} (hx : OwnOps w g m f) (h : Dr w w') : OwnOps w' g m f := by
  obtain ⟨k, rfl⟩ := h; exact ⟨hx.there, hx.cells⟩
theorem Dr.trans {w w' w'' : World} (h : Dr w w') (h' : Dr w' w'') : Dr w w'' := by obtain ⟨k, rfl⟩ := h'; exact h.more k

set_option maxHeartbeats 400000 in
theorem sameHandlers_any (g n : Nat) (G : Nat → Nat) (v : Value) (ln : Nat → Nat) (f : Nat → Nat → O3) (w : World) (hv : HandsIn w v n ln f) (ho : OwnHands w g n (n + 4) ln f G) :
    Calls Tryz.prog 68 #[.slice (some ⟨g, 0, none⟩) n (n + 4), v] w fun e w' => e = .returned (.bool true) ∧ Dr w w' := by
  obtain ⟨a, c, rfl, hn, hf⟩ := hv
  have HF := hide hf
  clear hf
  have hn1 : (0 : Int) ≤ (n : Int) + 4 := by omega
  have hn2 : (n : Int) + 4 ≤ 140737488351232 := by omega
  go_enter Tryz.func68, Tryz.ntmps68
  go_wp2
  clear hn2 hn1
  go_loopw [6] (fun i wr => ∃ k : Nat, k ≤ n + 4 ∧ i = .int .i64 k ∧ Dr w wr) (fun i _ => n + 4 - (intOf i).toNat)
  case atStart => exact ⟨0, Nat.zero_le _, rfl, Dr.refl _⟩
  case round =>
    obtain ⟨k, hk, rfl, hd⟩ := hrel
    by_cases hlt : k < n + 4
    · by_cases hkn : k < n
      · rcases unhide HF with hz | ⟨b, off, rfl, hf⟩
        · omega
        obtain ⟨vi, g0, gi⟩ := hf k hkn
        clear hf
        have o0 := ho.heads k hlt hkn
        have oi := ho.own k hlt hkn
        rw [← hd.cell] at g0 o0
        have hk0 : (0 : Int) ≤ (k : Int) := by omega
        have hk1 : (k : Int) < (n : Int) := by omega
        have hk2 : (k : Int) < (n : Int) + 4 := by omega
        go_wp2
        go_quiet ((go_at_call 67; exact Calls.quiet_of (sameOps_any (G k) (ln k) vi (f k) _ (opsIn_dr (hd.more _) gi) (oi.dr (hd.more _)))))
        go_wp2
        go_roundw
        case rel => exact ⟨k + 1, by omega, by go_num, hd.more _⟩
        case measure => simp [intOf]; omega
      · have o0 := ho.pads k hlt (by omega)
        obtain ⟨p0, p1, p2⟩ := ho.pad k hlt (by omega)
        rw [← hd.cell] at o0 p0 p1 p2
        go_wp2
        go_roundw
        case rel => exact ⟨k + 1, by omega, by go_num, hd⟩
        case measure => simp [intOf]; omega
    · go_wp2
      go_ret
      exact ⟨by simp, hd⟩
end Go.Proofs.YtfmbebofllgmoaaGreatDoor
namespace Go.Proofs.YtfmbebofllgmoaaGreatDoor
open Go.RowKit
/-- The table 'meanings' in memory. -/
def TabIn (w : World) : Prop := ∀ c : Int, 1 ≤ c → c < 12 → w.cell? ⟨0, c.toNat * 2, none⟩ = some (.int .i64 (tabA c)) ∧ w.cell? ⟨0, c.toNat * 2 + 1, none⟩ = some (.int .i64 (tabB c))

theorem bl2 {w : World} (o1 o2 : Obj) : Below w.heap.size w ((w.alloc o1).alloc o2) := ((Below.refl _ _).alloc (Nat.le_refl _) _).alloc (by simp) _
theorem bl3 {w : World} (o1 o2 o3 : Obj) : Below w.heap.size w (((w.alloc o1).alloc o2).alloc o3) := (bl2 o1 o2).alloc (by simp; omega) _
theorem bl4 {w : World} (o1 o2 o3 o4 : Obj) : Below w.heap.size w ((((w.alloc o1).alloc o2).alloc o3).alloc o4) := (bl3 o1 o2 o3).alloc (by simp; omega) _
theorem bl5 {w : World} (o1 o2 o3 o4 o5 : Obj) : Below w.heap.size w (((((w.alloc o1).alloc o2).alloc o3).alloc o4).alloc o5) := (bl4 o1 o2 o3 o4).alloc (by simp; omega) _

set_option maxHeartbeats 400000 in
theorem cright_any (c a b : Int) (v1 : Value) (a2 a3 : Option Addr) (nt c2 nf c3 : Nat) (w : World) (ht : TabIn w) :
    Calls Tryz.prog 51 #[.agg #[.int .i64 c, .int .i64 a, .int .i64 b], .agg #[v1, .slice a2 nt c2, .slice a3 nf c3]] w fun e w' => e = .returned (.bool (rightB c a b nt nf)) ∧ Below w.heap.size w w' := by
  by_cases hc : 1 ≤ c
  · by_cases hc' : c < 12
    · have hc0 : (0:Int) ≤ c := by omega
      obtain ⟨h1, h2⟩ := ht c hc hc'
      clear ht
      have hb : 0 < w.heap.size := World.block_lt_of_cell? w _ h1
      generalize hA : tabA c = tA at h1
      generalize hB : tabB c = tB at h2
      have e0 : rightB c a b nt nf = (fitsB a tA nt nf && fitsB b tB nt nf) := by
        simp [rightB, hc, hc', hA, hB]
      rw [e0]
      clear e0 hA hB
      cases hf : fitsB a tA nt nf
      all_goals
        go_enter Tryz.func51, Tryz.ntmps51
        go_wp2_with (go_at_call 82; refine (fits_any _ _ _ _ _ _ _ _ _ _).mono ?_; rintro e w' ⟨rfl, rfl⟩)
        go_ret
        exact ⟨ret_bool (by simp), by first | exact bl5 _ _ _ _ _ | exact bl4 _ _ _ _⟩
    · have e0 : rightB c a b nt nf = false := by simp [rightB, hc']
      rw [e0]
      go_enter Tryz.func51, Tryz.ntmps51
      go_wp2
      go_ret
      exact ⟨rfl, bl2 _ _⟩
  · have e0 : rightB c a b nt nf = false := by simp [rightB, hc]
    rw [e0]
    go_enter Tryz.func51, Tryz.ntmps51
    go_wp2
    go_ret
    exact ⟨rfl, bl2 _ _⟩
end Go.Proofs.YtfmbebofllgmoaaGreatDoor
namespace Go.Proofs.YtfmbebofllgmoaaGreatDoor
open Go.RowKit

theorem bcel {B : Nat} {w w' : World} (h : Below B w w') (b o : Nat) (hb : b < B) : w'.cell? ⟨b, o, none⟩ = w.cell? ⟨b, o, none⟩ := h.cell (p := ⟨b, o, none⟩) hb
theorem bfro {B : Nat} {w w' : World} (h : Below B w w') (b o : Nat) (hb : b < B) : w'.frozen? ⟨b, o, none⟩ = w.frozen? ⟨b, o, none⟩ := h.frozen (p := ⟨b, o, none⟩) hb

theorem OwnHands.setCell {w : World} {g n k : Nat} {ln : Nat → Nat} {f : Nat → Nat → O3} {G : Nat → Nat} (h : OwnHands w g n k ln f G) {a : Addr} (hne : a.block < g) (v : Value) : OwnHands (w.setCell a v) g n k ln f G := by
  have e : ∀ o, a ≠ ⟨g, o, none⟩ := fun o he => by rw [he] at hne; exact absurd hne (Nat.lt_irrefl _)
  exact ⟨h.there.setCell _ _, fun i hi hn => (World.cell?_setCell_other _ _ _ _ (e _)).trans (h.heads i hi hn), fun i hi hn => (World.cell?_setCell_other _ _ _ _ (e _)).trans (h.pads i hi hn),
    fun i hi => by simpa using h.far i hi, fun i hi hn => (h.own i hi hn).setCell (by have := (h.far i hi).1; omega) _, fun i hi hn => opAt_setCell (h.pad i hi hn) (by have := (h.far i hi).1; omega) _⟩

theorem keep3 {w : World} {g o : Nat} {v : Value} (x y z : Value) (h : w.cell? ⟨g, o, none⟩ = some v) :
    (((w.setCell ⟨g + 1, 0, none⟩ x).setCell ⟨g + 1, 1, none⟩ y).setCell ⟨g + 1, 2, none⟩ z).cell? ⟨g, o, none⟩ = some v := by
  rw [World.cell?_setCell_other _ _ _ _ (by simp), World.cell?_setCell_other _ _ _ _ (by simp), World.cell?_setCell_other _ _ _ _ (by simp)]
  exact h

set_option maxHeartbeats 1000000 in
theorem program_any (v1 v2 v3 : Value) (ns nt nf : Nat) (s : Nat → O3) (tl fl : Nat → Nat) (t f : Nat → Nat → O3) (w : World) (h1 : OpsIn w v1 ns s) (h2 : HandsIn w v2 nt tl t) (h3 : HandsIn w v3 nf fl f) :
    Calls Tryz.prog 39 #[.agg #[v1, v2, v3]] w fun e w' => ∃ g1 g2 g3 G2 G3, e = .returned (.agg #[.slice (some ⟨g1, 0, none⟩) ns (ns + 4), .slice (some ⟨g2, 0, none⟩) nt (nt + 4), .slice (some ⟨g3, 0, none⟩) nf (nf + 4)]) ∧
      Below w.heap.size w w' ∧ w.heap.size ≤ g1 ∧ g1 < g2 ∧ g2 < g3 ∧ (∀ i, i < nt + 4 → G2 i < g3) ∧ OwnOps w' g1 (ns + 4) (padF ns s) ∧ OwnHands w' g2 nt (nt + 4) tl t G2 ∧ OwnHands w' g3 nf (nf + 4) fl f G3 := by
  obtain ⟨W0, hW⟩ : ∃ W0, W0 = ((w.alloc (.cells #[v1, v2, v3] 33)).alloc (.cells #[.slice none 0 0, .slice none 0 0, .slice none 0 0] 33)).drew := ⟨_, rfl⟩
  have hB0 : Below w.heap.size w W0 := by subst hW; exact (bl2 _ _).drew
  have hsz : W0.heap.size = w.heap.size + 2 := by subst hW; simp
  have c00 : W0.cell? ⟨w.heap.size, 0, none⟩ = some v1 := by subst hW; simp
  have c01 : W0.cell? ⟨w.heap.size, 1, none⟩ = some v2 := by subst hW; simp
  have c02 : W0.cell? ⟨w.heap.size, 2, none⟩ = some v3 := by subst hW; simp
  have d0 : ∀ j, j < 3 → W0.cell? ⟨w.heap.size + 1, j, none⟩ = some (.slice none 0 0) ∧ W0.frozen? ⟨w.heap.size + 1, j, none⟩ = false := by
    subst hW
    intro j hj
    have : j = 0 ∨ j = 1 ∨ j = 2 := by omega
    rcases this with rfl | rfl | rfl <;> simp
  have HW := hide hW
  have HS := hide hsz
  have H1 := hide h1
  have H2 := hide h2
  have H3 := hide h3
  have HD := hide d0
  clear hsz h1 h2 h3 d0 hW
  go_enter Tryz.func39, Tryz.ntmps39
  go_wp2
  go_region_held3 (fun w' => w'.cell? ⟨w.heap.size, 0, none⟩ = some v1 ∧ w'.cell? ⟨w.heap.size, 1, none⟩ = some v2 ∧ w'.cell? ⟨w.heap.size, 2, none⟩ = some v3) (first | with_reducible exact ⟨e0, e1, e2⟩ | with_reducible exact ⟨f0, f1, f2⟩ | with_reducible exact ⟨k0, k1, k2⟩ | with_reducible exact ⟨keep3 _ _ _ k0, keep3 _ _ _ k1, keep3 _ _ _ k2⟩ | (simp [go_sem, World.cell?_alloc_past]; done))
    (first
      | (go_at_call 65; rw [← unhide HW]; refine (ops_any v1 ns s W0 (opsIn_below hB0 (unhide H1))).mono ?_; rintro e w1 ⟨rfl, hb1, hs1, ho1⟩
         have hsz := unhide HS
         have e0 : w1.cell? ⟨w.heap.size, 0, none⟩ = some v1 := (bcel hb1 _ _ (by omega)).trans c00
         have e1 : w1.cell? ⟨w.heap.size, 1, none⟩ = some v2 := (bcel hb1 _ _ (by omega)).trans c01
         have e2 : w1.cell? ⟨w.heap.size, 2, none⟩ = some v3 := (bcel hb1 _ _ (by omega)).trans c02
         have hB1 : Below w.heap.size w w1 := hB0.trans (hb1.mono (by omega))
         clear hsz)
      | (go_at_call_of 66 v2; refine (handlers_any v2 nt tl t w1 (handsIn_below hB1 (unhide H2))).mono ?_; rintro e w2 ⟨rfl, hb2, hs2, G2, hG2⟩
         have hsz := unhide HS
         have f0 : w2.cell? ⟨w.heap.size, 0, none⟩ = some v1 := (bcel hb2 _ _ (by omega)).trans e0
         have f1 : w2.cell? ⟨w.heap.size, 1, none⟩ = some v2 := (bcel hb2 _ _ (by omega)).trans e1
         have f2 : w2.cell? ⟨w.heap.size, 2, none⟩ = some v3 := (bcel hb2 _ _ (by omega)).trans e2
         have hB2 : Below w.heap.size w w2 := hB1.trans (hb2.mono (by omega))
         clear hsz)
      | (go_at_call_of 66 v3; refine (handlers_any v3 nf fl f w2 (handsIn_below hB2 (unhide H3))).mono ?_; rintro e w3 ⟨rfl, hb3, hs3, G3, hG3⟩
         have hsz := unhide HS
         have k0 : w3.cell? ⟨w.heap.size, 0, none⟩ = some v1 := (bcel hb3 _ _ (by omega)).trans f0
         have k1 : w3.cell? ⟨w.heap.size, 1, none⟩ = some v2 := (bcel hb3 _ _ (by omega)).trans f1
         have k2 : w3.cell? ⟨w.heap.size, 2, none⟩ = some v3 := (bcel hb3 _ _ (by omega)).trans f2
         have hB3 : Below w.heap.size w w3 := hB2.trans (hb3.mono (by omega))
         have hb03 : Below W0.heap.size W0 w3 := (hb1.trans (hb2.mono (by omega))).trans (hb3.mono (by omega))
         have l0 : w3.cell? ⟨w.heap.size + 1, 0, none⟩ = some (.slice none 0 0) := (bcel hb03 _ _ (by omega)).trans (unhide HD 0 (by omega)).1
         have l1 : w3.cell? ⟨w.heap.size + 1, 1, none⟩ = some (.slice none 0 0) := (bcel hb03 _ _ (by omega)).trans (unhide HD 1 (by omega)).1
         have l2 : w3.cell? ⟨w.heap.size + 1, 2, none⟩ = some (.slice none 0 0) := (bcel hb03 _ _ (by omega)).trans (unhide HD 2 (by omega)).1
         have m0 : w3.frozen? ⟨w.heap.size + 1, 0, none⟩ = false := (bfro hb03 _ _ (by omega)).trans (unhide HD 0 (by omega)).2
         have m1 : w3.frozen? ⟨w.heap.size + 1, 1, none⟩ = false := (bfro hb03 _ _ (by omega)).trans (unhide HD 1 (by omega)).2
         have m2 : w3.frozen? ⟨w.heap.size + 1, 2, none⟩ = false := (bfro hb03 _ _ (by omega)).trans (unhide HD 2 (by omega)).2
         clear hsz))
  go_wp2
  have hsz := unhide HS
  refine bodyPost_ret (v := .agg #[.slice (some ⟨W0.heap.size, 0, none⟩) ns (ns + 4), .slice (some ⟨w1.heap.size, 0, none⟩) nt (nt + 4), .slice (some ⟨w2.heap.size, 0, none⟩) nf (nf + 4)]) ?_ rfl ⟨W0.heap.size, w1.heap.size, w2.heap.size, G2, G3, rfl, ?_, by omega, hs1, hs2, fun i hi => (hG2.far i hi).2, ?_, ?_, ?_⟩
  · simp [results, Tryz.results39, go_sem, l0, l1, l2]
  · exact ((hB3.setCell (by simp) _).setCell (by simp) _).setCell (by simp) _
  · exact ((((ho1.below hb2 hs1).below hb3 (by omega)).setCell (by simp; omega) _).setCell (by simp; omega) _).setCell (by simp; omega) _
  · exact (((hG2.below hb3 hs2 (fun i hi => (hG2.far i hi).2)).setCell (by simp; omega) _).setCell (by simp; omega) _).setCell (by simp; omega) _
  · exact ((hG3.setCell (by simp; omega) _).setCell (by simp; omega) _).setCell (by simp; omega) _
end Go.Proofs.YtfmbebofllgmoaaGreatDoor
namespace Go.Proofs.YtfmbebofllgmoaaGreatDoor
open Go.RowKit

/-- What 'still' may lean on while it writes over the copy: q's block is written, the headers stay. -/
structure StillInv (B : Nat) (w wr : World) (x g1 g2 g3 ns nt nf : Nat) (tl fl G2 G3 : Nat → Nat) : Prop where
  below : Below B w wr
  size : w.heap.size ≤ wr.heap.size
  c0 : wr.cell? ⟨x, 0, none⟩ = some (.slice (some ⟨g1, 0, none⟩) ns (ns + 4))
  c1 : wr.cell? ⟨x, 1, none⟩ = some (.slice (some ⟨g2, 0, none⟩) nt (nt + 4))
  c2 : wr.cell? ⟨x, 2, none⟩ = some (.slice (some ⟨g3, 0, none⟩) nf (nf + 4))
  h2 : ∀ i, i < nt → wr.cell? ⟨g2, i, none⟩ = some (.slice (some ⟨G2 i, 0, none⟩) (tl i) (tl i + 4))
  h3 : ∀ i, i < nf → wr.cell? ⟨g3, i, none⟩ = some (.slice (some ⟨G3 i, 0, none⟩) (fl i) (fl i + 4))
  w1 : Writable wr g1 (ns * 3)
  w2 : ∀ i, i < nt → Writable wr (G2 i) (tl i * 3)
  w3 : ∀ i, i < nf → Writable wr (G3 i) (fl i * 3)

theorem Wiped.cell {q : Nat} {w w' : World} (h : Wiped q w w') {b o : Nat} (hb : b ≠ q) : w'.cell? ⟨b, o, none⟩ = w.cell? ⟨b, o, none⟩ := World.cell?_of_block (w := w) (h.block b hb)
theorem Wiped.writable {q g m : Nat} {w w' : World} (h : Wiped q w w') (hw : Writable w g m) : Writable w' g m :=
  fun k hk => ⟨h.there _ (hw k hk).1, (h.frozen _).trans (hw k hk).2⟩
theorem Wiped.below {q B : Nat} {w w' : World} (h : Wiped q w w') (hq : B ≤ q) : Below B w w' :=
  ⟨h.os, h.tape, h.output, Nat.le_of_eq h.size.symm, fun k hk => h.block k (by omega)⟩

theorem StillInv.wiped {B : Nat} {w wr w' : World} {x g1 g2 g3 ns nt nf q : Nat} {tl fl G2 G3 : Nat → Nat} (h : StillInv B w wr x g1 g2 g3 ns nt nf tl fl G2 G3) (hw : Wiped q wr w') (hB : B ≤ q) (hx : x ≠ q) (h2 : g2 ≠ q) (h3 : g3 ≠ q) :
    StillInv B w w' x g1 g2 g3 ns nt nf tl fl G2 G3 :=
  ⟨h.below.trans (hw.below hB), by rw [hw.size]; exact h.size, (hw.cell hx).trans h.c0, (hw.cell hx).trans h.c1, (hw.cell hx).trans h.c2, fun i hi => (hw.cell h2).trans (h.h2 i hi), fun i hi => (hw.cell h3).trans (h.h3 i hi),
    hw.writable h.w1, fun i hi => hw.writable (h.w2 i hi), fun i hi => hw.writable (h.w3 i hi)⟩

theorem Dr.below {w w' : World} (B : Nat) (h : Dr w w') : Below B w w' := by
  obtain ⟨m, rfl⟩ := h
  exact ⟨rfl, rfl, rfl, Nat.le_refl _, fun _ _ => rfl⟩
theorem OwnHands.dr {w w' : World} {g n k : Nat} {ln : Nat → Nat} {f : Nat → Nat → O3} {G : Nat → Nat} (h : OwnHands w g n k ln f G) (hd : Dr w w') : OwnHands w' g n k ln f G := by
  obtain ⟨m, rfl⟩ := hd
  exact ⟨h.there, h.heads, h.pads, h.far, fun i hi hn => ⟨(h.own i hi hn).there, (h.own i hi hn).cells⟩, h.pad⟩

theorem opsIn_len {w : World} {v : Value} {n : Nat} {f : Nat → O3} (h : OpsIn w v n f) : n * 24 ≤ 140737488351232 := by obtain ⟨_, _, _, h, _⟩ := h; exact h
theorem handsIn_len {w : World} {v : Value} {n : Nat} {ln : Nat → Nat} {f : Nat → Nat → O3} (h : HandsIn w v n ln f) : n * 24 ≤ 140737488351232 := by obtain ⟨_, _, _, h, _⟩ := h; exact h
theorem handsIn_each {w : World} {v : Value} {n : Nat} {ln : Nat → Nat} {f : Nat → Nat → O3} (h : HandsIn w v n ln f) : ∀ i, i < n → ln i * 24 ≤ 140737488351232 := by
  obtain ⟨_, _, _, _, h⟩ := h
  intro i hi
  rcases h with h | ⟨b, off, _, h⟩
  · omega
  · obtain ⟨vi, _, hv⟩ := h i hi; exact opsIn_len hv

theorem StillInv.dr {B : Nat} {w wr w' : World} {x g1 g2 g3 ns nt nf : Nat} {tl fl G2 G3 : Nat → Nat} (h : StillInv B w wr x g1 g2 g3 ns nt nf tl fl G2 G3) (hd : Dr wr w') : StillInv B w w' x g1 g2 g3 ns nt nf tl fl G2 G3 := by
  obtain ⟨m, rfl⟩ := hd
  exact ⟨h.below.trans (Dr.below B ⟨m, rfl⟩), h.size, h.c0, h.c1, h.c2, h.h2, h.h3, h.w1, h.w2, h.w3⟩

set_option maxHeartbeats 1000000 in
theorem still_any (B : Nat) (v1 v2 v3 : Value) (g1 g2 g3 ns nt nf : Nat) (s : Nat → O3) (tl fl G2 G3 : Nat → Nat) (t f : Nat → Nat → O3) (w : World) (h1 : OpsIn w v1 ns s) (h2 : HandsIn w v2 nt tl t) (h3 : HandsIn w v3 nf fl f)
    (ho1 : OwnOps w g1 (ns + 4) (padF ns s)) (ho2 : OwnHands w g2 nt (nt + 4) tl t G2) (ho3 : OwnHands w g3 nf (nf + 4) fl f G3) (hB : B ≤ g1) (h12 : g1 < g2) (h23 : g2 < g3) (hG : ∀ i, i < nt + 4 → G2 i < g3) :
    Calls Tryz.prog 40 #[.agg #[.slice (some ⟨g1, 0, none⟩) ns (ns + 4), .slice (some ⟨g2, 0, none⟩) nt (nt + 4), .slice (some ⟨g3, 0, none⟩) nf (nf + 4)], .agg #[v1, v2, v3]] w fun e w' => e = .returned (.bool true) ∧ Below B w w' := by
  have ln1 := opsIn_len h1
  have ln2 := handsIn_len h2
  have ln3 := handsIn_len h3
  have l2 := handsIn_each h2
  have l3 := handsIn_each h3
  obtain ⟨W0, hW⟩ : ∃ W0, W0 = (w.alloc (.cells #[.slice (some ⟨g1, 0, none⟩) ns (ns + 4), .slice (some ⟨g2, 0, none⟩) nt (nt + 4), .slice (some ⟨g3, 0, none⟩) nf (nf + 4)] 33)).alloc (.cells #[v1, v2, v3] 33) := ⟨_, rfl⟩
  have hB0 : Below w.heap.size w W0 := by subst hW; exact bl2 _ _
  have hg1 : g1 < w.heap.size := opAt_lt (ho1.cells 0 (by omega))
  have hg2 : g2 < w.heap.size := World.block_lt_of_cell? w ⟨g2, nt, none⟩ (ho2.pads nt (by omega) (by omega))
  have hg3 : g3 < w.heap.size := World.block_lt_of_cell? w ⟨g3, nf, none⟩ (ho3.pads nf (by omega) (by omega))
  have i1 := opsIn_below hB0 h1
  have i2 := handsIn_below hB0 h2
  have i3 := handsIn_below hB0 h3
  have j1 := ho1.below hB0 hg1
  have j2 := ho2.below hB0 hg2 (fun i hi => (ho2.far i hi).2)
  have j3 := ho3.below hB0 hg3 (fun i hi => (ho3.far i hi).2)
  have inv0 : StillInv B w W0 w.heap.size g1 g2 g3 ns nt nf tl fl G2 G3 :=
    ⟨hB0.mono (by omega), hB0.size, by subst hW; simp, by subst hW; simp, by subst hW; simp, fun i hi => j2.heads i (by omega) hi, fun i hi => j3.heads i (by omega) hi,
      fun k hk => j1.there k (by omega), fun i hi k hk => (j2.own i (by omega) hi).there k (by omega), fun i hi k hk => (j3.own i (by omega) hi).there k (by omega)⟩
  have far2 : ∀ i, i < nt → g2 < G2 i ∧ G2 i < g3 := fun i hi => ⟨(ho2.far i (by omega)).1, hG i (by omega)⟩
  have far3 : ∀ i, i < nf → g3 < G3 i ∧ G3 i < w.heap.size := fun i hi => ho3.far i (by omega)
  have b0 : W0.cell? ⟨w.heap.size + 1, 0, none⟩ = some v1 := by subst hW; simp
  have b1 : W0.cell? ⟨w.heap.size + 1, 1, none⟩ = some v2 := by subst hW; simp
  have b2 : W0.cell? ⟨w.heap.size + 1, 2, none⟩ = some v3 := by subst hW; simp
  have HW := hide hW
  clear ho1 ho2 ho3 h1 h2 h3 hG hW
  go_enter Tryz.func40, Tryz.ntmps40
  go_wp2_with fail
  rw [← unhide HW]
  clear HW
  refine (sameOps_any g1 ns v1 s W0 i1 j1).mono ?_
  rintro e w1 ⟨rfl, hd1⟩
  have inv1 := inv0.dr hd1
  have a0 := inv1.c0; have a1 := inv1.c1; have a2 := inv1.c2
  rw [← hd1.cell] at b0 b1 b2
  go_wp2_with fail
  refine (sameHandlers_any g2 nt G2 v2 tl t w1 (handsIn_dr hd1 i2) (j2.dr hd1)).mono ?_
  rintro e w2 ⟨rfl, hd2⟩
  have inv2 := inv1.dr hd2
  clear a0 a1 a2
  have a0 := inv2.c0; have a1 := inv2.c1; have a2 := inv2.c2
  rw [← hd2.cell] at b0 b1 b2
  go_wp2_with fail
  refine (sameHandlers_any g3 nf G3 v3 fl f w2 (handsIn_dr (hd1.trans hd2) i3) (j3.dr (hd1.trans hd2))).mono ?_
  rintro e w3 ⟨rfl, hd3⟩
  have inv3 := inv2.dr hd3
  clear a0 a1 a2 b0 b1 b2 i1 i2 i3 j1 j2 j3
  have a0 := inv3.c0; have a1 := inv3.c1; have a2 := inv3.c2
  go_wp2_with fail
  refine (wipe_any g1 ns (ns + 4) w3 (by omega) inv3.w1).mono ?_
  rintro e w4 ⟨rfl, hw4⟩
  have inv4 := inv3.wiped hw4 hB (by omega) (by omega) (by omega)
  clear a0 a1 a2 inv0 inv1 inv2 inv3 hd1 hd2 hd3 hw4
  go_wp2
  go_loopw [8] (fun i wr => ∃ k : Nat, k ≤ nt ∧ i = .int .i64 k ∧ StillInv B w wr w.heap.size g1 g2 g3 ns nt nf tl fl G2 G3) (fun i _ => nt - (intOf i).toNat)
  case atStart => exact ⟨0, Nat.zero_le _, rfl, inv4⟩
  case round =>
    obtain ⟨k, hk, rfl, inv⟩ := hrel
    have a0 := inv.c0; have a1 := inv.c1; have a2 := inv.c2
    by_cases hlt : k < nt
    · have hh := inv.h2 k hlt
      obtain ⟨p1, p2⟩ := far2 k hlt
      have hl := l2 k hlt
      go_wp2_with fail
      refine (wipe_any (G2 k) (tl k) (tl k + 4) wr (by omega) (inv.w2 k hlt)).mono ?_
      rintro e w5 ⟨rfl, hw5⟩
      have inv5 := inv.wiped hw5 (by omega) (by omega) (by omega) (by omega)
      go_wp2
      go_roundw
      case rel => exact ⟨k + 1, by omega, by go_num, inv5⟩
      case measure => simp [intOf]; omega
    · go_wp2
      clear a0 a1 a2
      go_loopw [9] (fun i wr => ∃ k : Nat, k ≤ nf ∧ i = .int .i64 k ∧ StillInv B w wr w.heap.size g1 g2 g3 ns nt nf tl fl G2 G3) (fun i _ => nf - (intOf i).toNat)
      case atStart => exact ⟨0, Nat.zero_le _, rfl, inv⟩
      case round =>
        obtain ⟨k', hk', rfl, inv'⟩ := hrel
        have a0 := inv'.c0; have a1 := inv'.c1; have a2 := inv'.c2
        by_cases hlt' : k' < nf
        · have hh := inv'.h3 k' hlt'
          obtain ⟨p1, p2⟩ := far3 k' hlt'
          have hl := l3 k' hlt'
          go_wp2_with fail
          refine (wipe_any (G3 k') (fl k') (fl k' + 4) _ (by omega) (inv'.w3 k' hlt')).mono ?_
          rintro e w6 ⟨rfl, hw6⟩
          have inv6 := inv'.wiped hw6 (by omega) (by omega) (by omega) (by omega)
          go_wp2
          go_roundw
          case rel => exact ⟨k' + 1, by omega, by go_num, inv6⟩
          case measure => simp [intOf]; omega
        · go_wp2
          go_ret
          exact ⟨rfl, inv'.below⟩
end Go.Proofs.YtfmbebofllgmoaaGreatDoor
namespace Go.Proofs.YtfmbebofllgmoaaGreatDoor
open Go.RowKit

/-- The list 'a, and behind its first n the list b'. -/
def cat {α : Type} (n : Nat) (a b : Nat → α) : Nat → α := fun i => if i < n then a i else b (i - n)

/-- A list of handlers that the call itself has built since the world w0. -/
def OwnH (w0 w : World) (v : Value) (n : Nat) (l : Nat → Nat) (f : Nat → Nat → O3) : Prop :=
  ∃ xs, w.ownsRow w0.heap.size 31 1 v n xs ∧ ∀ i, i < n → ∃ vi, xs[i]? = some vi ∧ OpsIn w0 vi (l i) (f i)

theorem ownH_nil (w0 w : World) (l : Nat → Nat) (f : Nat → Nat → O3) : OwnH w0 w (.slice none 0 0) 0 l f :=
  ⟨[], World.ownsRow_nil _ _ _ _, fun _ hi => absurd hi (Nat.not_lt_zero _)⟩

theorem ownH_form {w0 w : World} {v : Value} {n : Nat} {l : Nat → Nat} {f : Nat → Nat → O3} (h : OwnH w0 w v n l f) (hb : Below w0.heap.size w0 w) (hn : 0 < n) :
    ∃ g cap, v = .slice (some ⟨g, 0, none⟩) n cap ∧ ∀ i, i < n → ∃ vi, w.cell? ⟨g, i, none⟩ = some vi ∧ OpsIn w vi (l i) (f i) := by
  obtain ⟨xs, ho, hi⟩ := h
  obtain ⟨g, cap, rfl, _, _⟩ := ho.form hn
  refine ⟨g, cap, rfl, fun i hin => ?_⟩
  obtain ⟨vi, h1, h2⟩ := hi i hin
  have hc := ho.cells (g := g) rfl i vi h1
  have hadd : (⟨g, 0, none⟩ : Addr).add i = ⟨g, i, none⟩ := by unfold Addr.add; split <;> simp_all
  rw [hadd] at hc
  exact ⟨vi, hc, opsIn_below hb h2⟩

theorem choose_list (n : Nat) (P : Nat → Value → Prop) (h : ∀ i, i < n → ∃ v, P i v) : ∃ xs : List Value, xs.length = n ∧ ∀ i, i < n → ∃ v, xs[i]? = some v ∧ P i v := by
  induction n with
  | zero => exact ⟨[], rfl, fun i hi => absurd hi (Nat.not_lt_zero _)⟩
  | succ n ih =>
    obtain ⟨xs, hl, hx⟩ := ih (fun i hi => h i (by omega))
    obtain ⟨v, hv⟩ := h n (by omega)
    refine ⟨xs ++ [v], by simp [hl], fun i hi => ?_⟩
    by_cases e : i = n
    · subst e
      exact ⟨v, by rw [List.getElem?_append_right (by omega)]; simp [hl], hv⟩
    · obtain ⟨u, h1, h2⟩ := hx i (by omega)
      exact ⟨u, by rw [List.getElem?_append_left (by omega)]; exact h1, h2⟩

theorem info31' : ∃ i, Tryz.prog.info? 31 = some i ∧ i.zero = some (.slice none 0 0) ∧ i.size = 1 ∧ i.bytes = 24 := by
  have h := info31
  cases hi : Tryz.prog.info? 31 with
  | none => rw [hi] at h; cases h
  | some i =>
    rw [hi] at h
    simp only [Option.map_some, Option.some.injEq, Prod.mk.injEq] at h
    exact ⟨i, rfl, h.1, h.2.1, h.2.2⟩

theorem run_append_none (w : World) (ty : TypeId) (base : Nat) (v : Value) (n c : Nat) (xs : List Value) (hown : w.ownsRow base 31 1 v n xs) :
    (Builtin.append_ #[25, 25] ty #[v, .slice none 0 c]).run Tryz.prog w = .ok v w := by
  obtain ⟨i, hi, _, _, _⟩ := info31'
  rcases hown.2 with ⟨rfl, rfl⟩ | ⟨g, cap, cur, rfl, _, _, hnc, _⟩
  · simp [Builtin.append_, run_underlying Tryz.underlying25, sizeOf, typeInfo, hi, Builtin.lenOf, Builtin.firstCells]
  · simp [Builtin.append_, run_underlying Tryz.underlying25, sizeOf, typeInfo, hi, Builtin.lenOf, Builtin.firstCells, hnc, storeCells]

theorem ownH_append {w0 w : World} {v X : Value} {n m : Nat} {l l' : Nat → Nat} {f f' : Nat → Nat → O3} (hb : Below w0.heap.size w0 w) (h : OwnH w0 w v n l f) (hx : HandsIn w0 X m l' f') (hn : n + m ≤ 1000) (ty : TypeId) :
    ∃ v' w', (Builtin.append_ #[25, 25] ty #[v, X]).run Tryz.prog w = .ok v' w' ∧ OwnH w0 w' v' (n + m) (cat n l l') (cat n f f') ∧ Below w0.heap.size w0 w' := by
  obtain ⟨xs, ho, hi⟩ := h
  obtain ⟨i, hinf, hz, hs1, hby⟩ := info31'
  obtain ⟨a, c, rfl, _, hX⟩ := hx
  have key : ∀ news : List Value, news.length = m → (∀ i, i < m → ∃ vi, news[i]? = some vi ∧ OpsIn w0 vi (l' i) (f' i)) → ∀ w' v', w'.ownsRow w0.heap.size 31 1 v' (n + m) (xs ++ news) → OwnH w0 w' v' (n + m) (cat n l l') (cat n f f') := by
    intro news hl hnew w' v' hown
    refine ⟨xs ++ news, hown, fun j hj => ?_⟩
    have hxl : xs.length = n := by simpa using ho.1
    by_cases e : j < n
    · obtain ⟨vi, h1, h2⟩ := hi j e
      refine ⟨vi, by rw [List.getElem?_append_left (by omega)]; exact h1, ?_⟩
      simpa [cat, e] using h2
    · obtain ⟨vi, h1, h2⟩ := hnew (j - n) (by omega)
      refine ⟨vi, by rw [List.getElem?_append_right (by omega), hxl]; exact h1, ?_⟩
      simpa [cat, e] using h2
  cases a with
  | none =>
    have hm : m = 0 := by
      rcases hX with hX | ⟨b, off, ha, _⟩
      · exact hX
      · cases ha
    subst hm
    refine ⟨v, w, run_append_none w ty _ v n c xs ho, ?_, hb⟩
    exact key [] rfl (fun i hi => absurd hi (Nat.not_lt_zero _)) w v (by simpa using ho)
  | some ad =>
    have hnews : ∃ news : List Value, news.length = m ∧ (∀ i, i < m → ∃ vi, news[i]? = some vi ∧ (w0.cell? (ad.add i) = some vi ∧ OpsIn w0 vi (l' i) (f' i))) := by
      refine choose_list m _ fun i hi => ?_
      rcases hX with hX | ⟨b, off, ha, hX⟩
      · omega
      · obtain ⟨vi, h1, h2⟩ := hX i hi
        cases ha
        have hadd : (⟨b, off, none⟩ : Addr).add i = ⟨b, off + i, none⟩ := by unfold Addr.add; split <;> simp_all
        exact ⟨vi, by rw [hadd]; exact h1, h2⟩
    obtain ⟨news, hl, hnew⟩ := hnews
    have get : ∀ j u, news[j]? = some u → w0.cell? (ad.add j) = some u ∧ OpsIn w0 u (l' j) (f' j) := by
      intro j u hu
      have hj : j < m := by
        have := (List.getElem?_eq_some_iff.1 hu).1
        omega
      obtain ⟨vi, h1, h2⟩ := hnew j hj
      rw [hu] at h1
      cases h1
      exact h2
    obtain ⟨v', w', hr, h2, h3, _⟩ := run_append_own (P := Tryz.prog) w w0.heap.size 25 ty 31 i _ 1 24 Tryz.underlying25 hinf hz hs1 hby rfl (by decide) v n xs ho ad m c news (by omega)
      (fun j u hu => by
        obtain ⟨hc, _⟩ := get j u hu
        exact (hb.cell (World.block_lt_of_cell? w0 _ hc)).trans hc)
      (fun u hu => by
        obtain ⟨j, hj⟩ := List.mem_iff_getElem?.1 hu
        obtain ⟨_, _, hv, _⟩ := (get j u hj).2
        rw [hv]; rfl)
      (by simp only [maxLen]; omega) (by omega) hb.size
    refine ⟨v', w', hr, key news hl (fun i hi => by obtain ⟨vi, h1, h2⟩ := hnew i hi; exact ⟨vi, h1, h2.2⟩) w' v' h2, ?_⟩
    exact hb.grown h3 hb.size (fun k hk => (ho.lt k hk).1)

theorem wpList_app {ops : Array Oper} {rest : List Oper} {o : Oper} {a : Act} {Q : Exit → Act → World → Prop} {w0 w : World} (hgd : o.guard = none) (s x : Operand)
    (ho : o.op = .call { callee := .builtin .append, args := #[s, x], argTypes := #[25, 25] }) {v X : Value} {n m : Nat} {l l' : Nat → Nat} {f f' : Nat → Nat → O3}
    (hs : a.eval s = v) (hx : a.eval x = X) (hb : Below w0.heap.size w0 w) (hown : OwnH w0 w v n l f) (hX : HandsIn w0 X m l' f') (hn : n + m ≤ 1000)
    (h : ∀ v' w', OwnH w0 w' v' (n + m) (cat n l l') (cat n f f') → Below w0.heap.size w0 w' → wpList Tryz.prog ops Q rest (a.put o.dst v') w') : wpList Tryz.prog ops Q (o :: rest) a w := by
  refine wpList_plain hgd fun K hK => ?_
  obtain ⟨v', w', hr, h2, h3⟩ := ownH_append hb hown hX hn o.type
  unfold Oper.wp execOp
  simp only [ho, resolve, invoke, builtin, Sem.run_bind, Sem.run_pure, Result.andThen_ok, List.map_toArray, List.map_cons, List.map_nil, hs, hx, hr]
  exact hK _ _ (h v' w' h2 h3)
end Go.Proofs.YtfmbebofllgmoaaGreatDoor
namespace Go.Proofs.YtfmbebofllgmoaaGreatDoor
open Go.RowKit

theorem run_append_make (w : World) (n : Nat) (h0 : 0 < n) (hn : n ≤ 1000) (ty : TypeId) : (Builtin.append_ #[25, 3] ty #[.slice none 0 0, .int .i64 n]).run Tryz.prog w =
    .ok (.slice (some ⟨w.heap.size, 0, none⟩) n (grownCap w n 0 31)) (w.drew.alloc (.cells (Builtin.zeroCells #[.slice none 0 0] n ++ Builtin.zeroCells #[.slice none 0 0] (grownCap w n 0 31 - n)) 31)) := by
  obtain ⟨i, hi, hz, hs1, hby⟩ := info31'
  have wl : IntKind.i64.wrap (n : Int) = n := by rw [IntKind.wrap_i64]; omega
  have n1 : ¬ ((n : Int) < 0) := by omega
  have n2 : ¬ (281474976710656 < (n : Int) * 24) := by omega
  have n3 : n ≠ 0 := by omega
  have n4 : ¬ (9223372036854775807 < (n : Int)) := by omega
  have n5 : ¬ (281474976710656 < Builtin.nextslicecap n 0 * 24) := by
    have : Builtin.nextslicecap n 0 = n := by unfold Builtin.nextslicecap; rw [if_pos (by omega)]
    rw [this]; omega
  simp [Builtin.append_, run_underlying Tryz.underlying25, run_underlying Tryz.underlying3, sizeOf, typeInfo, zeroValue, hi, hz, hs1, hby, asInt, asIntOf, wl, n1, n2, n3, n4, n5, Question.forced, newRow, grownCap, Builtin.firstCells]
  rfl

theorem size_zc (n : Nat) : (Builtin.zeroCells #[.slice none 0 0] n).size = n := by simp [size_zeroCells]

theorem wpList_mk {ops : Array Oper} {rest : List Oper} {o : Oper} {a : Act} {Q : Exit → Act → World → Prop} {w : World} (hgd : o.guard = none) (s x : Operand)
    (ho : o.op = .call { callee := .builtin .append, args := #[s, x], argTypes := #[25, 3] }) {n : Nat} (hs : a.eval s = .slice none 0 0) (hx : a.eval x = .int .i64 n) (h0 : 0 < n) (hn : n ≤ 1000)
    (h : ∀ cap w', n ≤ cap → Below w.heap.size w w' → w'.ownsRow w.heap.size 31 1 (.slice (some ⟨w.heap.size, 0, none⟩) 0 cap) 0 [] → wpList Tryz.prog ops Q rest (a.put o.dst (.slice (some ⟨w.heap.size, 0, none⟩) n cap)) w') :
    wpList Tryz.prog ops Q (o :: rest) a w := by
  refine wpList_plain hgd fun K hK => ?_
  have hr := run_append_make w n h0 hn o.type
  have hge := grownCap_ge w n 0 31
  have hle := grownCap_le_maxLen w n 0 31 (by simp only [maxLen]; omega)
  unfold Oper.wp execOp
  simp only [ho, resolve, invoke, builtin, Sem.run_bind, Sem.run_pure, Result.andThen_ok, List.map_toArray, List.map_cons, List.map_nil, hs, hx, hr]
  refine hK _ _ (h _ _ hge ((Below.refl _ _).drew.alloc (by simp) _) ?_)
  exact ⟨by simp, .inr ⟨w.heap.size, _, _, rfl, Nat.le_refl _, heap_alloc_new w.drew _, Nat.zero_le _, hle, by simp only [Array.size_append, size_zc]; omega, by simp⟩⟩

set_option maxHeartbeats 400000 in
theorem grow_any (n : Nat) (w : World) (h0 : 0 < n) (hn : n ≤ 1000) (l : Nat → Nat) (f : Nat → Nat → O3) :
    Calls Tryz.prog 81 #[.slice none 0 0, .int .i64 n] w fun e w' => ∃ v, e = .returned v ∧ OwnH w w' v 0 l f ∧ Below w.heap.size w w' := by
  have k0 : (0 : Int) < (n : Int) := by omega
  have k1 : (n : Int) ≤ 1000 := by omega
  go_enter Tryz.func81, Tryz.ntmps81
  go_wp2_with (at_builtin; refine wpList_mk rfl (.tmp 20) (.tmp 21) rfl rfl rfl h0 hn ?_; intro cap w1 hcap hb ho; have hc0 : (0 : Int) ≤ (cap : Int) := by omega)
  go_ret
  exact ⟨_, rfl, ⟨[], ho, fun _ hi => absurd hi (Nat.not_lt_zero _)⟩, hb⟩
end Go.Proofs.YtfmbebofllgmoaaGreatDoor
namespace Go.Proofs.YtfmbebofllgmoaaGreatDoor
open Go.RowKit

def rt (x : O3) (nt nf : Nat) : Bool := rightB x.1 x.2.1 x.2.2 nt nf
def allL (ns nt : Nat) (tl fl : Nat → Nat) : Nat → Nat := cat (1 + nt) (cat 1 (cat 0 (fun _ => 0) (fun _ => ns)) tl) fl
def allF (nt : Nat) (s : Nat → O3) (t f : Nat → Nat → O3) : Nat → Nat → O3 := cat (1 + nt) (cat 1 (cat 0 (fun _ _ => (0, 0, 0)) (fun _ => s)) t) f

/-- What P3 asks: the error of a program. -/
def Ans (nt nf N : Nat) (L : Nat → Nat) (F : Nat → Nat → O3) (e : Int) : Prop :=
  (8 < nt ∧ e = 1) ∨ (nt ≤ 8 ∧ 8 < nf ∧ e = 2) ∨ (nt ≤ 8 ∧ nf ≤ 8 ∧ (∃ i, i < N ∧ 32 < L i) ∧ e = 3) ∨
  (nt ≤ 8 ∧ nf ≤ 8 ∧ (∀ i, i < N → L i ≤ 32) ∧ (∃ i k, i < N ∧ k < L i ∧ rt (F i k) nt nf = false) ∧ e = 4) ∨
  (nt ≤ 8 ∧ nf ≤ 8 ∧ (∀ i, i < N → L i ≤ 32) ∧ (∀ i k, i < N → k < L i → rt (F i k) nt nf = true) ∧ e = 0)

theorem Ans.one {nt nf N : Nat} {L : Nat → Nat} {F : Nat → Nat → O3} {e e' : Int} (h : Ans nt nf N L F e) (h' : Ans nt nf N L F e') : e = e' := by
  rcases h with ⟨h1, h2⟩ | ⟨h1, h2, h3⟩ | ⟨h1, h2, ⟨i, h3, h4⟩, h5⟩ | ⟨h1, h2, h3, ⟨i, k, h4, h5, h6⟩, h7⟩ | ⟨h1, h2, h3, h4, h5⟩ <;>
  rcases h' with ⟨g1, g2⟩ | ⟨g1, g2, g3⟩ | ⟨g1, g2, ⟨j, g3, g4⟩, g5⟩ | ⟨g1, g2, g3, ⟨j, m, g4, g5, g6⟩, g7⟩ | ⟨g1, g2, g3, g4, g5⟩ <;>
  first
  | omega
  | (have := g3 i h3; omega)
  | (have := h3 j g3; omega)
  | (have := g4 i k h4 h5; rw [this] at h6; cases h6)
  | (have := h4 j m g4 g5; rw [this] at g6; cases g6)

theorem ret_int {a b : Int} (h : a = b) : Ending.returned (.int .i64 a) = .returned (.int .i64 b) := by rw [h]

theorem rright_below (c a b : Int) (v1 : Value) (a2 a3 : Option Addr) (nt c2 nf c3 : Nat) (w : World) :
    Calls Tryz.prog 70 #[.agg #[.int .i64 c, .int .i64 a, .int .i64 b], .agg #[v1, .slice a2 nt c2, .slice a3 nf c3]] w fun e w' => e = .returned (.bool (rightB c a b nt nf)) ∧ Below w.heap.size w w' :=
  (rright_any c a b v1 a2 a3 nt c2 nf c3 w).mono fun _ _ ⟨h1, h2⟩ => ⟨h1, by rw [h2]; exact bl2 _ _⟩

set_option maxHeartbeats 1000000 in
theorem rcheck_any (v1 v2 v3 : Value) (ns nt nf : Nat) (s : Nat → O3) (tl fl : Nat → Nat) (t f : Nat → Nat → O3) (w : World) (h1 : OpsIn w v1 ns s) (h2 : HandsIn w v2 nt tl t) (h3 : HandsIn w v3 nf fl f) :
    Calls Tryz.prog 41 #[.agg #[v1, v2, v3]] w fun e w' => ∃ x, e = .returned (.int .i64 x) ∧ Ans nt nf (1 + nt + nf) (allL ns nt tl fl) (allF nt s t f) x ∧ Below w.heap.size w w' := by
  have H2 := hide h2
  have H3 := hide h3
  generalize eN : 1 + nt + nf = N
  generalize eL : allL ns nt tl fl = L
  generalize eF : allF nt s t f = F
  have EN := hide eN
  have EL := hide eL
  have EF := hide eF
  clear eN eL eF
  have H1 := hide h1
  obtain ⟨a1, c1, rfl, l1, r1⟩ := h1
  obtain ⟨a2, c2, rfl, l2, r2⟩ := h2
  obtain ⟨a3, c3, rfl, l3, r3⟩ := h3
  clear r1 r2 r3
  by_cases q2 : 8 < nt
  · go_enter Tryz.func41, Tryz.ntmps41
    go_wp2
    go_ret
    exact ⟨1, rfl, .inl ⟨q2, rfl⟩, (Below.refl _ _).alloc (Nat.le_refl _) _⟩
  by_cases q3 : 8 < nf
  · go_enter Tryz.func41, Tryz.ntmps41
    go_wp2
    go_ret
    exact ⟨2, rfl, .inr (.inl ⟨by omega, q3, rfl⟩), (Below.refl _ _).alloc (Nat.le_refl _) _⟩
  obtain ⟨W1, hW⟩ : ∃ W1, W1 = (w.alloc (.cells #[(.slice a1 ns c1), .slice a2 nt c2, .slice a3 nf c3] 33)).alloc (.cells #[(.slice a1 ns c1)] 31) := ⟨_, rfl⟩
  have hB1 : Below w.heap.size w W1 := by subst hW; exact bl2 _ _
  have i1 : HandsIn W1 (.slice (some ⟨w.heap.size + 1, 0, none⟩) 1 1) 1 (fun _ => ns) (fun _ => s) := by
    refine ⟨_, _, rfl, by omega, .inr ⟨_, _, rfl, fun i hi => ⟨(.slice a1 ns c1), ?_, opsIn_below hB1 (unhide H1)⟩⟩⟩
    obtain rfl : i = 0 := by omega
    subst hW; simp
  have i2 := handsIn_below hB1 (unhide H2)
  have i3 := handsIn_below hB1 (unhide H3)
  have b0 : W1.cell? ⟨w.heap.size, 0, none⟩ = some (.slice a1 ns c1) := by subst hW; simp
  have b1 : W1.cell? ⟨w.heap.size, 1, none⟩ = some (.slice a2 nt c2) := by subst hW; simp
  have b2 : W1.cell? ⟨w.heap.size, 2, none⟩ = some (.slice a3 nf c3) := by subst hW; simp
  have hlt : w.heap.size < W1.heap.size := by subst hW; simp; omega
  have HW := hide hW
  clear hW H1 H2 H3
  have d2 : decide ((8 : Int) < (nt : Int)) = false := by simp; omega
  have d3 : decide ((8 : Int) < (nf : Int)) = false := by simp; omega
  go_enter Tryz.func41, Tryz.ntmps41
  go_wp2_with (first
    | (at_builtin; refine wpList_app (w0 := W1) rfl (.tmp 16) (.tmp 19) rfl rfl rfl (by rw [← unhide HW]; exact Below.refl _ _) (by rw [← unhide HW]; exact ownH_nil W1 W1 (fun _ => 0) (fun _ _ => (0, 0, 0))) i1 (by omega) ?_; intro u1 w1 o1 k1; have e1 := (bcel k1 _ 1 hlt).trans b1; have e2 := (bcel k1 _ 2 hlt).trans b2; rw [Nat.zero_add] at o1)
    | (at_builtin; refine wpList_app (w0 := W1) rfl (.tmp 21) (.tmp 23) rfl rfl rfl k1 o1 i2 (by omega) ?_; intro u2 w2 o2 k2; have e3 := (bcel k2 _ 2 hlt).trans b2)
    | (at_builtin; refine wpList_app (w0 := W1) rfl (.tmp 25) (.tmp 27) rfl rfl rfl k2 o2 i3 (by omega) ?_; intro u3 w3 o3 k3))
  obtain ⟨g, cap, hu, hc⟩ := ownH_form o3 k3 (by omega)
  have hc' : ∀ i, i < N → ∃ vi, w3.cell? ⟨g, i, none⟩ = some vi ∧ OpsIn w3 vi (L i) (F i) := by
    rw [← unhide EN, ← unhide EL, ← unhide EF]; exact hc
  rw [unhide EN] at hu
  rw [hu]
  have hN : N ≤ 17 := by have := unhide EN; omega
  have hB3 : Below w.heap.size w w3 := hB1.trans (k3.mono (by omega))
  have x0 := (bcel k3 _ 0 hlt).trans b0
  have x1 := (bcel k3 _ 1 hlt).trans b1
  have x2 := (bcel k3 _ 2 hlt).trans b2
  have hls : w.heap.size < w3.heap.size := Nat.lt_of_lt_of_le hlt k3.size
  have HC := hide hc'
  clear hc hc' hu o1 o2 o3 k1 k2 k3 e1 e2 e3 i1 i2 i3 HW b0 b1 b2 hB1 hlt EN EL EF
  go_loop [4] (fun i => ∃ k : Nat, k ≤ N ∧ i = .int .i64 k ∧ Hid (∀ j, j < k → L j ≤ 32)) (fun i => N - (intOf i).toNat)
  case atStart => exact ⟨0, Nat.zero_le _, rfl, fun j hj => absurd hj (Nat.not_lt_zero _)⟩
  case round =>
    obtain ⟨k, hk, rfl, hle⟩ := hrel
    by_cases hlt : k < N
    · obtain ⟨vi, ci, hvi⟩ := unhide HC k hlt
      obtain ⟨ai, cc, rfl, li, ri⟩ := hvi
      clear ri
      by_cases hlong : 32 < L k
      · have HL := hide hlong
        go_wp2
        go_ret
        exact ⟨3, rfl, .inr (.inr (.inl ⟨by omega, by omega, ⟨k, hlt, unhide HL⟩, rfl⟩)), hB3⟩
      · go_wp2
        go_round
        case rel =>
          refine ⟨k + 1, by omega, by go_num, fun j hj => ?_⟩
          by_cases e : j = k
          · subst e; omega
          · exact unhide hle j (by omega)
        case measure => simp [intOf]; omega
    · have HA : Hid (∀ j, j < N → L j ≤ 32) := fun j hj => unhide hle j (by omega)
      clear hle
      go_wp2
      go_loopw [5] (fun i wr => ∃ k : Nat, k ≤ N ∧ i = .int .i64 k ∧ Below w3.heap.size w3 wr ∧ Hid (∀ j m, j < k → m < L j → rt (F j m) nt nf = true)) (fun i _ => N - (intOf i).toNat)
      case atStart => exact ⟨0, Nat.zero_le _, rfl, Below.refl _ _, fun j m hj => absurd hj (Nat.not_lt_zero _)⟩
      case round =>
        obtain ⟨k', hk', rfl, hb, hall⟩ := hrel
        by_cases hlt' : k' < N
        · obtain ⟨vi, ci, hvi⟩ := unhide HC k' hlt'
          have HV := hide hvi
          obtain ⟨ai, cc, rfl, li, ri⟩ := hvi
          have HR := hide ri
          have hl32 := unhide HA k' hlt'
          clear ri
          go_wp2
          go_loopw [6] (fun i wr => ∃ m : Nat, m ≤ L k' ∧ i = .int .i64 m ∧ Below w3.heap.size w3 wr ∧ Hid (∀ m', m' < m → rt (F k' m') nt nf = true)) (fun i _ => L k' - (intOf i).toNat)
          case atStart => exact ⟨0, Nat.zero_le _, rfl, hb, fun j hj => absurd hj (Nat.not_lt_zero _)⟩
          case round =>
            obtain ⟨m, hm, rfl, hbm, hgood⟩ := hrel
            have cg := (bcel hbm g k' (World.block_lt_of_cell? _ _ ci)).trans ci
            by_cases hml : m < L k'
            · rcases unhide HR with hz | ⟨b, off, rfl, hf⟩
              · omega
              obtain ⟨g0, g1, g2⟩ := opAt_below hbm (hf m hml)
              have y0 := (bcel hbm _ 0 hls).trans x0
              have y1 := (bcel hbm _ 1 hls).trans x1
              have y2 := (bcel hbm _ 2 hls).trans x2
              clear hf
              generalize hx : F k' m = x at g0 g1 g2
              have HX := hide hx
              clear hx
              have p0 : (0 : Int) ≤ (k' : Int) := by omega
              have p1 : (k' : Int) < (N : Int) := by omega
              have p2 : (0 : Int) ≤ (m : Int) := by omega
              have p3 : (m : Int) < (L k' : Int) := by omega
              go_wp2
              have q0 := World.block_lt_of_cell? _ _ cg
              have q1 := World.block_lt_of_cell? _ _ g0
              have q4 := World.block_lt_of_cell? _ _ y0
              cases hr : rightB x.1 x.2.1 x.2.2 nt nf
              all_goals
                go_region_held3 (fun w' => w'.cell? ⟨g, k', none⟩ = some (.slice (some ⟨b, off, none⟩) (L k') cc) ∧ w'.cell? ⟨b, off + m * 3, none⟩ = some (.int .i64 x.1) ∧ w'.cell? ⟨b, off + m * 3 + 1, none⟩ = some (.int .i64 x.2.1) ∧ w'.cell? ⟨b, off + m * 3 + 2, none⟩ = some (.int .i64 x.2.2) ∧ w'.cell? ⟨w.heap.size, 0, none⟩ = some (.slice a1 ns c1) ∧ w'.cell? ⟨w.heap.size, 1, none⟩ = some (.slice a2 nt c2) ∧ w'.cell? ⟨w.heap.size, 2, none⟩ = some (.slice a3 nf c3))
                  (first | with_reducible exact ⟨z0, z1, z2, z3, z4, z5, z6⟩ | (simp [go_sem, cg, g0, g1, g2, y0, y1, y2]; done))
                  ((go_at_call 70; refine (rright_below x.1 x.2.1 x.2.2 _ a2 a3 nt c2 nf c3 _).mono ?_; rintro e wz ⟨rfl, hz⟩
                    have z0 := (bcel hz g k' q0).trans cg
                    have z1 := (bcel hz b (off + m * 3) q1).trans g0
                    have z2 := (bcel hz b (off + m * 3 + 1) q1).trans g1
                    have z3 := (bcel hz b (off + m * 3 + 2) q1).trans g2
                    have z4 := (bcel hz _ 0 q4).trans y0
                    have z5 := (bcel hz _ 1 q4).trans y1
                    have z6 := (bcel hz _ 2 q4).trans y2))
              · have hbz : Below w3.heap.size w3 wz := hbm.drew.trans (hz.mono hbm.size)
                have HR2 := hide hr
                go_wp2
                go_ret
                refine ⟨4, rfl, .inr (.inr (.inr (.inl ⟨by omega, by omega, unhide HA, ⟨k', m, hlt', hml, ?_⟩, rfl⟩))), hB3.trans (hbz.mono (by omega))⟩
                rw [unhide HX]; exact unhide HR2
              · have hbz : Below w3.heap.size w3 wz := hbm.drew.trans (hz.mono hbm.size)
                have HR2 := hide hr
                go_wp2
                go_roundw
                case rel =>
                  refine ⟨m + 1, by omega, by go_num, hbz, fun m' hm' => ?_⟩
                  by_cases e : m' = m
                  · subst e; rw [unhide HX]; exact unhide HR2
                  · exact unhide hgood m' (by omega)
                case measure => simp [intOf]; omega
            · go_wp2
              go_roundw
              case rel =>
                refine ⟨k' + 1, by omega, by go_num, hbm, fun j m' hj hm' => ?_⟩
                by_cases e : j = k'
                · subst e; exact unhide hgood m' (by omega)
                · exact unhide hall j m' (by omega) hm'
              case measure => simp [intOf]; omega
        · go_wp2
          go_ret
          exact ⟨0, rfl, .inr (.inr (.inr (.inr ⟨by omega, by omega, unhide HA, fun i m hi hm => unhide hall i m (by omega) hm, rfl⟩))), hB3.trans (hb.mono (by omega))⟩
end Go.Proofs.YtfmbebofllgmoaaGreatDoor
namespace Go.Proofs.YtfmbebofllgmoaaGreatDoor
open Go.RowKit

def psum (nt nf k : Nat) : Nat := if k = 0 then 0 else if k = 1 then 1 else if k = 2 then 1 + nt else 1 + nt + nf

/-- How far the list of all handlers is built. -/
def Stg (w wr : World) (v : Value) (ns nt nf : Nat) (s : Nat → O3) (tl fl : Nat → Nat) (t f : Nat → Nat → O3) (k : Nat) : Prop :=
  (k = 0 ∧ OwnH w wr v 0 (fun _ => 0) (fun _ _ => (0, 0, 0))) ∨ (k = 1 ∧ OwnH w wr v 1 (cat 0 (fun _ => 0) (fun _ => ns)) (cat 0 (fun _ _ => (0, 0, 0)) (fun _ => s))) ∨
  (k = 2 ∧ OwnH w wr v (1 + nt) (cat 1 (cat 0 (fun _ => 0) (fun _ => ns)) tl) (cat 1 (cat 0 (fun _ _ => (0, 0, 0)) (fun _ => s)) t)) ∨
  (k = 3 ∧ OwnH w wr v (1 + nt + nf) (allL ns nt tl fl) (allF nt s t f))

set_option maxHeartbeats 1000000 in
theorem concat_any (q : Nat) (p1 : Option Addr) (c1 : Nat) (v2 v3 : Value) (ns nt nf : Nat) (s : Nat → O3) (tl fl : Nat → Nat) (t f : Nat → Nat → O3) (w : World)
    (h1 : HandsIn w (.slice p1 1 c1) 1 (fun _ => ns) (fun _ => s)) (h2 : HandsIn w v2 nt tl t) (h3 : HandsIn w v3 nf fl f)
    (x0 : w.cell? ⟨q, 0, none⟩ = some (.slice p1 1 c1)) (x1 : w.cell? ⟨q, 1, none⟩ = some v2) (x2 : w.cell? ⟨q, 2, none⟩ = some v3) (hnt : nt ≤ 8) (hnf : nf ≤ 8) :
    Calls Tryz.prog 50 #[.slice (some ⟨q, 0, none⟩) 3 3] w fun e w' => ∃ v, e = .returned v ∧ OwnH w w' v (1 + nt + nf) (allL ns nt tl fl) (allF nt s t f) ∧ Below w.heap.size w w' := by
  have H1 := hide h1
  have H2 := hide h2
  have H3 := hide h3
  obtain ⟨a2, c2, rfl, l2, r2⟩ := h2
  obtain ⟨a3, c3, rfl, l3, r3⟩ := h3
  clear h1 r2 r3
  have hq := World.block_lt_of_cell? _ _ x0
  go_enter Tryz.func50, Tryz.ntmps50
  go_wp2
  go_loop [3, 11] (fun z i => ∃ k : Nat, k ≤ 3 ∧ i = .int .i64 k ∧ z = .int .i64 (psum nt nf k)) (fun _ i => 3 - (intOf i).toNat)
  case atStart => exact ⟨0, Nat.zero_le _, rfl, rfl⟩
  case round =>
    obtain ⟨k, hk, rfl, rfl⟩ := hrel
    have hcase : k = 0 ∨ k = 1 ∨ k = 2 ∨ k = 3 := by omega
    rcases hcase with rfl | rfl | rfl | rfl
    · have e0 : psum nt nf 0 = 0 := rfl
      rw [e0]
      go_wp2
      go_round
      case rel => exact ⟨1, by omega, rfl, rfl⟩
      case measure => simp [intOf]
    · have e0 : psum nt nf 1 = 1 := rfl
      rw [e0]
      go_wp2
      go_round
      case rel => exact ⟨2, by omega, rfl, by simp [psum]⟩
      case measure => simp [intOf]
    · have e0 : psum nt nf 2 = 1 + nt := rfl
      rw [e0]
      go_wp2
      go_round
      case rel => exact ⟨3, by omega, rfl, by simp [psum]⟩
      case measure => simp [intOf]
    · have e0 : psum nt nf 3 = 1 + nt + nf := rfl
      rw [e0]
      have hg := grow_any (1 + nt + nf) w (by omega) (by omega) (fun _ => 0) (fun _ _ => (0, 0, 0))
      rw [show (((1 + nt + nf : Nat)) : Int) = 1 + (nt : Int) + (nf : Int) from by omega] at hg
      have HG := hide hg
      clear hg e0
      go_wp2_with fail
      refine (unhide HG).mono ?_
      rintro e w1 ⟨v, rfl, ho, hb⟩
      clear HG
      go_wp2
      go_loopw [6, 27] (fun z i wr => ∃ k : Nat, k ≤ 3 ∧ i = .int .i64 k ∧ Below w.heap.size w wr ∧ Stg w wr z ns nt nf s tl fl t f k) (fun _ i _ => 3 - (intOf i).toNat)
      case atStart => exact ⟨0, Nat.zero_le _, rfl, hb, .inl ⟨rfl, ho⟩⟩
      case round =>
        obtain ⟨k, hk, rfl, hbr, hst⟩ := hrel
        have y0 := (bcel hbr q 0 hq).trans x0
        have y1 := (bcel hbr q 1 hq).trans x1
        have y2 := (bcel hbr q 2 hq).trans x2
        rcases hst with ⟨rfl, hs⟩ | ⟨rfl, hs⟩ | ⟨rfl, hs⟩ | ⟨rfl, hs⟩
        · have HS := hide hs
          clear hs
          go_wp2_with (at_builtin; refine wpList_app (w0 := w) rfl (.tmp 31) (.tmp 32) rfl rfl rfl hbr (unhide HS) (unhide H1) (by omega) ?_; intro v' w' o' k')
          go_roundw
          case rel => exact ⟨1, by omega, rfl, k', .inr (.inl ⟨rfl, by simpa using o'⟩)⟩
          case measure => simp [intOf]
        · have HS := hide hs
          clear hs
          go_wp2_with (at_builtin; refine wpList_app (w0 := w) rfl (.tmp 31) (.tmp 32) rfl rfl rfl hbr (unhide HS) (unhide H2) (by omega) ?_; intro v' w' o' k')
          go_roundw
          case rel => exact ⟨2, by omega, rfl, k', .inr (.inr (.inl ⟨rfl, o'⟩))⟩
          case measure => simp [intOf]
        · have HS := hide hs
          clear hs
          go_wp2_with (at_builtin; refine wpList_app (w0 := w) rfl (.tmp 31) (.tmp 32) rfl rfl rfl hbr (unhide HS) (unhide H3) (by omega) ?_; intro v' w' o' k')
          go_roundw
          case rel => exact ⟨3, by omega, rfl, k', .inr (.inr (.inr ⟨rfl, o'⟩))⟩
          case measure => simp [intOf]
        · have HS := hide hs
          clear hs
          go_wp2
          go_ret
          exact ⟨_, rfl, unhide HS, hbr⟩
end Go.Proofs.YtfmbebofllgmoaaGreatDoor
namespace Go.Proofs.YtfmbebofllgmoaaGreatDoor
open Go.RowKit

theorem tabIn_below {B : Nat} {w w' : World} (h : Below B w w') (hB : 0 < B) (ht : TabIn w) : TabIn w' := fun c h1 h2 =>
  ⟨(bcel h 0 _ hB).trans (ht c h1 h2).1, (bcel h 0 _ hB).trans (ht c h1 h2).2⟩
theorem tabIn_lt {w : World} (ht : TabIn w) : 0 < w.heap.size := World.block_lt_of_cell? _ _ (ht 1 (by omega) (by omega)).1

set_option maxHeartbeats 1000000 in
theorem pcheck_any (v1 v2 v3 : Value) (ns nt nf : Nat) (s : Nat → O3) (tl fl : Nat → Nat) (t f : Nat → Nat → O3) (w : World) (ht : TabIn w) (h1 : OpsIn w v1 ns s) (h2 : HandsIn w v2 nt tl t) (h3 : HandsIn w v3 nf fl f) :
    Calls Tryz.prog 27 #[.agg #[v1, v2, v3]] w fun e w' => ∃ x, e = .returned (.int .i64 x) ∧ Ans nt nf (1 + nt + nf) (allL ns nt tl fl) (allF nt s t f) x ∧ Below w.heap.size w w' := by
  have H2 := hide h2
  have H3 := hide h3
  generalize eN : 1 + nt + nf = N
  generalize eL : allL ns nt tl fl = L
  generalize eF : allF nt s t f = F
  have EN := hide eN
  have EL := hide eL
  have EF := hide eF
  clear eN eL eF
  have H1 := hide h1
  obtain ⟨a1, c1, rfl, l1, r1⟩ := h1
  obtain ⟨a2, c2, rfl, l2, r2⟩ := h2
  obtain ⟨a3, c3, rfl, l3, r3⟩ := h3
  clear r1 r2 r3
  by_cases q2 : 8 < nt
  · go_enter Tryz.func27, Tryz.ntmps27
    go_wp2
    go_ret
    exact ⟨1, rfl, .inl ⟨q2, rfl⟩, (Below.refl _ _).alloc (Nat.le_refl _) _⟩
  by_cases q3 : 8 < nf
  · go_enter Tryz.func27, Tryz.ntmps27
    go_wp2
    go_ret
    exact ⟨2, rfl, .inr (.inl ⟨by omega, q3, rfl⟩), (Below.refl _ _).alloc (Nat.le_refl _) _⟩
  obtain ⟨W1, hW⟩ : ∃ W1, W1 = ((w.alloc (.cells #[.slice a1 ns c1, .slice a2 nt c2, .slice a3 nf c3] 33)).alloc (.cells #[.slice a1 ns c1] 31)).alloc (.cells #[.slice (some ⟨w.heap.size + 1, 0, none⟩) 1 1, .slice a2 nt c2, .slice a3 nf c3] 25) := ⟨_, rfl⟩
  have hB1 : Below w.heap.size w W1 := by subst hW; exact bl3 _ _ _
  have i1 : HandsIn W1 (.slice (some ⟨w.heap.size + 1, 0, none⟩) 1 1) 1 (fun _ => ns) (fun _ => s) := by
    refine ⟨_, _, rfl, by omega, .inr ⟨_, _, rfl, fun i hi => ⟨.slice a1 ns c1, ?_, opsIn_below hB1 (unhide H1)⟩⟩⟩
    obtain rfl : i = 0 := by omega
    subst hW; simp [World.cell?_alloc_past]
  have i2 := handsIn_below hB1 (unhide H2)
  have i3 := handsIn_below hB1 (unhide H3)
  have b0 : W1.cell? ⟨w.heap.size, 0, none⟩ = some (.slice a1 ns c1) := by subst hW; rw [World.cell?_alloc_past _ _ _ (by simp; omega), World.cell?_alloc_past _ _ _ (by simp)]; simp
  have b1 : W1.cell? ⟨w.heap.size, 1, none⟩ = some (.slice a2 nt c2) := by subst hW; rw [World.cell?_alloc_past _ _ _ (by simp; omega), World.cell?_alloc_past _ _ _ (by simp)]; simp
  have b2 : W1.cell? ⟨w.heap.size, 2, none⟩ = some (.slice a3 nf c3) := by subst hW; rw [World.cell?_alloc_past _ _ _ (by simp; omega), World.cell?_alloc_past _ _ _ (by simp)]; simp
  have x0 : W1.cell? ⟨w.heap.size + 2, 0, none⟩ = some (.slice (some ⟨w.heap.size + 1, 0, none⟩) 1 1) := by subst hW; simp [World.cell?_alloc_at]
  have x1 : W1.cell? ⟨w.heap.size + 2, 1, none⟩ = some (.slice a2 nt c2) := by subst hW; simp [World.cell?_alloc_at]
  have x2 : W1.cell? ⟨w.heap.size + 2, 2, none⟩ = some (.slice a3 nf c3) := by subst hW; simp [World.cell?_alloc_at]
  have hlt : w.heap.size < W1.heap.size := by subst hW; simp; omega
  have HW := hide hW
  clear hW H1 H2 H3
  have d2 : decide ((8 : Int) < (nt : Int)) = false := by simp; omega
  have d3 : decide ((8 : Int) < (nf : Int)) = false := by simp; omega
  have HT := hide (tabIn_below hB1 (tabIn_lt ht) ht)
  clear ht
  go_enter Tryz.func27, Tryz.ntmps27
  go_wp2_with fail
  rw [← unhide HW]
  refine (concat_any (w.heap.size + 2) (some ⟨w.heap.size + 1, 0, none⟩) 1 _ _ ns nt nf s tl fl t f W1 i1 i2 i3 x0 x1 x2 (by omega) (by omega)).mono ?_
  rintro e w3 ⟨u3, rfl, o3, k3⟩
  obtain ⟨g, cap, hu, hc⟩ := ownH_form o3 k3 (by omega)
  have hc' : ∀ i, i < N → ∃ vi, w3.cell? ⟨g, i, none⟩ = some vi ∧ OpsIn w3 vi (L i) (F i) := by
    rw [← unhide EN, ← unhide EL, ← unhide EF]; exact hc
  rw [unhide EN] at hu
  rw [hu]
  have hN : N ≤ 17 := by have := unhide EN; omega
  have hB3 : Below w.heap.size w w3 := hB1.trans (k3.mono (by omega))
  have y0 := (bcel k3 _ 0 hlt).trans b0
  have y1 := (bcel k3 _ 1 hlt).trans b1
  have y2 := (bcel k3 _ 2 hlt).trans b2
  have hls : w.heap.size < w3.heap.size := Nat.lt_of_lt_of_le hlt k3.size
  have HT3 := hide (tabIn_below k3 (by omega) (unhide HT))
  have HC := hide hc'
  clear hc hc' hu o3 k3 i1 i2 i3 HW b0 b1 b2 x0 x1 x2 hB1 hlt EN EL EF HT
  go_wp2
  go_loop [31] (fun i => ∃ k : Nat, k ≤ N ∧ i = .int .i64 k ∧ Hid (∀ j, j < k → L j ≤ 32)) (fun i => N - (intOf i).toNat)
  case atStart => exact ⟨0, Nat.zero_le _, rfl, fun j hj => absurd hj (Nat.not_lt_zero _)⟩
  case round =>
    obtain ⟨k, hk, rfl, hle⟩ := hrel
    by_cases hlt : k < N
    · obtain ⟨vi, ci, hvi⟩ := unhide HC k hlt
      obtain ⟨ai, cc, rfl, li, ri⟩ := hvi
      clear ri
      by_cases hlong : 32 < L k
      · have HL := hide hlong
        go_wp2
        go_ret
        exact ⟨3, rfl, .inr (.inr (.inl ⟨by omega, by omega, ⟨k, hlt, unhide HL⟩, rfl⟩)), hB3⟩
      · go_wp2
        go_round
        case rel =>
          refine ⟨k + 1, by omega, by go_num, fun j hj => ?_⟩
          by_cases e : j = k
          · subst e; omega
          · exact unhide hle j (by omega)
        case measure => simp [intOf]; omega
    · have HA : Hid (∀ j, j < N → L j ≤ 32) := fun j hj => unhide hle j (by omega)
      clear hle
      go_wp2
      go_loopw [41] (fun i wr => ∃ k : Nat, k ≤ N ∧ i = .int .i64 k ∧ Below w3.heap.size w3 wr ∧ Hid (∀ j m, j < k → m < L j → rt (F j m) nt nf = true)) (fun i _ => N - (intOf i).toNat)
      case atStart => exact ⟨0, Nat.zero_le _, rfl, Below.refl _ _, fun j m hj => absurd hj (Nat.not_lt_zero _)⟩
      case round =>
        obtain ⟨k', hk', rfl, hb, hall⟩ := hrel
        by_cases hlt' : k' < N
        · obtain ⟨vi, ci, hvi⟩ := unhide HC k' hlt'
          obtain ⟨ai, cc, rfl, li, ri⟩ := hvi
          have HR := hide ri
          have hl32 := unhide HA k' hlt'
          clear ri
          have cg := (bcel hb g k' (World.block_lt_of_cell? _ _ ci)).trans ci
          go_wp2
          clear cg
          go_loopw [47] (fun i wr => ∃ m : Nat, m ≤ L k' ∧ i = .int .i64 m ∧ Below w3.heap.size w3 wr ∧ Hid (∀ m', m' < m → rt (F k' m') nt nf = true)) (fun i _ => L k' - (intOf i).toNat)
          case atStart => exact ⟨0, Nat.zero_le _, rfl, hb, fun j hj => absurd hj (Nat.not_lt_zero _)⟩
          case round =>
            obtain ⟨m, hm, rfl, hbm, hgood⟩ := hrel
            by_cases hml : m < L k'
            · rcases unhide HR with hz | ⟨b, off, rfl, hf⟩
              · omega
              have hop := opAt_below hbm (hf m hml)
              have q1 := opAt_lt hop
              obtain ⟨g0, g1, g2⟩ := hop
              have z0 := (bcel hbm _ 0 hls).trans y0
              have z1 := (bcel hbm _ 1 hls).trans y1
              have z2 := (bcel hbm _ 2 hls).trans y2
              have q4 := World.block_lt_of_cell? _ _ z0
              have HTm := hide (tabIn_below hbm (by omega) (unhide HT3))
              clear hf
              generalize hx : F k' m = x at g0 g1 g2
              have HX := hide hx
              clear hx
              cases hr : rightB x.1 x.2.1 x.2.2 nt nf
              all_goals
                go_wp2_with fail
                refine (cright_any x.1 x.2.1 x.2.2 _ a2 a3 nt c2 nf c3 _ (tabIn_below ((Below.refl _ _).alloc (Nat.le_refl _) _) (by omega) (unhide HTm))).mono ?_
                rintro e wz ⟨rfl, hz⟩
              · have hbz : Below w3.heap.size w3 wz := (hbm.alloc hbm.size _).trans (hz.mono (by have := hbm.size; simp; omega))
                have HR2 := hide hr
                go_wp2
                go_ret
                refine ⟨4, rfl, .inr (.inr (.inr (.inl ⟨by omega, by omega, unhide HA, ⟨k', m, hlt', hml, ?_⟩, rfl⟩))), hB3.trans (hbz.mono (by omega))⟩
                rw [unhide HX]; exact unhide HR2
              · have hbz : Below w3.heap.size w3 wz := (hbm.alloc hbm.size _).trans (hz.mono (by have := hbm.size; simp; omega))
                have HR2 := hide hr
                go_wp2
                go_roundw
                case rel =>
                  refine ⟨m + 1, by omega, by go_num, hbz, fun m' hm' => ?_⟩
                  by_cases e : m' = m
                  · subst e; rw [unhide HX]; exact unhide HR2
                  · exact unhide hgood m' (by omega)
                case measure => simp [intOf]; omega
            · go_wp2
              go_roundw
              case rel =>
                refine ⟨k' + 1, by omega, by go_num, hbm, fun j m' hj hm' => ?_⟩
                by_cases e : j = k'
                · subst e; exact unhide hgood m' (by omega)
                · exact unhide hall j m' (by omega) hm'
              case measure => simp [intOf]; omega
        · go_wp2
          go_ret
          exact ⟨0, rfl, .inr (.inr (.inr (.inr ⟨by omega, by omega, unhide HA, fun i m hi hm => unhide hall i m (by omega) hm, rfl⟩))), hB3.trans (hb.mono (by omega))⟩

/-- rerun.Check. -/
theorem check_any (v1 v2 v3 : Value) (ns nt nf : Nat) (s : Nat → O3) (tl fl : Nat → Nat) (t f : Nat → Nat → O3) (w : World) (ht : TabIn w) (h1 : OpsIn w v1 ns s) (h2 : HandsIn w v2 nt tl t) (h3 : HandsIn w v3 nf fl f) :
    Calls Tryz.prog 25 #[.agg #[v1, v2, v3]] w fun e w' => ∃ x, e = .returned (.int .i64 x) ∧ Ans nt nf (1 + nt + nf) (allL ns nt tl fl) (allF nt s t f) x ∧ Below w.heap.size w w' := by
  have hB : Below w.heap.size w (w.alloc (.cells #[v1, v2, v3] 33)) := (Below.refl _ _).alloc (Nat.le_refl _) _
  have hc := pcheck_any v1 v2 v3 ns nt nf s tl fl t f (w.alloc (.cells #[v1, v2, v3] 33)) (tabIn_below hB (tabIn_lt ht) ht) (opsIn_below hB h1) (handsIn_below hB h2) (handsIn_below hB h3)
  have HC := hide hc
  clear hc
  go_enter Tryz.func25, Tryz.ntmps25
  go_wp2_with fail
  refine (unhide HC).mono ?_
  rintro e w1 ⟨x, rfl, ha, hb⟩
  go_wp2
  go_ret
  exact ⟨x, rfl, ha, hB.trans (hb.mono (by simp))⟩
end Go.Proofs.YtfmbebofllgmoaaGreatDoor
namespace Go.Proofs.YtfmbebofllgmoaaGreatDoor
open Go.RowKit

/-- Which of n things a raw number speaks of. -/
def pickI (c : Int) (n : Int) : Int := (if c < 0 then -(c + 1) else c) % n
theorem kpick_any (c n : Int) (h0 : 1 ≤ n) (h1 : n ≤ 1000000) (hc : -9223372036854775808 ≤ c ∧ c ≤ 9223372036854775807) (w : World) : Calls Tryz.prog 18 #[.int .i64 c, .int .i64 n] w fun e w' => e = .returned (.int .i64 (pickI c n)) ∧ w' = w := by
  have hne : (n == 0) = false := by simp; omega
  have hne' : n ≠ 0 := by omega
  by_cases h : c < 0
  · have hw1 : IntKind.i64.wrap (c + 1) = c + 1 := by rw [IntKind.wrap_i64]; omega
    have hw2 : IntKind.i64.wrap (-(c + 1)) = -(c + 1) := by rw [IntKind.wrap_i64]; omega
    have hm : (-(c + 1)).tmod n = pickI c n := by unfold pickI; rw [if_pos h]; exact Int.tmod_eq_emod_of_nonneg (by omega)
    go_enter Tryz.func18, Tryz.ntmps18
    go_wp2
    go_ret
    exact ⟨rfl, rfl⟩
  · have hm : c.tmod n = pickI c n := by unfold pickI; rw [if_neg h]; exact Int.tmod_eq_emod_of_nonneg (by omega)
    go_enter Tryz.func18, Tryz.ntmps18
    go_wp2
    go_ret
    exact ⟨rfl, rfl⟩
theorem pickI_range (c n : Int) (h0 : 1 ≤ n) : 0 ≤ pickI c n ∧ pickI c n < n := by
  unfold pickI
  exact ⟨Int.emod_nonneg _ (by omega), Int.emod_lt_of_pos _ (by omega)⟩

set_option maxHeartbeats 400000 in
theorem sameEvents_any (n : Nat) (v1 v2 : Value) (f : Nat → O3) (w : World) (h1 : OpsIn w v1 n f) (h2 : OpsIn w v2 n f) :
    Calls Tryz.prog 17 #[v1, v2] w fun e w' => e = .returned (.bool true) ∧ Dr w w' := by
  obtain ⟨a, c, rfl, hn, hf⟩ := h1
  obtain ⟨a', c', rfl, _, hf'⟩ := h2
  have HF := hide hf
  have HF' := hide hf'
  clear hf hf'
  go_enter Tryz.func17, Tryz.ntmps17
  go_wp2
  go_loopw [5] (fun i wr => ∃ k : Nat, k ≤ n ∧ i = .int .i64 k ∧ Dr w wr) (fun i _ => n - (intOf i).toNat)
  case atStart => exact ⟨0, Nat.zero_le _, rfl, Dr.refl _⟩
  case round =>
    obtain ⟨k, hk, rfl, hd⟩ := hrel
    by_cases hlt : k < n
    · rcases unhide HF with hz | ⟨b, off, rfl, hf⟩
      · omega
      rcases unhide HF' with hz | ⟨b', off', rfl, hf'⟩
      · omega
      obtain ⟨g0, g1, g2⟩ := hf k hlt
      obtain ⟨o0, o1, o2⟩ := hf' k hlt
      rw [← hd.cell] at g0 g1 g2 o0 o1 o2
      clear hf hf'
      generalize f k = x at *
      have hk0 : (0 : Int) ≤ (k : Int) := by omega
      have hk1 : (k : Int) < (n : Int) := by omega
      go_wp2
      go_quiet (fail)
      go_wp2
      go_roundw
      case rel => exact ⟨k + 1, by omega, by go_num, hd.more _⟩
      case measure => simp [intOf]; omega
    · go_wp2
      go_ret
      exact ⟨rfl, hd⟩
end Go.Proofs.YtfmbebofllgmoaaGreatDoor
