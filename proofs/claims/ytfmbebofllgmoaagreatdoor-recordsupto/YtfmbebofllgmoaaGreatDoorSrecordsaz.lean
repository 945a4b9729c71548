/-
  PROVED HERE: how long a run's trace is at the most; a struct's equality with itself. the laws' comparisons of lists of numbers and of inputs that are the same; lists that read as their owner wrote them.
-/
import Derived.Test.YtfmbebofllgmoaaGreatDoorProg
import Derived.WalkKit
import Derived.WalkSpells
import Derived.WalkLawsBesides
import Derived.Deep.QuietTactic
import Derived.BigQuiet
import Derived.Deep.RegionHeld3
import Derived.Deep.AppendLies
import Derived.Laws.EntriesVeiled
import Derived.Deep.DrawnRows
import Derived.BigRegion
import Derived.Deep.LoopGhost
import Derived.Deep.MidRow
import Derived.Shelf.SlSortCmp.SmallK
import Derived.Shelf.SlicesG.Cmp
import Derived.Shelf.Small.Bits
import Derived.Deep.RegionLaw
import Derived.Lib.SliceRun
import Derived.Laws.StructEq
import Derived.Laws.BytesString
import Derived.ArgAppend
import Derived.Deep.DeepCutAuto
import Derived.Conc.LoneCalls
import Derived.Calls
import Derived.Tactics
import Derived.KernelRfl
import Derived.Laws.Rows
import Derived.Lib.SlBytesConst
import Derived.Laws.BitsAllLaws
import Derived.RangeFuncOwn
import Derived.Laws.IdiomStrings
import Derived.RangeFuncNested
import Derived.RangeFuncBound
import Derived.RangeFuncCalls
import Derived.RangeFuncLeaves
import Derived.Shelf.RegionOpen
import Derived.OwnWalkIn
import Derived.TacticsInMore
import Derived.Maps.OwnIn
import Derived.Maps.AppendAt
import Derived.LoopNIn
import Derived.LoopIn
import Derived.ChangeKeysEq
import Derived.Test.YtfmbebofllgmoaaGreatDoorSrecordsax
import Derived.Test.YtfmbebofllgmoaaGreatDoorSrecordsay
namespace Go.Proofs.YtfmbebofllgmoaaGreatDoor
open Go.RowKit
section
variable {σ : Type} {ask : σ → Int → Int → Rep × σ} {mes : σ → Nat}
theorem turnsM_rinv (hs : SrcOk ask mes) {p : Pg} (hp : PgOk p) : ∀ (k N : Nat) (s : PS) (x : σ), RInv p N s → RInv p (N + 16 * k) (turnsM ask p k s x).1
  | 0, _, _, _, h => h
  | k + 1, N, s, x, h => by
    unfold turnsM
    refine ite_ok (P := fun q : PS × σ => RInv p (N + 16 * (k + 1)) q.1) ?_ (h.mono (Nat.le_add_right _ _))
    exact (turnsM_rinv hs hp k (N + 16) _ _ (turnM_rinv hs hp x h)).mono (by omega)
theorem runM_trace (hs : SrcOk ask mes) {p : Pg} (hp : PgOk p) (k : Nat) (f : Int) (x : σ) : (runM ask p k f x).1.trace.length ≤ 5000 + 16 * k := by
  have hq0 : RInv p 5000 (s0 (min (max f 0) 5000)) := by
    refine ⟨⟨⟨by show 0 ≤ min (max f 0) 5000; omega, by show min (max f 0) 5000 ≤ 5000; omega⟩, ⟨by show (0 : Int) ≤ 0; omega, by show (0 : Int) ≤ 1099511627776; omega⟩, ⟨by show (0 : Int) ≤ 0; omega, by show (0 : Int) + min (max f 0) 5000 ≤ 5000; omega⟩, by show 0 + (min (max f 0) 5000).toNat ≤ 5000; omega⟩, ⟨fun _ h => absurd h Bool.false_ne_true, fun _ h => absurd h Bool.false_ne_true, fun _ h => absurd h Bool.false_ne_true, fun _ _ h => absurd h Bool.false_ne_true⟩⟩
  have hq1 := hM_rinv hs hp.sr (s0 (min (max f 0) 5000)) x hq0
  have h2 : RInv p (5000 + 16 * k) (runM ask p k f x).1 := turnsM_rinv hs hp k 5000 _ _ hq1
  have := h2.1.trace
  omega
end
theorem recM_trace {p : Pg} (hp : PgOk p) (f : Int) (lc : List Int) (bt : List (Value × List Int)) (lp ll : List Int) : (recM p f lc bt lp ll).1.trace.length ≤ 5000 + 16 * (lc.length + 1) := runM_trace recAsk_ok hp _ _ _
theorem plain2 : Tryz.prog.plainKey 2 = true := by kernel_rfl
theorem kcel2 : Tryz.prog.cellsOf 2 = 1 := by kernel_rfl
theorem und2 : Tryz.prog.underlying 2 = some (.int .i64) := by kernel_rfl
theorem eqInt2 (n : Nat) (a : Int) (w : World) : (Op.equalIn (n + 1) 2 (.int .i64 a) (.int .i64 a)).run Tryz.prog w = .ok true w := by
  simp [Op.equalIn, run_underlying und2]
theorem eqItems2 (n : Nat) (xs : Array Value) (w : World) : ∀ (l : List Nat), (∀ j, j ∈ l → ∃ z, xs[j]? = some (.int .i64 z)) → (Op.eqItems (n + 1) 2 1 xs xs l).run Tryz.prog w = .ok true w
  | [], _ => by simp [Op.eqItems]
  | j :: r, h => by
    obtain ⟨z, hz⟩ := h j (List.mem_cons_self ..)
    have p : (part 2 xs j).run Tryz.prog w = .ok (.int .i64 z) w := run_part_plain w plain2 hz
    have ih := eqItems2 n xs w r (fun i hi => h i (List.mem_cons_of_mem _ hi))
    simp only [Op.eqItems, Sem.run_bind, Nat.mul_one, p, Result.andThen_ok, eqInt2 n, Bool.not_true, Bool.false_eq_true, if_false]
    exact ih
theorem eq35n (n : Nat) (a b c d : Int) (w : World) : (Op.equalIn (n + 2) 35 (.agg #[.int .i64 a, .int .i64 b, .int .i64 c, .int .i64 d]) (.agg #[.int .i64 a, .int .i64 b, .int .i64 c, .int .i64 d])).run Tryz.prog w = .ok true w := by
  obtain ⟨i, hi⟩ := info_of_underlying und2
  rw [run_equalIn_array (P := Tryz.prog) w (n + 1) _ _ Tryz.underlying35 hi, kcel2]
  refine eqItems2 n _ w _ (fun j hj => ?_)
  have : j = 0 ∨ j = 1 ∨ j = 2 ∨ j = 3 := by have := List.mem_range.1 hj; omega
  rcases this with rfl | rfl | rfl | rfl <;> exact ⟨_, rfl⟩
theorem eq35 (a b c d : Int) (w : World) : (Op.equalIn 9999 35 (.agg #[.int .i64 a, .int .i64 b, .int .i64 c, .int .i64 d]) (.agg #[.int .i64 a, .int .i64 b, .int .i64 c, .int .i64 d])).run Tryz.prog w = .ok true w := eq35n 9997 a b c d w
end Go.Proofs.YtfmbebofllgmoaaGreatDoor
namespace Go.Proofs.YtfmbebofllgmoaaGreatDoor
open Go.RowKit
attribute [local go_sem ↓] Go.wp_at_zero Go.wp_at_succ

/-- A list of numbers that are all the same. -/
def FullI (w : World) (v : Value) (m : Int) : Prop := ∃ a n c, v = .slice a n c ∧ n ≤ 1000000000 ∧ (n = 0 ∨ ∃ q off, a = some ⟨q, off, none⟩ ∧ ∀ i, i < n → w.cell? ⟨q, off + i, none⟩ = some (.int .i64 m))
theorem fullInts_any {w : World} {v : Value} {m : Int} (h : FullI w v m) : Calls Tryz.prog 47 #[v, .int .i64 m] w fun e w' => e = .returned (.bool true) ∧ w' = w := by
  obtain ⟨a, n, c, rfl, hn, hc⟩ := h
  have HC := hide hc
  clear hc
  go_enter Tryz.func47, Tryz.ntmps47
  go_wp2
  go_loopw [5] (fun i wr => ∃ j : Nat, j ≤ n ∧ i = .int .i64 j ∧ wr = w) (fun i _ => n - (intOf i).toNat)
  case atStart => exact ⟨0, Nat.zero_le _, rfl, rfl⟩
  case round =>
    obtain ⟨j, hj, rfl, rfl⟩ := hrel
    by_cases hlt : j < n
    · rcases unhide HC with hz | ⟨q, off, rfl, hcq⟩
      · omega
      have g0 := hcq j hlt
      clear hcq HC
      have hk0 : (0 : Int) ≤ (j : Int) := by omega
      have hk1 : (j : Int) < (n : Int) := by omega
      go_wp2
      go_roundw
      case rel => exact ⟨j + 1, by omega, by go_num, trivial⟩
      case measure => simp [intOf]; omega
    · have hk1 : ¬ (j : Int) < (n : Int) := by omega
      go_wp2
      go_ret
      exact ⟨rfl, rfl⟩
/-- A list of inputs that are all one mark. -/
def FullN (w : World) (v : Value) (m : Int) : Prop := ∃ a n c, v = .slice a n c ∧ n ≤ 1000000000 ∧ (n = 0 ∨ ∃ q off, a = some ⟨q, off, none⟩ ∧ ∀ i, i < n → w.cell? ⟨q, off + i * 4, none⟩ = some (.int .i64 0) ∧ w.cell? ⟨q, off + i * 4 + 1, none⟩ = some (.int .i64 0) ∧ w.cell? ⟨q, off + i * 4 + 2, none⟩ = some (.int .i64 m) ∧ w.cell? ⟨q, off + i * 4 + 3, none⟩ = some (.slice none 0 0))
theorem fullInputs_any {w : World} {v : Value} {m : Int} (h : FullN w v m) : Calls Tryz.prog 49 #[v, .int .i64 m] w fun e w' => e = .returned (.bool true) ∧ w' = w := by
  obtain ⟨a, n, c, rfl, hn, hc⟩ := h
  have HC := hide hc
  clear hc
  go_enter Tryz.func49, Tryz.ntmps49
  go_wp2
  go_loopw [5] (fun i wr => ∃ j : Nat, j ≤ n ∧ i = .int .i64 j ∧ wr = w) (fun i _ => n - (intOf i).toNat)
  case atStart => exact ⟨0, Nat.zero_le _, rfl, rfl⟩
  case round =>
    obtain ⟨j, hj, rfl, rfl⟩ := hrel
    by_cases hlt : j < n
    · rcases unhide HC with hz | ⟨q, off, rfl, hcq⟩
      · omega
      obtain ⟨g0, g1, g2, g3⟩ := hcq j hlt
      clear hcq HC
      have hk0 : (0 : Int) ≤ (j : Int) := by omega
      have hk1 : (j : Int) < (n : Int) := by omega
      go_wp2
      go_roundw
      case rel => exact ⟨j + 1, by omega, by go_num, trivial⟩
      case measure => simp [intOf]; omega
    · have hk1 : ¬ (j : Int) < (n : Int) := by omega
      go_wp2
      go_ret
      exact ⟨rfl, rfl⟩
end Go.Proofs.YtfmbebofllgmoaaGreatDoor
