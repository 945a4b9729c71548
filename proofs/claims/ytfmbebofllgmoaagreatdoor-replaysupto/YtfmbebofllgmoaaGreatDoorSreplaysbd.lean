/-
  PROVED HERE: how long a run's trace is at the most; a struct's equality with itself. what the first bytes of a recorded run's log, and the log with one byte turned, are read and had again as. the laws' comparisons of lists of numbers and of inputs that are the same; lists that read as their owner wrote them.
-/
import Derived.Test.YtfmbebofllgmoaaGreatDoorProg
import Derived.WalkKit
import Derived.WalkSpells
import Derived.WalkLawsBesides
import Derived.Deep.QuietTactic
import Derived.BigQuiet
import Derived.Deep.RegionHeld3
import Derived.Deep.AppendLies
import Derived.Laws.EntriesVeiled
import Derived.Deep.DrawnRows
import Derived.BigRegion
import Derived.Deep.LoopGhost
import Derived.Deep.MidRow
import Derived.Shelf.SlSortCmp.SmallK
import Derived.Shelf.SlicesG.Cmp
import Derived.Shelf.Small.Bits
import Derived.Deep.RegionLaw
import Derived.Lib.SliceRun
import Derived.Laws.StructEq
import Derived.Laws.BytesString
import Derived.ArgAppend
import Derived.Deep.DeepCutAuto
import Derived.Conc.LoneCalls
import Derived.Calls
import Derived.Tactics
import Derived.KernelRfl
import Derived.Laws.Rows
import Derived.Lib.SlBytesConst
import Derived.Laws.BitsAllLaws
import Derived.RangeFuncOwn
import Derived.Laws.IdiomStrings
import Derived.RangeFuncNested
import Derived.RangeFuncBound
import Derived.RangeFuncCalls
import Derived.RangeFuncLeaves
import Derived.Shelf.RegionOpen
import Derived.OwnWalkIn
import Derived.TacticsInMore
import Derived.Maps.OwnIn
import Derived.Maps.AppendAt
import Derived.LoopNIn
import Derived.LoopIn
import Derived.ChangeKeysEq
import Derived.Test.YtfmbebofllgmoaaGreatDoorSreplaysbc
namespace Go.Proofs.YtfmbebofllgmoaaGreatDoor
open Go.RowKit
section
variable {σ : Type} {ask : σ → Int → Int → Rep × σ} {mes : σ → Nat}
theorem turnsM_rinv (hs : SrcOk ask mes) {p : Pg} (hp : PgOk p) : ∀ (k N : Nat) (s : PS) (x : σ), RInv p N s → RInv p (N + 16 * k) (turnsM ask p k s x).1
  | 0, _, _, _, h => h
  | k + 1, N, s, x, h => by
    unfold turnsM
    refine ite_ok (P := fun q : PS × σ => RInv p (N + 16 * (k + 1)) q.1) ?_ (h.mono (Nat.le_add_right _ _))
    exact (turnsM_rinv hs hp k (N + 16) _ _ (turnM_rinv hs hp x h)).mono (by omega)
theorem runM_trace (hs : SrcOk ask mes) {p : Pg} (hp : PgOk p) (k : Nat) (f : Int) (x : σ) : (runM ask p k f x).1.trace.length ≤ 5000 + 16 * k := by
  have hq0 : RInv p 5000 (s0 (min (max f 0) 5000)) := by
    refine ⟨⟨⟨by show 0 ≤ min (max f 0) 5000; omega, by show min (max f 0) 5000 ≤ 5000; omega⟩, ⟨by show (0 : Int) ≤ 0; omega, by show (0 : Int) ≤ 1099511627776; omega⟩, ⟨by show (0 : Int) ≤ 0; omega, by show (0 : Int) + min (max f 0) 5000 ≤ 5000; omega⟩, by show 0 + (min (max f 0) 5000).toNat ≤ 5000; omega⟩, ⟨fun _ h => absurd h Bool.false_ne_true, fun _ h => absurd h Bool.false_ne_true, fun _ h => absurd h Bool.false_ne_true, fun _ _ h => absurd h Bool.false_ne_true⟩⟩
  have hq1 := hM_rinv hs hp.sr (s0 (min (max f 0) 5000)) x hq0
  have h2 : RInv p (5000 + 16 * k) (runM ask p k f x).1 := turnsM_rinv hs hp k 5000 _ _ hq1
  have := h2.1.trace
  omega
end
theorem recM_trace {p : Pg} (hp : PgOk p) (f : Int) (lc : List Int) (bt : List (Value × List Int)) (lp ll : List Int) : (recM p f lc bt lp ll).1.trace.length ≤ 5000 + 16 * (lc.length + 1) := runM_trace recAsk_ok hp _ _ _
theorem plain2 : Tryz.prog.plainKey 2 = true := by kernel_rfl
theorem kcel2 : Tryz.prog.cellsOf 2 = 1 := by kernel_rfl
theorem und2 : Tryz.prog.underlying 2 = some (.int .i64) := by kernel_rfl
theorem eqInt2 (n : Nat) (a : Int) (w : World) : (Op.equalIn (n + 1) 2 (.int .i64 a) (.int .i64 a)).run Tryz.prog w = .ok true w := by
  simp [Op.equalIn, run_underlying und2]
theorem eqItems2 (n : Nat) (xs : Array Value) (w : World) : ∀ (l : List Nat), (∀ j, j ∈ l → ∃ z, xs[j]? = some (.int .i64 z)) → (Op.eqItems (n + 1) 2 1 xs xs l).run Tryz.prog w = .ok true w
  | [], _ => by simp [Op.eqItems]
  | j :: r, h => by
    obtain ⟨z, hz⟩ := h j (List.mem_cons_self ..)
    have p : (part 2 xs j).run Tryz.prog w = .ok (.int .i64 z) w := run_part_plain w plain2 hz
    have ih := eqItems2 n xs w r (fun i hi => h i (List.mem_cons_of_mem _ hi))
    simp only [Op.eqItems, Sem.run_bind, Nat.mul_one, p, Result.andThen_ok, eqInt2 n, Bool.not_true, Bool.false_eq_true, if_false]
    exact ih
theorem eq35n (n : Nat) (a b c d : Int) (w : World) : (Op.equalIn (n + 2) 35 (.agg #[.int .i64 a, .int .i64 b, .int .i64 c, .int .i64 d]) (.agg #[.int .i64 a, .int .i64 b, .int .i64 c, .int .i64 d])).run Tryz.prog w = .ok true w := by
  obtain ⟨i, hi⟩ := info_of_underlying und2
  rw [run_equalIn_array (P := Tryz.prog) w (n + 1) _ _ Tryz.underlying35 hi, kcel2]
  refine eqItems2 n _ w _ (fun j hj => ?_)
  have : j = 0 ∨ j = 1 ∨ j = 2 ∨ j = 3 := by have := List.mem_range.1 hj; omega
  rcases this with rfl | rfl | rfl | rfl <;> exact ⟨_, rfl⟩
theorem eq35 (a b c d : Int) (w : World) : (Op.equalIn 9999 35 (.agg #[.int .i64 a, .int .i64 b, .int .i64 c, .int .i64 d]) (.agg #[.int .i64 a, .int .i64 b, .int .i64 c, .int .i64 d])).run Tryz.prog w = .ok true w := eq35n 9997 a b c d w
end Go.Proofs.YtfmbebofllgmoaaGreatDoor
namespace Go.Proofs.YtfmbebofllgmoaaGreatDoor
open Go.RowKit

/-- What is had again of the first inputs. -/
def BeginsAs (p : Pg) (f : Int) (s : PS) (xs : List Inp) (ys : List Inp) (y : VL) : Prop :=
  (repS p f y).trace <+: s.trace ∧ ((xs.length ≤ ys.length ∧ repS p f y = s) ∨ (ys.length < xs.length ∧ (repS p f y).fin = 5 ∧ (repS p f y).heard = ys.length))
theorem rep_take {p : Pg} (hp : PgOk p) {f : Int} {x : RS} {s : PS} {xs : List Inp} (h : RecRun p f x s xs) (m : Nat) (hm : m ≤ xs.length) (y : VL) (hy : y.1 = xs.take m) : BeginsAs p f s xs (xs.take m) y := by
  have hl : (xs.take m).length = m := by rw [List.length_take]; omega
  rcases h.torn hp m hm y hy with ⟨rfl, h1, h2⟩ | ⟨hlt, h1, h2, h3⟩
  · have e : repS p f y = s := by unfold repS; rw [h1, h2]
    exact ⟨by rw [e]; exact List.prefix_refl _, .inl ⟨by omega, e⟩⟩
  · refine ⟨h3, .inr ⟨by omega, ?_, ?_⟩⟩
    · show endR (repM p f y).1.fin _ = 5
      unfold endR; rw [if_pos (.inl h1)]; exact h1
    · show (repM p f y).1.heard = _
      rw [h2, hl]
theorem rep_all {p : Pg} (hp : PgOk p) {f : Int} {x : RS} {s : PS} {xs : List Inp} (h : RecRun p f x s xs) (y : VL) (hy : y.1 = alls xs s.fin.toNat) : BeginsAs p f s xs (alls xs s.fin.toNat) y := by
  have hs := h.same hp y hy
  have e : repS p f y = s := by unfold repS; rw [hs.1, hs.2]
  exact ⟨by rw [e]; exact List.prefix_refl _, .inl ⟨by unfold alls; simp, e⟩⟩
theorem alls_pre (xs : List Inp) (e m : Nat) : xs.take m <+: alls xs e := (List.take_prefix m xs).trans (List.prefix_append _ _)

/-- What a recorded run's log is, whole, torn and harmed. -/
theorem cut_facts {p : Pg} (hp : PgOk p) (f : Int) (lc : List Int) (bt : List (Value × List Int)) (lp ll : List Int) (hN : lc.length + bt.length + lp.length + ll.length ≤ 50000000) (rm : PS × RS) (hrm : rm = recM p f lc bt lp ll) :
    ∃ xs : List Inp, readL (bs (recLog rm)) = (alls xs rm.1.fin.toNat, (recLog rm).size, 1) ∧ rm.1.heard = xs.length ∧ (1 ≤ rm.1.fin ∧ rm.1.fin ≤ 5) ∧ xs.length ≤ lc.length + bt.length + lp.length + ll.length ∧ (recLog rm).size ≤ 1000000000 ∧ 8 < (recLog rm).size ∧
      (∀ n, n ≤ (recLog rm).size → ∀ s : ByteArray, bs s = (bs (recLog rm)).take n → (n < 3 → readL (bs s) = ([], 0, 2)) ∧
        (3 ≤ n → ∃ ys a why, readL (bs s) = (ys, a, why) ∧ ys <+: alls xs rm.1.fin.toNat ∧ 3 ≤ a ∧ a ≤ n ∧ (n < (recLog rm).size → why = 2) ∧ (n = (recLog rm).size → why = 1) ∧ BeginsAs p f rm.1 xs ys (rdV s))) ∧
      (∀ n v, n < (recLog rm).size → v < 256 → v ≠ (bs (recLog rm)).getD n 0 → ∀ s : ByteArray, bs s = (bs (recLog rm)).set n v → (n < 3 → readL (bs s) = ([], 0, 4)) ∧
        (3 ≤ n → ∃ ys a why, readL (bs s) = (ys, a, why) ∧ ys <+: alls xs rm.1.fin.toNat ∧ 3 ≤ a ∧ a ≤ n ∧ 2 ≤ why ∧ why ≤ 4 ∧ BeginsAs p f rm.1 xs ys (rdV s))) := by
  obtain ⟨xs, hrun, hlog, hcount⟩ := rec_run hp f lc bt lp ll hN
  rw [← hrm] at hrun hlog
  have hfin := hrun.fin
  have hrd := read_log xs rm.1.fin.toNat hrun.fit (by omega) (by omega)
  have hsz : (bs (recLog rm)).length = (recLog rm).size := by simp [bs]
  have hll : (logL xs rm.1.fin.toNat).length = (recLog rm).size := by rw [← hlog, hsz]
  have h1 := frs_len xs hrun.fit
  have h2 := bodyL_len (fit_end rm.1.fin.toNat (by omega) (by omega))
  have h3 := frL_len (5, 0, rm.1.fin.toNat, [])
  have h4 := hrun.small
  have h5 : (recLog rm).size = 3 + ((frs xs).length + (frL (5, 0, rm.1.fin.toNat, [])).length) := by
    rw [← hll]; unfold logL; rw [List.length_append, List.length_append]; rfl
  refine ⟨xs, by rw [hlog, hrd, hll]; rfl, hrun.heard, hfin, hcount, by omega, by omega, fun n hn s hs => ⟨fun h => ?_, fun h => ?_⟩, fun n v hn hv hne s hs => ⟨fun h => ?_, fun h => ?_⟩⟩
  · rw [hs, hlog]; exact read_head xs _ n h
  · by_cases hlt : n < (recLog rm).size
    · obtain ⟨m, a, hm, hr, ha, hb⟩ := read_cut xs rm.1.fin.toNat hrun.fit (by omega) (by omega) n h (by omega)
      have hr' : readL (bs s) = (xs.take m, a, 2) := by rw [hs, hlog]; exact hr
      exact ⟨xs.take m, a, 2, hr', alls_pre xs _ m, ha, hb, fun _ => rfl, fun e => absurd e (by omega), rep_take hp hrun m hm (rdV s) (by show (readL (bs s)).1 = _; rw [hr'])⟩
    · have e : n = (recLog rm).size := by omega
      have hs' : bs s = logL xs rm.1.fin.toNat := by rw [hs, hlog, List.take_of_length_le (by omega)]
      have hr' : readL (bs s) = (alls xs rm.1.fin.toNat, n, 1) := by rw [hs', hrd, hll, e]; rfl
      exact ⟨_, n, 1, hr', List.prefix_refl _, h, Nat.le_refl _, fun h' => absurd h' hlt, fun _ => rfl, rep_all hp hrun (rdV s) (by show (readL (bs s)).1 = _; rw [hr'])⟩
  · rw [hlog] at hs hne
    rw [hs]
    refine read_harm_head xs _ n v h ?_
    intro e
    apply hne
    rw [e]
    unfold logL
    rw [List.getD_eq_getElem?_getD, List.getD_eq_getElem?_getD, List.getElem?_append_left (show n < hd3.length from h)]
  · rw [hlog] at hs hne
    obtain ⟨m, a, w, hm, hr, ha, hb, hw1, hw2⟩ := read_harm xs rm.1.fin.toNat hrun.fit (by omega) (by omega) n v h (by omega) hv hne
    have hr' : readL (bs s) = (xs.take m, a, w) := by rw [hs]; exact hr
    exact ⟨xs.take m, a, w, hr', alls_pre xs _ m, ha, hb, hw1, hw2, rep_take hp hrun m hm (rdV s) (by show (readL (bs s)).1 = _; rw [hr'])⟩
end Go.Proofs.YtfmbebofllgmoaaGreatDoor
namespace Go.Proofs.YtfmbebofllgmoaaGreatDoor
open Go.RowKit
attribute [local go_sem ↓] Go.wp_at_zero Go.wp_at_succ

/-- A list of numbers that are all the same. -/
def FullI (w : World) (v : Value) (m : Int) : Prop := ∃ a n c, v = .slice a n c ∧ n ≤ 1000000000 ∧ (n = 0 ∨ ∃ q off, a = some ⟨q, off, none⟩ ∧ ∀ i, i < n → w.cell? ⟨q, off + i, none⟩ = some (.int .i64 m))
theorem fullInts_any {w : World} {v : Value} {m : Int} (h : FullI w v m) : Calls Tryz.prog 47 #[v, .int .i64 m] w fun e w' => e = .returned (.bool true) ∧ w' = w := by
  obtain ⟨a, n, c, rfl, hn, hc⟩ := h
  have HC := hide hc
  clear hc
  go_enter Tryz.func47, Tryz.ntmps47
  go_wp2
  go_loopw [5] (fun i wr => ∃ j : Nat, j ≤ n ∧ i = .int .i64 j ∧ wr = w) (fun i _ => n - (intOf i).toNat)
  case atStart => exact ⟨0, Nat.zero_le _, rfl, rfl⟩
  case round =>
    obtain ⟨j, hj, rfl, rfl⟩ := hrel
    by_cases hlt : j < n
    · rcases unhide HC with hz | ⟨q, off, rfl, hcq⟩
      · omega
      have g0 := hcq j hlt
      clear hcq HC
      have hk0 : (0 : Int) ≤ (j : Int) := by omega
      have hk1 : (j : Int) < (n : Int) := by omega
      go_wp2
      go_roundw
      case rel => exact ⟨j + 1, by omega, by go_num, trivial⟩
      case measure => simp [intOf]; omega
    · have hk1 : ¬ (j : Int) < (n : Int) := by omega
      go_wp2
      go_ret
      exact ⟨rfl, rfl⟩
/-- A list of inputs that are all one mark. -/
def FullN (w : World) (v : Value) (m : Int) : Prop := ∃ a n c, v = .slice a n c ∧ n ≤ 1000000000 ∧ (n = 0 ∨ ∃ q off, a = some ⟨q, off, none⟩ ∧ ∀ i, i < n → w.cell? ⟨q, off + i * 4, none⟩ = some (.int .i64 0) ∧ w.cell? ⟨q, off + i * 4 + 1, none⟩ = some (.int .i64 0) ∧ w.cell? ⟨q, off + i * 4 + 2, none⟩ = some (.int .i64 m) ∧ w.cell? ⟨q, off + i * 4 + 3, none⟩ = some (.slice none 0 0))
theorem fullInputs_any {w : World} {v : Value} {m : Int} (h : FullN w v m) : Calls Tryz.prog 49 #[v, .int .i64 m] w fun e w' => e = .returned (.bool true) ∧ w' = w := by
  obtain ⟨a, n, c, rfl, hn, hc⟩ := h
  have HC := hide hc
  clear hc
  go_enter Tryz.func49, Tryz.ntmps49
  go_wp2
  go_loopw [5] (fun i wr => ∃ j : Nat, j ≤ n ∧ i = .int .i64 j ∧ wr = w) (fun i _ => n - (intOf i).toNat)
  case atStart => exact ⟨0, Nat.zero_le _, rfl, rfl⟩
  case round =>
    obtain ⟨j, hj, rfl, rfl⟩ := hrel
    by_cases hlt : j < n
    · rcases unhide HC with hz | ⟨q, off, rfl, hcq⟩
      · omega
      obtain ⟨g0, g1, g2, g3⟩ := hcq j hlt
      clear hcq HC
      have hk0 : (0 : Int) ≤ (j : Int) := by omega
      have hk1 : (j : Int) < (n : Int) := by omega
      go_wp2
      go_roundw
      case rel => exact ⟨j + 1, by omega, by go_num, trivial⟩
      case measure => simp [intOf]; omega
    · have hk1 : ¬ (j : Int) < (n : Int) := by omega
      go_wp2
      go_ret
      exact ⟨rfl, rfl⟩
/-- An input's cells in a list of inputs of the document. -/
theorem DIns.cells {w : World} {B : Nat} {v : Value} {ps : List (Inp × Value)} (h : DIns w B v ps) {i : Nat} (hi : i < ps.length) : ∃ g c x fv, v = .slice (some ⟨g, 0, none⟩) ps.length c ∧ g < w.heap.size ∧ ps[i]? = some (x, fv) ∧ w.cell? ⟨g, i * 4, none⟩ = some (.int .i64 (x.1 : Nat)) ∧ w.cell? ⟨g, i * 4 + 1, none⟩ = some (.int .i64 (x.2.1 : Nat)) ∧ w.cell? ⟨g, i * 4 + 2, none⟩ = some (.int .i64 (x.2.2.1 : Nat)) ∧ w.cell? ⟨g, i * 4 + 3, none⟩ = some fv ∧ IntsIn w fv (zs x.2.2.2) (fun q => q < w.heap.size) := by
  obtain ⟨g, c, hv, _, hg, hc⟩ := row_cell h.row (by omega)
  have hp : ps[i]? = some ps[i] := List.getElem?_eq_getElem hi
  obtain ⟨g0, g1, g2, g3⟩ := flatP_get ps i _ hp
  exact ⟨g, c, ps[i].1, ps[i].2, hv, hg, hp, hc _ _ g0, hc _ _ g1, hc _ _ g2, hc _ _ g3, intsIn_kept (h.fl _ (List.getElem_mem hi)) (fun _ _ => rfl) (fun _ hq => hq.2.1)⟩

end Go.Proofs.YtfmbebofllgmoaaGreatDoor
