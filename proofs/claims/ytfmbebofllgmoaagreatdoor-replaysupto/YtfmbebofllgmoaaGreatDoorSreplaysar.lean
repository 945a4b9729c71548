/-
  PROVED HERE: what a world's source answers, by kind. the recorder hears what its source answers and writes it down. the recorder over a world is a source that keeps its word. world.New makes a source of all that a world says. the keep statements' world, of a raw one. the document's own loop in memory: its struct, its trace, its armed timers, its source. how a run may end, in numbers; a program that Check takes is one. the recorder as Record makes it. Record runs a program by a world and writes what it heard. the timers that are due go off in the order of their times, and of one time as they were armed: any list that is in this order, of the same timers, is that list.
-/
import Derived.Test.YtfmbebofllgmoaaGreatDoorProg
import Derived.WalkKit
import Derived.WalkSpells
import Derived.WalkLawsBesides
import Derived.Deep.QuietTactic
import Derived.BigQuiet
import Derived.Deep.RegionHeld3
import Derived.Deep.AppendLies
import Derived.Laws.EntriesVeiled
import Derived.Deep.DrawnRows
import Derived.BigRegion
import Derived.Deep.LoopGhost
import Derived.Deep.MidRow
import Derived.Shelf.SlSortCmp.SmallK
import Derived.Shelf.SlicesG.Cmp
import Derived.Shelf.Small.Bits
import Derived.Deep.RegionLaw
import Derived.Lib.SliceRun
import Derived.Laws.StructEq
import Derived.Laws.BytesString
import Derived.ArgAppend
import Derived.Deep.DeepCutAuto
import Derived.Conc.LoneCalls
import Derived.Calls
import Derived.Tactics
import Derived.KernelRfl
import Derived.Laws.Rows
import Derived.Lib.SlBytesConst
import Derived.Test.YtfmbebofllgmoaaGreatDoorSreplaysao
import Derived.Test.YtfmbebofllgmoaaGreatDoorSreplaysaq
namespace Go.Proofs.YtfmbebofllgmoaaGreatDoor
open Go.RowKit Go.Conc
attribute [local go_sem ↓] Go.wp_at_zero Go.wp_at_succ

def exRet (Q : Exit → Act → World → Prop) : Exit → Act → World → Prop
  | .ret, a, w => Q .ret a w
  | _, _, _ => False
theorem exRet_ret {Q : Exit → Act → World → Prop} {a : Act} {w : World} (h : Q .ret a w) : exRet Q .ret a w := h
theorem Rn.body {P : Program} {b : Frame} {fn : Func} {R : Ending → World → Prop} {k : List Item} {a : Act} {w : World} {c : Code} (hk : b.kind = .normal) (hf : P.funcs[b.fn]? = some fn) (h : c.wp P (exRet (bodyPost P fn R)) a w) : Rn P b R (.code c :: k) a w :=
  Rn.code (Q := fun _ _ => False) (ret := fun a w => bodyPost P fn R .ret a w) (ex := fun _ _ _ => False) (wp_mono h (fun e a w h => by cases e <;> exact h)) (fun _ _ h => h.elim) (fun _ _ h => ⟨h.1, hk, fn, h.2.choose, hf, h.2.choose_spec.1, h.2.choose_spec.2⟩) (fun _ _ _ h => h.elim)

/-- A closed channel that holds these. -/
def ChanAt (w : World) (c : Nat) (vs : List Value) : Prop := ∃ cap s r, w.heap[c]? = some (.chan cap vs.toArray true s r false)
theorem ChanAt.block {w w' : World} {c : Nat} {vs : List Value} (h : ChanAt w c vs) (hb : w'.heap[c]? = w.heap[c]?) : ChanAt w' c vs := by
  obtain ⟨cap, s, r, e⟩ := h
  exact ⟨cap, s, r, hb.trans e⟩
theorem ChanAt.lt {w : World} {c : Nat} {vs : List Value} (h : ChanAt w c vs) : c < w.heap.size := by
  obtain ⟨cap, s, r, e⟩ := h
  exact (Array.getElem?_eq_some_iff.1 e).1

theorem Fr.setChan (w : World) (c cap : Nat) (buf : Array Value) (cl : Bool) (s r : Nat) (tm : Bool) : Fr (fun k => k = c) w (w.setChan c cap buf cl s r tm) (fun k => k = c) :=
  ⟨rfl, rfl, rfl, by rw [size_setChan]; exact Nat.le_refl _, fun k _ hn => by simp only [World.setChan]; rw [Array.getElem?_setIfInBounds_ne (fun e => hn e.symm)], fun _ _ h => h⟩

/-- A receive from a closed channel. -/
theorem Rn.take {P : Program} {b : Frame} {R : Ending → World → Prop} {k : List Item} {a : Act} {w : World} {ops : Array Oper} {i : Nat} {rest : List Nat} {o : Oper} {c : Nat} {vs : List Value} {z : Value} (hk : b.kind ≠ .early) (ho : ops[i]? = some o) (hw : Region.wanted o (yielded ops a.tmps) = true)
    (hr : (execOp a.eval o).run P w = .ok (.comm #[rcase c z] true (.recv true)) w) (hc : ChanAt w c vs)
    (h : ∀ W, Fr (fun k => k = c) w W (fun k => k = c) → ChanAt W c vs.tail → Rn P b R (.inRegion ops rest :: k) (a.put o.dst (.tuple #[vs.headD z, .bool (!vs.isEmpty)])) W) : Rn P b R (.inRegion ops (i :: rest) :: k) a w := by
  obtain ⟨cap, s, r, hch⟩ := hc
  cases vs with
  | nil => exact Rn.shut true hk ho hw hr hch (h w (Fr.refl _ _) ⟨cap, s, r, hch⟩)
  | cons v vs =>
    refine Rn.recv true hk ho hw hr hch (by simp) ?_
    have := h (w.setChan c cap ((v :: vs).toArray.extract 1 (v :: vs).toArray.size) true s (r + 1) false) (Fr.setChan _ _ _ _ _ _ _ _) ⟨cap, s, r + 1, by
      rw [heap_setChan _ _ _ _ _ _ _ _ (Array.getElem?_eq_some_iff.1 hch).1]
      simp⟩
    simpa [got] using this

theorem Fr.wide {w w' : World} (h : Fr (fun _ => False) w w' (fun _ => False)) (S : Nat → Prop) : Fr S w w' S := ⟨h.os, h.tape, h.output, h.size, fun k hk _ => h.same k hk (fun h => h), fun _ _ h => h⟩
/-- The answer is laid into its new block. -/
theorem outS {S : Nat → Prop} {w W w' : World} (h : Fr S w W S) (h' : Fr (fun _ => False) W w' (fun _ => False)) (v0 v1 v2 v3 : Value) :
    Fr S w ((((w'.setCell ⟨w.heap.size, 0, none⟩ v0).setCell ⟨w.heap.size, 1, none⟩ v1).setCell ⟨w.heap.size, 2, none⟩ v2).setCell ⟨w.heap.size, 3, none⟩ v3) S :=
  ((((h.trans (h'.wide S)).setCell _ _ (.inr (Nat.le_refl _))).setCell _ _ (.inr (Nat.le_refl _))).setCell _ _ (.inr (Nat.le_refl _))).setCell _ _ (.inr (Nat.le_refl _))
theorem outC {S : Nat → Prop} {w W w' : World} {c : Nat} {vs : List Value} (_ : Fr S w W S) (h' : Fr (fun _ => False) W w' (fun _ => False)) (hc : ChanAt W c vs) (hn : w.heap.size ≠ c) (v0 v1 v2 v3 : Value) :
    ChanAt ((((w'.setCell ⟨w.heap.size, 0, none⟩ v0).setCell ⟨w.heap.size, 1, none⟩ v1).setCell ⟨w.heap.size, 2, none⟩ v2).setCell ⟨w.heap.size, 3, none⟩ v3) c vs :=
  hc.block ((((Below.heap_setCell _ _ _ _ (Ne.symm hn)).trans (Below.heap_setCell _ _ _ _ (Ne.symm hn))).trans (Below.heap_setCell _ _ _ _ (Ne.symm hn))).trans ((Below.heap_setCell _ _ _ _ (Ne.symm hn)).trans (h'.same c hc.lt (fun h => h))))

theorem u95 (x y z : Value) : (#[x, y, z] ++ Array.replicate (95 - (#[x, y, z] : Array Value).size) undef) = (x :: y :: z :: List.replicate 92 undef).toArray := by simp

set_option maxRecDepth 100000 in
set_option maxHeartbeats 2000000 in
theorem hearS_clock {w : World} {sb c0 : Nat} (hs : w.cell? ⟨sb, 0, none⟩ = some (.chan (some c0))) (hsb : sb < w.heap.size) (hne : sb ≠ c0) (l : List Int) (hc : ChanAt w c0 (l.map (.int .i64))) (o : Int) {R : Ending → World → Prop}
    (hR : ∀ w', Fr (fun k => k = c0) w w' (fun k => k = c0) → ChanAt w' c0 (l.tail.map (.int .i64)) → R (.returned (.tuple #[if !l.isEmpty then .agg #[.int .i64 1, .int .i64 0, .int .i64 (min (max (l.headD 0) 0) 1099511627776), .slice none 0 0] else .agg #[.int .i64 0, .int .i64 0, .int .i64 0, .slice none 0 0], .int .i64 (if !l.isEmpty then 0 else 5)])) w') :
    Calls Tryz.prog 182 #[.pointer (some ⟨sb, 0, none⟩), .int .i64 1, .int .i64 o] w R := by
  have HR := hide hR
  clear hR
  refine calls_of_rn Tryz.func182 rfl ?_
  rw [Tryz.ntmps182, u95]
  simp only [List.replicate]
  have h161 := fun k o n => heard_any k o n (.slice none 0 0) none 0 0 rfl
  have hf1 := (Fr.refl (fun k => k = c0) w).alloc (.cells #[.int .i64 0, .int .i64 0, .int .i64 0, .slice none 0 0] 49)
  have hs1 : (w.alloc (.cells #[.int .i64 0, .int .i64 0, .int .i64 0, .slice none 0 0] 49)).cell? ⟨sb, 0, none⟩ = some (.chan (some c0)) := (hf1.cell sb 0 hsb hne).trans hs
  have hc1 : ChanAt (w.alloc (.cells #[.int .i64 0, .int .i64 0, .int .i64 0, .slice none 0 0] 49)) c0 (l.map (.int .i64)) := hc.block (Below.heap_alloc _ _ _ hc.lt)
  have hrow := heap_alloc_new w (.cells #[.int .i64 0, .int .i64 0, .int .i64 0, .slice none 0 0] 49)
  have hw1 : w.heap.size ≠ c0 := by have := hc.lt; omega
  have hz1 : w.heap.size < (w.alloc (.cells #[.int .i64 0, .int .i64 0, .int .i64 0, .slice none 0 0] 49)).heap.size := by simp
  have H161 := hide h161
  have HF1 := hide hf1
  have HROW := hide hrow
  have HC1 := hide hc1
  clear h161 hf1 hrow hc1 hc hs
  refine Rn.seq (Rn.go ?_)
  go_wp2
  generalize hW : w.alloc (.cells #[.int .i64 0, .int .i64 0, .int .i64 0, .slice none 0 0] 49) = W1 at *
  clear hW
  refine exNo_normal (Rn.seq (Rn.seq (Rn.go ?_)))
  go_wp2
  refine exNo_normal (Rn.block (Rn.seq (Rn.go ?_)))
  go_wp2
  refine exNo_normal (Rn.cond (t := true) rfl ?_)
  simp only [if_true]
  refine Rn.seq (Rn.region' [0, 1, 2, 3, 4, 5, 6, 7, 8, 9] rfl ?_)
  refine Rn.op rfl rfl rfl ?_
  refine Rn.op rfl rfl rfl ?_
  refine Rn.op rfl rfl rfl ?_
  refine Rn.op (v := .chan (some c0)) (w' := W1) rfl rfl ?_ ?_
  · simp [execOp, Act.eval, Act.put, go_sem, hs1]
  refine Rn.take (c := c0) (z := .int .i64 0) (vs := l.map (.int .i64)) (by decide) rfl rfl ?_ (unhide HC1) ?_
  · simp [execOp, Act.eval, Act.put, go_sem, rcase]
  intro W2 f2 c2
  have e1 : (l.map (Value.int .i64)).headD (.int .i64 0) = .int .i64 (l.headD 0) := by cases l <;> rfl
  have e2 : (l.map (Value.int .i64)).isEmpty = l.isEmpty := by cases l <;> rfl
  have e3 : (l.map (Value.int .i64)).tail = l.tail.map (Value.int .i64) := by cases l <;> rfl
  rw [e1, e2]
  rw [e3] at c2
  have C2 := hide c2
  have F2 := hide ((unhide HF1).trans f2)
  have HR2 := hide ((f2.same w.heap.size hz1 hw1).trans (unhide HROW))
  have hz2 := Nat.lt_of_lt_of_le hz1 f2.size
  clear e1 e2 e3 c2 f2 HC1 HROW HF1 hs1
  generalize (!l.isEmpty) = ok at *
  generalize l.headD 0 = n at *
  simp only [Act.put]
  refine Rn.op (v := .tuple #[.int .i64 n, .bool ok]) (w' := W2) rfl rfl (by simp [execOp, Act.eval, go_sem]) ?_
  simp only [Act.put]
  refine Rn.op (v := .int .i64 n) (w' := W2) rfl rfl (by simp [execOp, Act.eval, go_sem]) ?_
  simp only [Act.put]
  refine Rn.op (v := .bool ok) (w' := W2) rfl rfl (by simp [execOp, Act.eval, go_sem]) ?_
  simp only [Act.put]
  refine Rn.op (v := .int .i64 n) (w' := W2) rfl rfl (by simp [execOp, Act.eval, go_sem]) ?_
  simp only [Act.put]
  refine Rn.op (v := .bool ok) (w' := W2) rfl rfl (by simp [execOp, Act.eval, go_sem]) ?_
  simp only [Act.put]
  refine Rn.regionEnd (Rn.body rfl Tryz.func182 ?_)
  cases ok
  · go_wp2_with (go_at_call 183; refine (unhide H161 _ _ _ _ _).mono ?_; rintro e w3 ⟨rfl, f3⟩; have hrow := (f3.same _ hz2 (fun h => h)).trans (unhide HR2); have hcell := fun j => cell_of_row w3 w.heap.size j _ 49 (0, 0) hrow; have hfz := fun j => frozen_rowE hrow j; have F3 := hide f3; clear f3 hrow)
    refine exRet_ret (bodyPost_ret (v := .tuple #[.agg #[.int .i64 0, .int .i64 0, .int .i64 0, .slice none 0 0], .int .i64 5]) (by simp [results, Tryz.results182, go_sem, hcell]) rfl ?_)
    exact unhide HR _ (outS (unhide F2) (unhide F3) _ _ _ _) (outC (unhide F2) (unhide F3) (unhide C2) hw1 _ _ _ _)
  · go_wp2_with (go_at_call 183; refine (unhide H161 _ _ _ _ _).mono ?_; rintro e w3 ⟨rfl, f3⟩; have hrow := (f3.same _ hz2 (fun h => h)).trans (unhide HR2); have hcell := fun j => cell_of_row w3 w.heap.size j _ 49 (0, 0) hrow; have hfz := fun j => frozen_rowE hrow j; have F3 := hide f3; clear f3 hrow)
    refine exRet_ret (bodyPost_ret (v := .tuple #[.agg #[.int .i64 1, .int .i64 0, .int .i64 (min (max n 0) 1099511627776), .slice none 0 0], .int .i64 0]) (by simp [results, Tryz.results182, go_sem, hcell]) rfl ?_)
    exact unhide HR _ (outS (unhide F2) (unhide F3) _ _ _ _) (outC (unhide F2) (unhide F3) (unhide C2) hw1 _ _ _ _)
set_option maxRecDepth 100000 in
set_option maxHeartbeats 2000000 in
theorem hearS_pick {w : World} {sb c0 : Nat} (hs : w.cell? ⟨sb, 2, none⟩ = some (.chan (some c0))) (hsb : sb < w.heap.size) (hne : sb ≠ c0) (l : List Int) (hc : ChanAt w c0 (l.map (.int .i64))) (o : Int) (ho1 : 1 ≤ o) (ho2 : o ≤ 1000000) {R : Ending → World → Prop}
    (hR : ∀ w', Fr (fun k => k = c0) w w' (fun k => k = c0) → ChanAt w' c0 (l.tail.map (.int .i64)) → R (.returned (.tuple #[if !l.isEmpty then .agg #[.int .i64 3, .int .i64 o, .int .i64 (l.headD 0 % o), .slice none 0 0] else .agg #[.int .i64 0, .int .i64 0, .int .i64 0, .slice none 0 0], .int .i64 (if !l.isEmpty then 0 else 5)])) w') :
    Calls Tryz.prog 182 #[.pointer (some ⟨sb, 0, none⟩), .int .i64 3, .int .i64 o] w R := by
  have HR := hide hR
  clear hR
  refine calls_of_rn Tryz.func182 rfl ?_
  rw [Tryz.ntmps182, u95]
  simp only [List.replicate]
  have h161 := fun k o n => heard_any k o n (.slice none 0 0) none 0 0 rfl
  have hf1 := (Fr.refl (fun k => k = c0) w).alloc (.cells #[.int .i64 0, .int .i64 0, .int .i64 0, .slice none 0 0] 49)
  have hs1 : (w.alloc (.cells #[.int .i64 0, .int .i64 0, .int .i64 0, .slice none 0 0] 49)).cell? ⟨sb, 2, none⟩ = some (.chan (some c0)) := (hf1.cell sb 2 hsb hne).trans hs
  have hc1 : ChanAt (w.alloc (.cells #[.int .i64 0, .int .i64 0, .int .i64 0, .slice none 0 0] 49)) c0 (l.map (.int .i64)) := hc.block (Below.heap_alloc _ _ _ hc.lt)
  have hrow := heap_alloc_new w (.cells #[.int .i64 0, .int .i64 0, .int .i64 0, .slice none 0 0] 49)
  have hw1 : w.heap.size ≠ c0 := by have := hc.lt; omega
  have hz1 : w.heap.size < (w.alloc (.cells #[.int .i64 0, .int .i64 0, .int .i64 0, .slice none 0 0] 49)).heap.size := by simp
  have H161 := hide h161
  have H163 := hide (fun n w => modulo_any n o w ho1 ho2)
  have HF1 := hide hf1
  have HROW := hide hrow
  have HC1 := hide hc1
  clear h161 hf1 hrow hc1 hc hs
  refine Rn.seq (Rn.go ?_)
  go_wp2
  generalize hW : w.alloc (.cells #[.int .i64 0, .int .i64 0, .int .i64 0, .slice none 0 0] 49) = W1 at *
  clear hW
  refine exNo_normal (Rn.seq (Rn.seq (Rn.go ?_)))
  go_wp2
  refine exNo_normal (Rn.block (Rn.seq (Rn.go ?_)))
  go_wp2
  refine exNo_normal (Rn.cond (t := false) rfl ?_)
  simp only [if_false, Bool.false_eq_true]
  refine Rn.seq (Rn.go ?_)
  go_wp2
  refine exNo_normal (Rn.cond (t := false) rfl ?_)
  simp only [if_false, Bool.false_eq_true]
  refine Rn.seq (Rn.go ?_)
  go_wp2
  refine exNo_normal (Rn.cond (t := true) rfl ?_)
  simp only [if_true]
  refine Rn.seq (Rn.region' [0, 1, 2, 3, 4, 5, 6, 7, 8, 9] rfl ?_)
  refine Rn.op rfl rfl rfl ?_
  refine Rn.op rfl rfl rfl ?_
  refine Rn.op rfl rfl rfl ?_
  refine Rn.op (v := .chan (some c0)) (w' := W1) rfl rfl ?_ ?_
  · simp [execOp, Act.eval, Act.put, go_sem, hs1]
  refine Rn.take (c := c0) (z := .int .i64 0) (vs := l.map (.int .i64)) (by decide) rfl rfl ?_ (unhide HC1) ?_
  · simp [execOp, Act.eval, Act.put, go_sem, rcase]
  intro W2 f2 c2
  have e1 : (l.map (Value.int .i64)).headD (.int .i64 0) = .int .i64 (l.headD 0) := by cases l <;> rfl
  have e2 : (l.map (Value.int .i64)).isEmpty = l.isEmpty := by cases l <;> rfl
  have e3 : (l.map (Value.int .i64)).tail = l.tail.map (Value.int .i64) := by cases l <;> rfl
  rw [e1, e2]
  rw [e3] at c2
  have C2 := hide c2
  have F2 := hide ((unhide HF1).trans f2)
  have HR2 := hide ((f2.same w.heap.size hz1 hw1).trans (unhide HROW))
  have hz2 := Nat.lt_of_lt_of_le hz1 f2.size
  clear e1 e2 e3 c2 f2 HC1 HROW HF1 hs1
  generalize (!l.isEmpty) = ok at *
  generalize l.headD 0 = n at *
  simp only [Act.put]
  refine Rn.op (v := .tuple #[.int .i64 n, .bool ok]) (w' := W2) rfl rfl (by simp [execOp, Act.eval, go_sem]) ?_
  simp only [Act.put]
  refine Rn.op (v := .int .i64 n) (w' := W2) rfl rfl (by simp [execOp, Act.eval, go_sem]) ?_
  simp only [Act.put]
  refine Rn.op (v := .bool ok) (w' := W2) rfl rfl (by simp [execOp, Act.eval, go_sem]) ?_
  simp only [Act.put]
  refine Rn.op (v := .int .i64 n) (w' := W2) rfl rfl (by simp [execOp, Act.eval, go_sem]) ?_
  simp only [Act.put]
  refine Rn.op (v := .bool ok) (w' := W2) rfl rfl (by simp [execOp, Act.eval, go_sem]) ?_
  simp only [Act.put]
  refine Rn.regionEnd (Rn.body rfl Tryz.func182 ?_)
  cases ok
  · go_wp2_with (first | (go_at_call 185; refine (unhide H163 _ _).mono ?_; rintro e w3 ⟨rfl, rfl⟩) | (go_at_call 183; refine (unhide H161 _ _ _ _ _).mono ?_; rintro e w3 ⟨rfl, f3⟩; have hrow := (f3.same _ hz2 (fun h => h)).trans (unhide HR2); have hcell := fun j => cell_of_row w3 w.heap.size j _ 49 (0, 0) hrow; have hfz := fun j => frozen_rowE hrow j; have F3 := hide f3; clear f3 hrow))
    refine exRet_ret (bodyPost_ret (v := .tuple #[.agg #[.int .i64 0, .int .i64 0, .int .i64 0, .slice none 0 0], .int .i64 5]) (by simp [results, Tryz.results182, go_sem, hcell]) rfl ?_)
    exact unhide HR _ (outS (unhide F2) (unhide F3) _ _ _ _) (outC (unhide F2) (unhide F3) (unhide C2) hw1 _ _ _ _)
  · go_wp2_with (first | (go_at_call 185; refine (unhide H163 _ _).mono ?_; rintro e w3 ⟨rfl, rfl⟩) | (go_at_call 183; refine (unhide H161 _ _ _ _ _).mono ?_; rintro e w3 ⟨rfl, f3⟩; have hrow := (f3.same _ hz2 (fun h => h)).trans (unhide HR2); have hcell := fun j => cell_of_row w3 w.heap.size j _ 49 (0, 0) hrow; have hfz := fun j => frozen_rowE hrow j; have F3 := hide f3; clear f3 hrow))
    refine exRet_ret (bodyPost_ret (v := .tuple #[.agg #[.int .i64 3, .int .i64 o, .int .i64 (n % o), .slice none 0 0], .int .i64 0]) (by simp [results, Tryz.results182, go_sem, hcell]) rfl ?_)
    exact unhide HR _ (outS (unhide F2) (unhide F3) _ _ _ _) (outC (unhide F2) (unhide F3) (unhide C2) hw1 _ _ _ _)
set_option maxRecDepth 100000 in
set_option maxHeartbeats 2000000 in
theorem hearS_lot {w : World} {sb c0 : Nat} (hs : w.cell? ⟨sb, 3, none⟩ = some (.chan (some c0))) (hsb : sb < w.heap.size) (hne : sb ≠ c0) (l : List Int) (hc : ChanAt w c0 (l.map (.int .i64))) (o : Int) (ho1 : 1 ≤ o) (ho2 : o ≤ 1000000) {R : Ending → World → Prop}
    (hR : ∀ w', Fr (fun k => k = c0) w w' (fun k => k = c0) → ChanAt w' c0 (l.tail.map (.int .i64)) → R (.returned (.tuple #[if !l.isEmpty then .agg #[.int .i64 4, .int .i64 o, .int .i64 (l.headD 0 % o), .slice none 0 0] else .agg #[.int .i64 0, .int .i64 0, .int .i64 0, .slice none 0 0], .int .i64 (if !l.isEmpty then 0 else 5)])) w') :
    Calls Tryz.prog 182 #[.pointer (some ⟨sb, 0, none⟩), .int .i64 4, .int .i64 o] w R := by
  have HR := hide hR
  clear hR
  refine calls_of_rn Tryz.func182 rfl ?_
  rw [Tryz.ntmps182, u95]
  simp only [List.replicate]
  have h161 := fun k o n => heard_any k o n (.slice none 0 0) none 0 0 rfl
  have hf1 := (Fr.refl (fun k => k = c0) w).alloc (.cells #[.int .i64 0, .int .i64 0, .int .i64 0, .slice none 0 0] 49)
  have hs1 : (w.alloc (.cells #[.int .i64 0, .int .i64 0, .int .i64 0, .slice none 0 0] 49)).cell? ⟨sb, 3, none⟩ = some (.chan (some c0)) := (hf1.cell sb 3 hsb hne).trans hs
  have hc1 : ChanAt (w.alloc (.cells #[.int .i64 0, .int .i64 0, .int .i64 0, .slice none 0 0] 49)) c0 (l.map (.int .i64)) := hc.block (Below.heap_alloc _ _ _ hc.lt)
  have hrow := heap_alloc_new w (.cells #[.int .i64 0, .int .i64 0, .int .i64 0, .slice none 0 0] 49)
  have hw1 : w.heap.size ≠ c0 := by have := hc.lt; omega
  have hz1 : w.heap.size < (w.alloc (.cells #[.int .i64 0, .int .i64 0, .int .i64 0, .slice none 0 0] 49)).heap.size := by simp
  have H161 := hide h161
  have H163 := hide (fun n w => modulo_any n o w ho1 ho2)
  have HF1 := hide hf1
  have HROW := hide hrow
  have HC1 := hide hc1
  clear h161 hf1 hrow hc1 hc hs
  refine Rn.seq (Rn.go ?_)
  go_wp2
  generalize hW : w.alloc (.cells #[.int .i64 0, .int .i64 0, .int .i64 0, .slice none 0 0] 49) = W1 at *
  clear hW
  refine exNo_normal (Rn.seq (Rn.seq (Rn.go ?_)))
  go_wp2
  refine exNo_normal (Rn.block (Rn.seq (Rn.go ?_)))
  go_wp2
  refine exNo_normal (Rn.cond (t := false) rfl ?_)
  simp only [if_false, Bool.false_eq_true]
  refine Rn.seq (Rn.go ?_)
  go_wp2
  refine exNo_normal (Rn.cond (t := false) rfl ?_)
  simp only [if_false, Bool.false_eq_true]
  refine Rn.seq (Rn.go ?_)
  go_wp2
  refine exNo_normal (Rn.cond (t := false) rfl ?_)
  simp only [if_false, Bool.false_eq_true]
  refine Rn.seq (Rn.go ?_)
  go_wp2
  refine exNo_normal (Rn.cond (t := true) rfl ?_)
  simp only [if_true]
  refine Rn.seq (Rn.region' [0, 1, 2, 3, 4, 5, 6, 7, 8, 9] rfl ?_)
  refine Rn.op rfl rfl rfl ?_
  refine Rn.op rfl rfl rfl ?_
  refine Rn.op rfl rfl rfl ?_
  refine Rn.op (v := .chan (some c0)) (w' := W1) rfl rfl ?_ ?_
  · simp [execOp, Act.eval, Act.put, go_sem, hs1]
  refine Rn.take (c := c0) (z := .int .i64 0) (vs := l.map (.int .i64)) (by decide) rfl rfl ?_ (unhide HC1) ?_
  · simp [execOp, Act.eval, Act.put, go_sem, rcase]
  intro W2 f2 c2
  have e1 : (l.map (Value.int .i64)).headD (.int .i64 0) = .int .i64 (l.headD 0) := by cases l <;> rfl
  have e2 : (l.map (Value.int .i64)).isEmpty = l.isEmpty := by cases l <;> rfl
  have e3 : (l.map (Value.int .i64)).tail = l.tail.map (Value.int .i64) := by cases l <;> rfl
  rw [e1, e2]
  rw [e3] at c2
  have C2 := hide c2
  have F2 := hide ((unhide HF1).trans f2)
  have HR2 := hide ((f2.same w.heap.size hz1 hw1).trans (unhide HROW))
  have hz2 := Nat.lt_of_lt_of_le hz1 f2.size
  clear e1 e2 e3 c2 f2 HC1 HROW HF1 hs1
  generalize (!l.isEmpty) = ok at *
  generalize l.headD 0 = n at *
  simp only [Act.put]
  refine Rn.op (v := .tuple #[.int .i64 n, .bool ok]) (w' := W2) rfl rfl (by simp [execOp, Act.eval, go_sem]) ?_
  simp only [Act.put]
  refine Rn.op (v := .int .i64 n) (w' := W2) rfl rfl (by simp [execOp, Act.eval, go_sem]) ?_
  simp only [Act.put]
  refine Rn.op (v := .bool ok) (w' := W2) rfl rfl (by simp [execOp, Act.eval, go_sem]) ?_
  simp only [Act.put]
  refine Rn.op (v := .int .i64 n) (w' := W2) rfl rfl (by simp [execOp, Act.eval, go_sem]) ?_
  simp only [Act.put]
  refine Rn.op (v := .bool ok) (w' := W2) rfl rfl (by simp [execOp, Act.eval, go_sem]) ?_
  simp only [Act.put]
  refine Rn.regionEnd (Rn.body rfl Tryz.func182 ?_)
  cases ok
  · go_wp2_with (first | (go_at_call 185; refine (unhide H163 _ _).mono ?_; rintro e w3 ⟨rfl, rfl⟩) | (go_at_call 183; refine (unhide H161 _ _ _ _ _).mono ?_; rintro e w3 ⟨rfl, f3⟩; have hrow := (f3.same _ hz2 (fun h => h)).trans (unhide HR2); have hcell := fun j => cell_of_row w3 w.heap.size j _ 49 (0, 0) hrow; have hfz := fun j => frozen_rowE hrow j; have F3 := hide f3; clear f3 hrow))
    refine exRet_ret (bodyPost_ret (v := .tuple #[.agg #[.int .i64 0, .int .i64 0, .int .i64 0, .slice none 0 0], .int .i64 5]) (by simp [results, Tryz.results182, go_sem, hcell]) rfl ?_)
    exact unhide HR _ (outS (unhide F2) (unhide F3) _ _ _ _) (outC (unhide F2) (unhide F3) (unhide C2) hw1 _ _ _ _)
  · go_wp2_with (first | (go_at_call 185; refine (unhide H163 _ _).mono ?_; rintro e w3 ⟨rfl, rfl⟩) | (go_at_call 183; refine (unhide H161 _ _ _ _ _).mono ?_; rintro e w3 ⟨rfl, f3⟩; have hrow := (f3.same _ hz2 (fun h => h)).trans (unhide HR2); have hcell := fun j => cell_of_row w3 w.heap.size j _ 49 (0, 0) hrow; have hfz := fun j => frozen_rowE hrow j; have F3 := hide f3; clear f3 hrow))
    refine exRet_ret (bodyPost_ret (v := .tuple #[.agg #[.int .i64 4, .int .i64 o, .int .i64 (n % o), .slice none 0 0], .int .i64 0]) (by simp [results, Tryz.results182, go_sem, hcell]) rfl ?_)
    exact unhide HR _ (outS (unhide F2) (unhide F3) _ _ _ _) (outC (unhide F2) (unhide F3) (unhide C2) hw1 _ _ _ _)
theorem ownI_shape {w : World} {B : Nat} {v : Value} {l : List Int} (h : OwnI w B v l) : ∃ a n c, v = .slice a n c := by
  rcases h.2 with ⟨h1, _⟩ | ⟨g, cap, cur, hv, _⟩
  · exact ⟨_, _, _, h1⟩
  · exact ⟨_, _, _, hv⟩
set_option maxRecDepth 100000 in
set_option maxHeartbeats 2000000 in
theorem hearS_batch {w : World} {sb c0 : Nat} (hs : w.cell? ⟨sb, 1, none⟩ = some (.chan (some c0))) (hsb : sb < w.heap.size) (hne : sb ≠ c0) (bs : List (Value × List Int)) (hc : ChanAt w c0 (bs.map (·.1))) (hin : ∀ p, p ∈ bs → IntsIn w p.1 p.2 (fun q => q < w.heap.size ∧ q ≠ c0) ∧ p.2.length ≤ 100000000) (o : Int) {R : Ending → World → Prop}
    (hR : ∀ w' fv, Fr (fun k => k = c0) w w' (fun k => k = c0) → ChanAt w' c0 (bs.tail.map (·.1)) → (bs ≠ [] → OwnI w' (w.heap.size + 1) fv (filesL (bs.headD (.slice none 0 0, [])).2)) → R (.returned (.tuple #[if !bs.isEmpty then .agg #[.int .i64 2, .int .i64 0, .int .i64 0, fv] else .agg #[.int .i64 0, .int .i64 0, .int .i64 0, .slice none 0 0], .int .i64 (if !bs.isEmpty then 0 else 5)])) w') :
    Calls Tryz.prog 182 #[.pointer (some ⟨sb, 0, none⟩), .int .i64 2, .int .i64 o] w R := by
  have HR := hide hR
  clear hR
  refine calls_of_rn Tryz.func182 rfl ?_
  rw [Tryz.ntmps182, u95]
  simp only [List.replicate]
  have h161 := fun k o n a l c => heard_any k o n (.slice a l c) a l c rfl
  have hf1 := (Fr.refl (fun k => k = c0) w).alloc (.cells #[.int .i64 0, .int .i64 0, .int .i64 0, .slice none 0 0] 49)
  have hs1 : (w.alloc (.cells #[.int .i64 0, .int .i64 0, .int .i64 0, .slice none 0 0] 49)).cell? ⟨sb, 1, none⟩ = some (.chan (some c0)) := (hf1.cell sb 1 hsb hne).trans hs
  have hc1 : ChanAt (w.alloc (.cells #[.int .i64 0, .int .i64 0, .int .i64 0, .slice none 0 0] 49)) c0 (bs.map (·.1)) := hc.block (Below.heap_alloc _ _ _ hc.lt)
  have hrow := heap_alloc_new w (.cells #[.int .i64 0, .int .i64 0, .int .i64 0, .slice none 0 0] 49)
  have hw1 : w.heap.size ≠ c0 := by have := hc.lt; omega
  have hz1 : w.heap.size < (w.alloc (.cells #[.int .i64 0, .int .i64 0, .int .i64 0, .slice none 0 0] 49)).heap.size := by simp
  have H161 := hide h161
  have HIN := hide hin
  have HF1 := hide hf1
  have HROW := hide hrow
  have HC1 := hide hc1
  clear h161 hf1 hrow hc1 hc hs hin
  refine Rn.seq (Rn.go ?_)
  go_wp2
  generalize hW : w.alloc (.cells #[.int .i64 0, .int .i64 0, .int .i64 0, .slice none 0 0] 49) = W1 at *
  clear hW
  refine exNo_normal (Rn.seq (Rn.seq (Rn.go ?_)))
  go_wp2
  refine exNo_normal (Rn.block (Rn.seq (Rn.go ?_)))
  go_wp2
  refine exNo_normal (Rn.cond (t := false) rfl ?_)
  simp only [if_false, Bool.false_eq_true]
  refine Rn.seq (Rn.go ?_)
  go_wp2
  refine exNo_normal (Rn.cond (t := true) rfl ?_)
  simp only [if_true]
  refine Rn.seq (Rn.region' [0, 1, 2, 3, 4, 5, 6, 7, 8, 9] rfl ?_)
  refine Rn.op rfl rfl rfl ?_
  refine Rn.op rfl rfl rfl ?_
  refine Rn.op rfl rfl rfl ?_
  refine Rn.op (v := .chan (some c0)) (w' := W1) rfl rfl ?_ ?_
  · simp [execOp, Act.eval, Act.put, go_sem, hs1]
  refine Rn.take (c := c0) (z := .slice none 0 0) (vs := bs.map (·.1)) (by decide) rfl rfl ?_ (unhide HC1) ?_
  · simp [execOp, Act.eval, Act.put, go_sem, rcase]
  intro W2 f2 c2
  have hI : IntsIn W2 (bs.headD (.slice none 0 0, [])).1 (bs.headD (.slice none 0 0, [])).2 (fun q => q < W2.heap.size) ∧ (bs.headD (.slice none 0 0, [])).2.length ≤ 100000000 := by
    cases bs with
    | nil => exact ⟨⟨none, 0, rfl, .inl rfl⟩, by simp⟩
    | cons p r =>
      obtain ⟨⟨a, c, ha, hq⟩, hl⟩ := unhide HIN p (List.mem_cons_self ..)
      refine ⟨⟨a, c, ha, hq.imp id fun ⟨q, off, h1, h2, h3⟩ => ⟨q, off, h1, ?_, fun i hi => ?_⟩⟩, hl⟩
      · exact Nat.lt_of_lt_of_le h2.1 (Nat.le_trans (unhide HF1).size f2.size)
      · exact (((unhide HF1).trans f2).cell q (off + i) h2.1 h2.2).trans (h3 i hi)
  have e1 : (bs.map (·.1)).headD (.slice none 0 0) = (bs.headD (.slice none 0 0, [])).1 := by cases bs <;> rfl
  have e2 : (bs.map (·.1)).isEmpty = bs.isEmpty := by cases bs <;> rfl
  have e3 : (bs.map (·.1)).tail = bs.tail.map (·.1) := by cases bs <;> rfl
  have e4 : (!bs.isEmpty) = false → bs = [] := by cases bs <;> simp
  rw [e1, e2]
  rw [e3] at c2
  have C2 := hide c2
  have F2 := hide ((unhide HF1).trans f2)
  have HR2 := hide ((f2.same w.heap.size hz1 hw1).trans (unhide HROW))
  have hz2 := Nat.lt_of_lt_of_le hz1 f2.size
  have H162 := hide (files_any (fun q h => h) hI.1 hI.2)
  obtain ⟨⟨fa, fc, hfv, _⟩, _⟩ := hI
  have E4 := hide e4
  clear e1 e2 e3 e4 c2 f2 HC1 HROW HF1 hs1 HIN
  generalize hok : (!bs.isEmpty) = ok at *
  have HOK := hide hok
  clear hok
  generalize hp : bs.headD (.slice none 0 0, []) = p at *
  clear hp
  obtain ⟨pv, l⟩ := p
  simp only at hfv H162 HR
  subst hfv
  simp only [Act.put]
  refine Rn.op (v := .tuple #[.slice fa l.length fc, .bool ok]) (w' := W2) rfl rfl (by simp [execOp, Act.eval, go_sem]) ?_
  simp only [Act.put]
  refine Rn.op (v := .slice fa l.length fc) (w' := W2) rfl rfl (by simp [execOp, Act.eval, go_sem]) ?_
  simp only [Act.put]
  refine Rn.op (v := .bool ok) (w' := W2) rfl rfl (by simp [execOp, Act.eval, go_sem]) ?_
  simp only [Act.put]
  refine Rn.op (v := .slice fa l.length fc) (w' := W2) rfl rfl (by simp [execOp, Act.eval, go_sem]) ?_
  simp only [Act.put]
  refine Rn.op (v := .bool ok) (w' := W2) rfl rfl (by simp [execOp, Act.eval, go_sem]) ?_
  simp only [Act.put]
  refine Rn.regionEnd (Rn.body rfl Tryz.func182 ?_)
  cases ok
  · go_wp2_with (first
      | (go_at_call 184; refine (unhide H162).mono ?_; rintro e w4 ⟨v4, rfl, o4, f4⟩; obtain ⟨a4, n4, c4, rfl⟩ := ownI_shape o4; have F4 := hide f4; clear f4)
      | (go_at_call 183; refine (unhide H161 _ _ _ _ _ _ _ _).mono ?_; rintro e w3 ⟨rfl, f3⟩; have f5 := (unhide F4).trans f3; have hrow := (f5.same _ hz2 (fun h => h)).trans (unhide HR2); have hcell := fun j => cell_of_row w3 w.heap.size j _ 49 (0, 0) hrow; have hfz := fun j => frozen_rowE hrow j; have F3 := hide f5; clear f3 f5 hrow))
    refine exRet_ret (bodyPost_ret (v := .tuple #[.agg #[.int .i64 0, .int .i64 0, .int .i64 0, .slice none 0 0], .int .i64 5]) (by simp [results, Tryz.results182, go_sem, hcell]) rfl ?_)
    exact unhide HR _ (.slice none 0 0) (outS (unhide F2) (unhide F3) _ _ _ _) (outC (unhide F2) (unhide F3) (unhide C2) hw1 _ _ _ _) (fun h => absurd (unhide E4 trivial) h)
  · go_wp2_with (first
      | (go_at_call 184; refine (unhide H162).mono ?_; rintro e w4 ⟨v4, rfl, o4, f4⟩; obtain ⟨a4, n4, c4, rfl⟩ := ownI_shape o4; have O4 := hide o4; have F4 := hide f4; clear o4 f4)
      | (go_at_call 183; refine (unhide H161 _ _ _ _ _ _ _ _).mono ?_; rintro e w3 ⟨rfl, f3⟩; have f5 := (unhide F4).trans f3; have hrow := (f5.same _ hz2 (fun h => h)).trans (unhide HR2); have hcell := fun j => cell_of_row w3 w.heap.size j _ 49 (0, 0) hrow; have hfz := fun j => frozen_rowE hrow j; have O5 := hide (ownsRow_of_block (unhide O4) (fun q hq => f3.same q (World.ownsRow.lt (unhide O4) q hq).2 (fun h => h))); have F3 := hide f5; clear f3 f5 hrow))
    refine exRet_ret (bodyPost_ret (v := .tuple #[.agg #[.int .i64 2, .int .i64 0, .int .i64 0, .slice a4 n4 c4], .int .i64 0]) (by simp [results, Tryz.results182, go_sem, hcell]) rfl ?_)
    refine unhide HR _ (.slice a4 n4 c4) (outS (unhide F2) (unhide F3) _ _ _ _) (outC (unhide F2) (unhide F3) (unhide C2) hw1 _ _ _ _) (fun _ => ?_)
    have o5 := unhide O5
    have hlow : ∀ q, own (.slice a4 n4 c4) q → w.heap.size + 1 ≤ q := fun q hq => by have := (World.ownsRow.lt o5 q hq).1; omega
    refine ⟨o5.1, ?_⟩
    have o6 := ownsRow_of_block (w' := (((w3.setCell ⟨w.heap.size, 0, none⟩ (.int .i64 2)).setCell ⟨w.heap.size, 1, none⟩ (.int .i64 0)).setCell ⟨w.heap.size, 2, none⟩ (.int .i64 0)).setCell ⟨w.heap.size, 3, none⟩ (.slice a4 n4 c4)) o5 (fun q hq => by
      have hne : q ≠ w.heap.size := by have := hlow q hq; omega
      rw [Below.heap_setCell _ _ _ _ hne, Below.heap_setCell _ _ _ _ hne, Below.heap_setCell _ _ _ _ hne, Below.heap_setCell _ _ _ _ hne])
    exact o6.2.imp id fun ⟨g, cap, cur, e1, e2, r⟩ => ⟨g, cap, cur, e1, by omega, r⟩
end Go.Proofs.YtfmbebofllgmoaaGreatDoor
namespace Go.Proofs.YtfmbebofllgmoaaGreatDoor
open Go.RowKit
attribute [local go_sem ↓] Go.wp_at_zero Go.wp_at_succ

/-- What a source has answered: if it is an input, what its body is. -/
structure Answ (w1 : World) (z0 z1 z2 : Int) (a : Option Addr) (l c : Nat) (en : Int) (bd : ByteArray) : Prop where
  len : en = 0 → bd.size ≤ 1000 ∧ 0 < bd.size
  body : en = 0 → ∀ W, (∀ q, own (.slice a l c) q → W.heap[q]? = w1.heap[q]?) → w1.heap.size ≤ W.heap.size → Calls Tryz.prog 102 #[.agg #[.int .i64 z0, .int .i64 z1, .int .i64 z2, .slice a l c]] W fun e w' => ∃ v', e = .returned v' ∧ OwnB w' W.heap.size v' bd ∧ Fr (fun _ => False) W w' (fun _ => False)
  old : ∀ q, own (.slice a l c) q → q < w1.heap.size

theorem LogAt.block {w w' : World} {lb B : Nat} {v : Value} {b : ByteArray} (h : LogAt w lb B v b) (hb : ∀ q, lgS lb v q → w'.heap[q]? = w.heap[q]?) (hz : w.heap.size ≤ w'.heap.size) : LogAt w' lb B v b :=
  ⟨(World.cell?_of_block (w := w) (a := ⟨lb, 0, none⟩) (hb lb (.inl rfl))).trans h.cell, (World.frozen?_of_block (w := w) (a := ⟨lb, 0, none⟩) (hb lb (.inl rfl))).trans h.free, h.row.block (fun q hq => hb q (.inr hq)), h.sep, Nat.lt_of_lt_of_le h.lt hz⟩

/-- The input in a box of its own. -/
def boxW (w1 : World) (z0 z1 z2 : Int) (a : Option Addr) (l c : Nat) : World := w1.alloc (.cells #[.int .i64 z0, .int .i64 z1, .int .i64 z2, .slice a l c] 49)

/-- Four cells are written over. -/
theorem out4 {W : World} {g : Nat} {a0 a1 a2 a3 : Value} (h : W.heap[g]? = some (.cells #[a0, a1, a2, a3] 49)) (x0 x1 x2 x3 : Value) :
    ((((W.setCell ⟨g, 0, none⟩ x0).setCell ⟨g, 1, none⟩ x1).setCell ⟨g, 2, none⟩ x2).setCell ⟨g, 3, none⟩ x3).heap[g]? = some (.cells #[x0, x1, x2, x3] 49) := by
  have h0 := setRow_heap W g #[a0, a1, a2, a3] (#[a0, a1, a2, a3].setIfInBounds 0 x0) 49 (0, 0) h
  rw [← setCell_eq_setRow W g 0 _ 49 (0, 0) x0 h] at h0
  have h1 := setRow_heap _ g _ ((#[a0, a1, a2, a3].setIfInBounds 0 x0).setIfInBounds 1 x1) 49 (0, 0) h0
  rw [← setCell_eq_setRow _ g 1 _ 49 (0, 0) x1 h0] at h1
  have h2 := setRow_heap _ g _ (((#[a0, a1, a2, a3].setIfInBounds 0 x0).setIfInBounds 1 x1).setIfInBounds 2 x2) 49 (0, 0) h1
  rw [← setCell_eq_setRow _ g 2 _ 49 (0, 0) x2 h1] at h2
  have h3 := setRow_heap _ g _ ((((#[a0, a1, a2, a3].setIfInBounds 0 x0).setIfInBounds 1 x1).setIfInBounds 2 x2).setIfInBounds 3 x3) 49 (0, 0) h2
  rw [← setCell_eq_setRow _ g 3 _ 49 (0, 0) x3 h2] at h3
  exact h3
theorem out4_other {W : World} {g q : Nat} (hq : q ≠ g) (x0 x1 x2 x3 : Value) : ((((W.setCell ⟨g, 0, none⟩ x0).setCell ⟨g, 1, none⟩ x1).setCell ⟨g, 2, none⟩ x2).setCell ⟨g, 3, none⟩ x3).heap[q]? = W.heap[q]? := by
  rw [Below.heap_setCell _ _ _ _ hq, Below.heap_setCell _ _ _ _ hq, Below.heap_setCell _ _ _ _ hq, Below.heap_setCell _ _ _ _ hq]
theorem out4_size {W : World} {g : Nat} (x0 x1 x2 x3 : Value) : ((((W.setCell ⟨g, 0, none⟩ x0).setCell ⟨g, 1, none⟩ x1).setCell ⟨g, 2, none⟩ x2).setCell ⟨g, 3, none⟩ x3).heap.size = W.heap.size := by simp [World.setCell]
theorem out4_fr {S S' : Nat → Prop} {w W : World} (h : Fr S w W S') {g : Nat} (hg : S g ∨ w.heap.size ≤ g) (x0 x1 x2 x3 : Value) : Fr S w ((((W.setCell ⟨g, 0, none⟩ x0).setCell ⟨g, 1, none⟩ x1).setCell ⟨g, 2, none⟩ x2).setCell ⟨g, 3, none⟩ x3) S' :=
  (((h.setCell _ _ hg).setCell _ _ hg).setCell _ _ hg).setCell _ _ hg

set_option maxHeartbeats 2000000 in
set_option maxRecDepth 20000 in
theorem rec_gen {w : World} {rb sb lb B : Nat} {v : Value} {log : ByteArray} (c0 : w.cell? ⟨rb, 0, none⟩ = some (.pointer (some ⟨sb, 0, none⟩))) (c1 : w.cell? ⟨rb, 1, none⟩ = some (.pointer (some ⟨lb, 0, none⟩))) (hrb : rb < w.heap.size) (hB : B ≤ w.heap.size) (hlog : log.size ≤ 800000000) (hlb : lb < w.heap.size) (k o : Int)
    (Q : World → Int → Int → Int → Option Addr → Nat → Nat → Int → ByteArray → Prop)
    (h160 : Calls Tryz.prog 182 #[.pointer (some ⟨sb, 0, none⟩), .int .i64 k, .int .i64 o] (w.alloc (.cells #[.int .i64 0, .int .i64 0, .int .i64 0, .slice none 0 0] 49)) fun e w1 => ∃ z0 z1 z2 a l c en bd, e = .returned (.tuple #[.agg #[.int .i64 z0, .int .i64 z1, .int .i64 z2, .slice a l c], .int .i64 en]) ∧ Answ w1 z0 z1 z2 a l c en bd ∧ LogAt w1 lb B v log ∧
      w1.heap[rb]? = w.heap[rb]? ∧ w1.heap[w.heap.size]? = some (.cells #[.int .i64 0, .int .i64 0, .int .i64 0, .slice none 0 0] 49) ∧ (¬ own v w.heap.size) ∧ Q w1 z0 z1 z2 a l c en bd) :
    Calls Tryz.prog 181 #[.pointer (some ⟨rb, 0, none⟩), .int .i64 k, .int .i64 o] w fun e w' => ∃ w1 z0 z1 z2 a l c en bd v', e = .returned (.tuple #[.agg #[.int .i64 z0, .int .i64 z1, .int .i64 z2, .slice a l c], .int .i64 en]) ∧ Q w1 z0 z1 z2 a l c en bd ∧ LogAt w' lb B v' (if en = 0 then log ++ frameS bd else log) ∧
      Fr (fun k => lgS lb v k ∨ k = w.heap.size) w1 w' (fun k => lgS lb v' k ∨ k = w.heap.size) ∧ ¬ own v' w.heap.size := by
  have k0 : (w.alloc (.cells #[.int .i64 0, .int .i64 0, .int .i64 0, .slice none 0 0] 49)).cell? ⟨rb, 0, none⟩ = some (.pointer (some ⟨sb, 0, none⟩)) := (World.cell?_of_block (w := w) (a := ⟨rb, 0, none⟩) (Below.heap_alloc _ _ _ hrb)).trans c0
  have C1 := hide c1
  clear c0 c1
  generalize hpost : (fun (e : Ending) (w' : World) => ∃ w1 z0 z1 z2 a l c en bd v', e = .returned (.tuple #[.agg #[.int .i64 z0, .int .i64 z1, .int .i64 z2, .slice a l c], .int .i64 en]) ∧ Q w1 z0 z1 z2 a l c en bd ∧ LogAt w' lb B v' (if en = 0 then log ++ frameS bd else log) ∧
      Fr (fun k => lgS lb v k ∨ k = w.heap.size) w1 w' (fun k => lgS lb v' k ∨ k = w.heap.size) ∧ ¬ own v' w.heap.size) = R
  have HP := hide hpost
  clear hpost
  have H160 := hide h160
  clear h160
  go_enter Tryz.func181, Tryz.ntmps181
  go_wp2_with fail
  go_at_call 182
  refine (unhide H160).mono ?_
  rintro e w1 ⟨z0, z1, z2, a, l, c, en, bd, rfl, an, lg, hr, hz, hv, hq⟩
  have hrz : rb < w1.heap.size := by rw [Array.getElem?_eq_getElem hrb] at hr; exact (Array.getElem?_eq_some_iff.1 hr).1
  have hwz : w.heap.size < w1.heap.size := (Array.getElem?_eq_some_iff.1 hz).1
  have hbox := heap_alloc_new w1 (.cells #[.int .i64 z0, .int .i64 z1, .int .i64 z2, .slice a l c] 49)
  have hr2 : (boxW w1 z0 z1 z2 a l c).heap[w.heap.size]? = some (.cells #[.int .i64 0, .int .i64 0, .int .i64 0, .slice none 0 0] 49) := (Below.heap_alloc _ _ _ hwz).trans hz
  have d1 : (boxW w1 z0 z1 z2 a l c).cell? ⟨rb, 1, none⟩ = some (.pointer (some ⟨lb, 0, none⟩)) := (World.cell?_of_block (w := w) (a := ⟨rb, 1, none⟩) ((Below.heap_alloc _ _ _ hrz).trans hr)).trans (unhide C1)
  have AN := hide an
  have LG := hide lg
  have HV := hide hv
  have HQ := hide hq
  have HB2 := hide hbox
  have HR2 := hide hr2
  have HZ := hide hz
  clear hr hz hv hq hbox hr2 an lg
  unfold boxW at *
  have q0 : w1.cell? ⟨w.heap.size, 0, none⟩ = some (.int .i64 0) := cell_of_row _ _ 0 _ 49 (0, 0) (unhide HZ)
  have q1 : w1.cell? ⟨w.heap.size, 1, none⟩ = some (.int .i64 0) := cell_of_row _ _ 1 _ 49 (0, 0) (unhide HZ)
  have q2 : w1.cell? ⟨w.heap.size, 2, none⟩ = some (.int .i64 0) := cell_of_row _ _ 2 _ 49 (0, 0) (unhide HZ)
  have q3 : w1.cell? ⟨w.heap.size, 3, none⟩ = some (.slice none 0 0) := cell_of_row _ _ 3 _ 49 (0, 0) (unhide HZ)
  have qf := fun j => frozen_rowE (unhide HZ) j
  have hne : w.heap.size ≠ w1.heap.size := by omega
  have hne' : ¬ w1.heap.size = w.heap.size := by omega
  by_cases he : en = 0
  · subst he
    have h70 := wheard_any (w := (w1.alloc (.cells #[.int .i64 z0, .int .i64 z1, .int .i64 z2, .slice a l c] 49)).drew) (lb := lb) (B := B) (v := v) (b := log) (bd := bd)
      ((unhide LG).block (fun q hq => Below.heap_alloc _ _ _ (by
        rcases hq with rfl | hq
        · exact (unhide LG).lt
        · exact ((unhide LG).row.bump q hq).2)) (by show w1.heap.size ≤ (w1.alloc _).heap.size; simp))
      (by show B ≤ (w1.alloc _).heap.size; simp; omega) (.int .i64 z0) (.int .i64 z1) (.int .i64 z2) a l c z0 z1 z2 rfl rfl rfl ((unhide AN).len rfl).1 ((unhide AN).len rfl).2 hlog
      (by
        have hz3 : (((w1.alloc (.cells #[.int .i64 z0, .int .i64 z1, .int .i64 z2, .slice a l c] 49)).drew).alloc (.cells #[.int .i64 z0, .int .i64 z1, .int .i64 z2, .slice a l c] 49)).heap.size = (w1.alloc (.cells #[.int .i64 z0, .int .i64 z1, .int .i64 z2, .slice a l c] 49)).drew.heap.size + 1 := by simp
        have := (unhide AN).body rfl (((w1.alloc (.cells #[.int .i64 z0, .int .i64 z1, .int .i64 z2, .slice a l c] 49)).drew).alloc (.cells #[.int .i64 z0, .int .i64 z1, .int .i64 z2, .slice a l c] 49))
          (fun q hq => (Below.heap_alloc _ _ _ (by show q < (w1.alloc _).heap.size; have := (unhide AN).old q hq; simp; omega)).trans (Below.heap_alloc _ _ _ ((unhide AN).old q hq)))
          (by rw [hz3]; show w1.heap.size ≤ (w1.alloc _).heap.size + 1; simp; omega)
        rw [hz3] at this
        exact this)
    have H70 := hide h70
    have nl : ¬ lgS lb v w.heap.size := fun h => h.elim (fun h => by omega) (unhide HV)
    have nb : ¬ lgS lb v w1.heap.size := fun h => h.elim (fun h => by have := (unhide LG).lt; omega) (fun h => by have := ((unhide LG).row.bump _ h).2; omega)
    have NL := hide nl
    have NB := hide nb
    clear h70 nl nb
    go_wp2
    go_region_with (go_at_call 64; refine (unhide H70).mono ?_; rintro e w2 ⟨v2, rfl, l2, f2⟩; have r1 := (f2.same w.heap.size (by show _ < (w1.alloc _).heap.size; simp; omega) (unhide NL)).trans (unhide HR2); have r2 := (f2.same w1.heap.size (by show _ < (w1.alloc _).heap.size; simp) (unhide NB)).trans (unhide HB2); have t0 := fun j => cell_of_row w2 _ j _ 49 (0, 0) r1; have t1 := fun j => cell_of_row w2 _ j _ 49 (0, 0) r2; have tf := fun j => frozen_rowE r1 j; have L2 := hide l2; have F2 := hide f2; have R1 := hide r1; clear l2 f2 r1 r2)
    all_goals
      go_wp2
      have g0 := fun j => cell_of_row _ _ j _ 49 (0, 0) (out4 (unhide R1) (.int .i64 z0) (.int .i64 z1) (.int .i64 z2) (.slice a l c))
      refine bodyPost_ret (v := .tuple #[.agg #[.int .i64 z0, .int .i64 z1, .int .i64 z2, .slice a l c], .int .i64 0]) (by simp [results, Tryz.results181, go_sem, g0]) rfl ?_
      rw [← unhide HP]
      have f2 := unhide F2
      have hn : ¬ lgS lb v2 w.heap.size := fun h => unhide NL (f2.old _ (by show _ < (w1.alloc _).heap.size; simp; omega) h)
      refine ⟨w1, z0, z1, z2, a, l, c, 0, bd, v2, rfl, unhide HQ, ?_, ?_, fun h => hn (.inr h)⟩
      · rw [if_pos rfl]
        exact (unhide L2).block (fun q hq => out4_other (by rintro rfl; exact hn hq) _ _ _ _) (Nat.le_of_eq (out4_size _ _ _ _).symm)
      · have f3 : Fr (lgS lb v) w1 w2 (lgS lb v2) := Fr.unalloc (o := .cells #[.int .i64 z0, .int .i64 z1, .int .i64 z2, .slice a l c] 49) ⟨f2.os, f2.tape, f2.output, f2.size, f2.same, f2.old⟩
        have f4 : Fr (fun k => lgS lb v k ∨ k = w.heap.size) w1 w2 (fun k => lgS lb v2 k ∨ k = w.heap.size) := ⟨f3.os, f3.tape, f3.output, f3.size, fun k hk hn => f3.same k hk (fun h => hn (.inl h)), fun k hk h => h.imp (f3.old k hk) id⟩
        exact out4_fr f4 (.inl (.inr rfl)) _ _ _ _
  · have hen : (en == 0) = false := by simpa using he
    have hfin : (((((w1.setCell ⟨w.heap.size, 0, none⟩ (.int .i64 z0)).setCell ⟨w.heap.size, 1, none⟩ (.int .i64 z1)).setCell ⟨w.heap.size, 2, none⟩ (.int .i64 z2)).setCell ⟨w.heap.size, 3, none⟩ (.slice a l c)).alloc (.cells #[.int .i64 z0, .int .i64 z1, .int .i64 z2, .slice a l c] 49)).heap[w.heap.size]? = some (.cells #[.int .i64 z0, .int .i64 z1, .int .i64 z2, .slice a l c] 49) :=
      (Below.heap_alloc _ _ _ (by rw [out4_size]; exact hwz)).trans (out4 (unhide HZ) _ _ _ _)
    have g0 := fun j => cell_of_row _ _ j _ 49 (0, 0) hfin
    have HFIN := hide hfin
    clear hfin
    have G0 := hide g0
    clear g0
    go_wp2
    have g0 := unhide G0
    refine bodyPost_ret (v := .tuple #[.agg #[.int .i64 z0, .int .i64 z1, .int .i64 z2, .slice a l c], .int .i64 en]) (by simp [results, Tryz.results181, go_sem, g0]) rfl ?_
    rw [← unhide HP]
    refine ⟨w1, z0, z1, z2, a, l, c, en, bd, v, rfl, unhide HQ, ?_, ?_, unhide HV⟩
    · rw [if_neg he]
      refine (unhide LG).block (fun q hq => ?_) ?_
      · have hlt : q < w1.heap.size := by
          rcases hq with rfl | hq
          · exact (unhide LG).lt
          · exact ((unhide LG).row.bump q hq).2
        have hn : q ≠ w.heap.size := by
          rintro rfl
          rcases hq with hq | hq
          · omega
          · exact unhide HV hq
        exact (Below.heap_alloc _ _ _ (by rw [out4_size]; exact hlt)).trans (out4_other hn _ _ _ _)
      · rw [← out4_size (W := w1) (g := w.heap.size) (.int .i64 z0) (.int .i64 z1) (.int .i64 z2) (.slice a l c)]; simp
    · exact (out4_fr (Fr.refl (fun k => lgS lb v k ∨ k = w.heap.size) w1) (.inl (.inr rfl)) _ _ _ _).alloc _
end Go.Proofs.YtfmbebofllgmoaaGreatDoor
namespace Go.Proofs.YtfmbebofllgmoaaGreatDoor
open Go.RowKit

/-- What a world has still to say, and the log so far. -/
structure RS where
  clocks : List Int
  batches : List (Value × List Int)
  picks : List Int
  lots : List Int
  log : ByteArray
def RS.left (x : RS) : Nat := x.clocks.length + x.batches.length + x.picks.length + x.lots.length
def noRep : Rep := ⟨0, 0, 0, [], 5⟩
def clampC (n : Int) : Int := min (max n 0) 1099511627776
/-- The recorder's answer. -/
def recAsk (x : RS) (k o : Int) : Rep × RS :=
  if k = 1 then match x.clocks with
    | [] => (noRep, x)
    | n :: r => (⟨1, 0, clampC n, [], 0⟩, { x with clocks := r, log := x.log ++ frameS (bodyS 1 0 (clampC n).toNat) })
  else if k = 2 then match x.batches with
    | [] => (noRep, x)
    | b :: r => (⟨2, 0, 0, filesL b.2, 0⟩, { x with batches := r, log := x.log ++ frameS (batchS (filesL b.2)) })
  else if k = 3 then match x.picks with
    | [] => (noRep, x)
    | n :: r => (⟨3, o, n % o, [], 0⟩, { x with picks := r, log := x.log ++ frameS (bodyS 3 o.toNat (n % o).toNat) })
  else match x.lots with
    | [] => (noRep, x)
    | n :: r => (⟨4, o, n % o, [], 0⟩, { x with lots := r, log := x.log ++ frameS (bodyS 4 o.toNat (n % o).toNat) })
def mayR (k o : Int) : Prop := (k = 1 ∧ o = 0) ∨ (k = 2 ∧ o = 0) ∨ (k = 3 ∧ 2 ≤ o ∧ o ≤ 8) ∨ (k = 4 ∧ 1 ≤ o ∧ o ≤ 1000000)

theorem mayR_ok : MayOk mayR := ⟨.inl ⟨rfl, rfl⟩, .inr (.inl ⟨rfl, rfl⟩), fun n h1 h2 => .inr (.inr (.inl ⟨rfl, by omega, by omega⟩)), fun v h1 h2 => .inr (.inr (.inr ⟨rfl, h1, h2⟩))⟩

/-- The recorder in memory. -/
structure RecAt (rb sb lb c0 c1 c2 c3 B : Nat) (v : Value) (L : Nat → Prop) (ob : Nat → Option Obj) (T : Nat → Prop) (w : World) (x : RS) : Prop where
  r0 : w.cell? ⟨rb, 0, none⟩ = some (.pointer (some ⟨sb, 0, none⟩))
  r1 : w.cell? ⟨rb, 1, none⟩ = some (.pointer (some ⟨lb, 0, none⟩))
  s0 : w.cell? ⟨sb, 0, none⟩ = some (.chan (some c0))
  s1 : w.cell? ⟨sb, 1, none⟩ = some (.chan (some c1))
  s2 : w.cell? ⟨sb, 2, none⟩ = some (.chan (some c2))
  s3 : w.cell? ⟨sb, 3, none⟩ = some (.chan (some c3))
  h0 : ChanAt w c0 (x.clocks.map (.int .i64))
  h1 : ChanAt w c1 (x.batches.map (·.1))
  h2 : ChanAt w c2 (x.picks.map (.int .i64))
  h3 : ChanAt w c3 (x.lots.map (.int .i64))
  log : LogAt w lb B v x.log
  low : B ≤ w.heap.size
  nod : [rb, sb, lb, c0, c1, c2, c3].Nodup
  inT : ∀ q, q ∈ [rb, sb, lb, c0, c1, c2, c3] → T q ∧ ¬ L q ∧ ¬ own v q
  vT : ∀ q, own v q → T q ∧ ¬ L q
  lT : ∀ q, L q → T q
  lent : ∀ q, L q → w.heap[q]? = ob q
  bs : ∀ p, p ∈ x.batches → IntsIn w p.1 p.2 L ∧ p.2.length ≤ 100000000
  room : x.log.size + 40 * x.left ≤ 700000000
def RecA (rb : Nat) (L : Nat → Prop) (ob : Nat → Option Obj) (T : Nat → Prop) (w : World) (x : RS) : Prop := ∃ sb lb c0 c1 c2 c3 B v, RecAt rb sb lb c0 c1 c2 c3 B v L ob T w x

theorem IntsIn.block {w w' : World} {v : Value} {l : List Int} {P : Nat → Prop} (h : IntsIn w v l P) (hb : ∀ q, P q → w'.heap[q]? = w.heap[q]?) : IntsIn w' v l P := by
  obtain ⟨a, c, hv, hc⟩ := h
  refine ⟨a, c, hv, hc.imp id fun ⟨q, off, e, hq, hcell⟩ => ⟨q, off, e, hq, fun i hi => ?_⟩⟩
  rw [World.cell?_of_block (w := w) (a := ⟨q, off + i, none⟩) (hb q hq)]
  exact hcell i hi

theorem recA_law (rb : Nat) (L : Nat → Prop) (ob : Nat → Option Obj) : SrcLaw (RecA rb L ob) := by
  constructor
  rintro S w w' x ⟨sb, lb, c0, c1, c2, c3, B, v, h⟩ hs hz
  have m := fun q hq => hs q (h.inT q hq).1
  have cel := fun q hq off => World.cell?_of_block (w := w) (w' := w') (a := ⟨q, off, none⟩) (m q hq)
  refine ⟨sb, lb, c0, c1, c2, c3, B, v, ?_, ?_, ?_, ?_, ?_, ?_, h.h0.block (m _ (by simp)), h.h1.block (m _ (by simp)), h.h2.block (m _ (by simp)), h.h3.block (m _ (by simp)), ?_, Nat.le_trans h.low hz, h.nod, h.inT, h.vT, h.lT, ?_, ?_, h.room⟩
  · exact (cel rb (by simp) 0).trans h.r0
  · exact (cel rb (by simp) 1).trans h.r1
  · exact (cel sb (by simp) 0).trans h.s0
  · exact (cel sb (by simp) 1).trans h.s1
  · exact (cel sb (by simp) 2).trans h.s2
  · exact (cel sb (by simp) 3).trans h.s3
  · exact h.log.block (fun q hq => by
      rcases hq with rfl | hq
      · exact m _ (by simp)
      · exact hs q (h.vT q hq).1) hz
  · exact fun q hq => (hs q (h.lT q hq)).trans (h.lent q hq)
  · exact fun p hp => ⟨(h.bs p hp).1.block (fun q hq => hs q (h.lT q hq)), (h.bs p hp).2⟩

theorem filesL_mem (l : List Int) (z : Int) (h : z ∈ filesL l) : 0 ≤ z ∧ z < 8 := filesK_mem _ 8 z h
theorem filesL_most (l : List Int) : (filesL l).length ≤ 8 := filesK_length _ 8
theorem recAsk_ok : SrcOk recAsk (fun x => x.clocks.length) := by
  refine ⟨?_, ?_, ?_, ?_, ?_, ?_⟩
  · intro x k o
    simp only [recAsk]
    split
    · split <;> simp_all
    · split
      · split <;> simp
      · split
        · split <;> simp
        · split <;> simp
  · intro x h
    simp only [recAsk, if_true] at h ⊢
    split at h
    · simp [noRep] at h
    · rename_i n r hx
      simp [hx]
  · intro x h
    simp only [recAsk, if_true] at h ⊢
    split at h
    · simp [noRep] at h
    · rename_i n r hx
      simp only [clampC]
      omega
  · intro x n h2 h8 h
    have e1 : ¬ (3 : Int) = 1 := by omega
    have e2 : ¬ (3 : Int) = 2 := by omega
    simp only [recAsk, e1, e2, if_false, if_true] at h ⊢
    split at h
    · simp [noRep] at h
    · exact ⟨Int.emod_nonneg _ (by omega), Int.emod_lt_of_pos _ (by omega)⟩
  · intro x z h
    have e1 : ¬ (2 : Int) = 1 := by omega
    simp only [recAsk, e1, if_false, if_true] at h
    split at h
    · simp [noRep] at h
    · exact filesL_mem _ z h
  · intro x
    have e1 : ¬ (2 : Int) = 1 := by omega
    simp only [recAsk, e1, if_false, if_true]
    split
    · simp [noRep]
    · exact filesL_most _

theorem varS_le (k : Nat) : ∀ n, n < 128 ^ k → (varS n).size ≤ k + 1 := by
  induction k with
  | zero => intro n h; rw [varS_eq, if_pos (by omega)]; simp
  | succ k ih =>
    intro n h
    rw [varS_eq]
    by_cases hn : n < 128
    · rw [if_pos hn]; simp
    · rw [if_neg hn, ByteArray.size_append]
      have h1 : n / 128 < 128 ^ k := by
        rw [Nat.div_lt_iff_lt_mul (by omega)]
        rw [Nat.pow_succ] at h
        exact h
      have := ih (n / 128) h1
      simp
      omega
theorem varS_one (n : Nat) (h : n < 128) : (varS n).size = 1 := by rw [varS_eq, if_pos h]; simp
theorem one_size (k : Nat) : (one k).size = 1 := by unfold one; simp
theorem sumS_size (b : ByteArray) : (sumS b).size = 4 := b4_size _
theorem frameS_size (b : ByteArray) (h : b.size ≤ 32) : (frameS b).size ≤ 40 := by
  unfold frameS
  rw [ByteArray.size_append, ByteArray.size_append, sumS_size, varS_one _ (by omega)]
  omega
theorem bodyS_size (k o n : Nat) (ho : o ≤ 1099511627776) (hn : n ≤ 1099511627776) : (bodyS k o n).size ≤ 32 ∧ 0 < (bodyS k o n).size := by
  have h1 := varS_le 6 o (by omega)
  have h2 := varS_le 6 n (by omega)
  unfold bodyS
  split
  · rw [ByteArray.size_append, ByteArray.size_append, one_size]; omega
  · rw [ByteArray.size_append, one_size]; omega
theorem filesS_size (l : List Int) (hz : ∀ z, z ∈ l → 0 ≤ z ∧ z < 8) : ∀ r, (filesS l r).size = r.size + l.length := by
  induction l with
  | nil => intro r; simp [filesS]
  | cons z l ih =>
    intro r
    have h := hz z (List.mem_cons_self ..)
    have := ih (fun z hm => hz z (List.mem_cons_of_mem _ hm)) (r ++ varS z.toNat)
    simp only [filesS, List.foldl_cons] at this ⊢
    rw [this, ByteArray.size_append, varS_one _ (by omega), List.length_cons]
    omega
theorem batchS_size (l : List Int) (hz : ∀ z, z ∈ l → 0 ≤ z ∧ z < 8) (h8 : l.length ≤ 8) : (batchS l).size ≤ 32 ∧ 0 < (batchS l).size := by
  unfold batchS
  rw [filesS_size l hz, ByteArray.size_append, one_size, varS_one _ (by omega)]
  omega

/-- The source has answered by its channel ci, and what was heard is written down. -/
theorem RecAt.next {rb sb lb c0 c1 c2 c3 B : Nat} {v : Value} {L : Nat → Prop} {ob : Nat → Option Obj} {T : Nat → Prop} {w : World} {x : RS} (h : RecAt rb sb lb c0 c1 c2 c3 B v L ob T w x) (hT : ∀ q, T q → q < w.heap.size) {ci : Nat} (hci : ci ∈ [c0, c1, c2, c3]) {o : Obj} {w1 w' : World} {v' : Value} {x' : RS}
    (f1 : Fr (fun k => k = ci) (w.alloc o) w1 (fun k => k = ci)) (fl : Fr (fun k => lgS lb v k ∨ k = w.heap.size) w1 w' (fun k => lgS lb v' k ∨ k = w.heap.size)) (lg : LogAt w' lb B v' x'.log) (hnw : ¬ own v' w.heap.size)
    (hx : ∀ w'' : World, (∀ q, q ∈ [c0, c1, c2, c3] → w''.heap[q]? = w1.heap[q]?) → ChanAt w'' c0 (x'.clocks.map (.int .i64)) ∧ ChanAt w'' c1 (x'.batches.map (·.1)) ∧ ChanAt w'' c2 (x'.picks.map (.int .i64)) ∧ ChanAt w'' c3 (x'.lots.map (.int .i64)))
    (hb : ∀ p, p ∈ x'.batches → p ∈ x.batches) (hr : x'.log.size + 40 * x'.left ≤ 700000000) :
    ∃ T', RecA rb L ob T' w' x' ∧ Fr T w w' T' ∧ (∀ q, T' q → q < w'.heap.size) ∧ (∀ q, w.heap.size < q → q < w1.heap.size → ¬ T' q) := by
  have hz1 : w.heap.size < w1.heap.size := Nat.lt_of_lt_of_le (by simp) f1.size
  have hcm : ∀ q, q ∈ [c0, c1, c2, c3] → q ∈ [rb, sb, lb, c0, c1, c2, c3] := by intro q hq; simp at hq ⊢; omega
  have hTw : ∀ q, T q → q < w1.heap.size := fun q hq => Nat.lt_trans (hT q hq) hz1
  -- a block of the source that is not the channel, the log, or the log's row
  have same : ∀ q, T q → q ≠ ci → q ≠ lb → ¬ own v q → w'.heap[q]? = w.heap[q]? := by
    intro q hq h1 h2 h3
    have hlt := hT q hq
    refine (fl.same q (hTw q hq) ?_).trans ((f1.same q (by simp; omega) h1).trans (Below.heap_alloc _ _ _ hlt))
    rintro ((h | h) | h)
    · exact h2 h
    · exact h3 h
    · omega
  have sep := (List.nodup_append (l₁ := [rb, sb, lb]) (l₂ := [c0, c1, c2, c3]).1 h.nod).2.2
  have hlr : lb ≠ rb ∧ lb ≠ sb := by
    have := (List.nodup_append (l₁ := [rb, sb, lb]) (l₂ := [c0, c1, c2, c3]).1 h.nod).1
    simp at this
    exact ⟨fun e => this.1.2 e.symm, fun e => this.2 e.symm⟩
  have hcil : rb ≠ ci ∧ sb ≠ ci ∧ lb ≠ ci := ⟨sep rb (by simp) ci hci, sep sb (by simp) ci hci, sep lb (by simp) ci hci⟩
  have hv' : ∀ q, own v' q → (own v q ∨ w1.heap.size ≤ q) ∧ q < w'.heap.size ∧ q ≠ lb := by
    intro q hq
    have hb := (lg.row.bump q hq).2
    have hnl : q ≠ lb := by rintro rfl; exact lg.sep hq
    refine ⟨?_, hb, hnl⟩
    by_cases hlt : q < w1.heap.size
    · rcases fl.old q hlt (.inl (.inr hq)) with (h1 | h1) | h1
      · exact absurd h1 hnl
      · exact .inl h1
      · exact absurd (h1 ▸ hq) hnw
    · exact .inr (by omega)
  have cell : ∀ q off, q ∈ [rb, sb] → w'.cell? ⟨q, off, none⟩ = w.cell? ⟨q, off, none⟩ := by
    intro q off hq
    have hm : q ∈ [rb, sb, lb, c0, c1, c2, c3] := by simp at hq ⊢; rcases hq with h | h <;> simp [h]
    have h1 : q ≠ ci := by simp at hq; rcases hq with h | h <;> (rw [h]; first | exact hcil.1 | exact hcil.2.1)
    have h2 : q ≠ lb := by simp at hq; rcases hq with h | h <;> (rw [h]; first | exact hlr.1.symm | exact hlr.2.symm)
    exact World.cell?_of_block (w := w) (a := ⟨q, off, none⟩) (same q (h.inT q hm).1 h1 h2 (h.inT q hm).2.2)
  have chan := hx w' (fun q hq => fl.same q (hTw q (h.inT q (hcm q hq)).1) (by
    rintro ((e | e) | e)
    · exact sep lb (by simp) q hq e.symm
    · exact (h.inT q (hcm q hq)).2.2 e
    · have := hT q (h.inT q (hcm q hq)).1; omega))
  have hvL : ∀ q, own v' q → ¬ L q := fun q hq hl => by
    rcases (hv' q hq).1 with h1 | h1
    · exact (h.vT q h1).2 hl
    · have := hT q (h.lT q hl); omega
  have hLs : ∀ q, L q → w'.heap[q]? = w.heap[q]? := fun q hq => same q (h.lT q hq) (fun e => (h.inT ci (hcm ci hci)).2.1 (e ▸ hq)) (fun e => (h.inT lb (by simp)).2.1 (e ▸ hq)) (fun e => (h.vT q e).2 hq)
  refine ⟨fun q => (T q ∧ ¬ own v q) ∨ own v' q, ⟨sb, lb, c0, c1, c2, c3, B, v', (cell rb 0 (by simp)).trans h.r0, (cell rb 1 (by simp)).trans h.r1, (cell sb 0 (by simp)).trans h.s0, (cell sb 1 (by simp)).trans h.s1, (cell sb 2 (by simp)).trans h.s2, (cell sb 3 (by simp)).trans h.s3, chan.1, chan.2.1, chan.2.2.1, chan.2.2.2, lg, ?_, h.nod, ?_, ?_, ?_, ?_, ?_, hr⟩, ?_, ?_, ?_⟩
  · have := h.low; have := fl.size; omega
  · intro q hq
    have := h.inT q hq
    refine ⟨.inl ⟨this.1, this.2.2⟩, this.2.1, fun e => ?_⟩
    rcases (hv' q e).1 with h1 | h1
    · exact this.2.2 h1
    · have := hT q this.1; omega
  · exact fun q hq => ⟨.inr hq, hvL q hq⟩
  · exact fun q hq => .inl ⟨h.lT q hq, fun e => (h.vT q e).2 hq⟩
  · exact fun q hq => (hLs q hq).trans (h.lent q hq)
  · exact fun p hp => ⟨(h.bs p (hb p hp)).1.block hLs, (h.bs p (hb p hp)).2⟩
  · refine ⟨fl.os.trans f1.os, fl.tape.trans f1.tape, fl.output.trans f1.output, by have := fl.size; omega, ?_, ?_⟩
    · intro k hk hn
      refine (fl.same k (by omega) ?_).trans ((f1.same k (by simp; omega) ?_).trans (Below.heap_alloc _ _ _ hk))
      · rintro ((e | e) | e)
        · exact hn (e ▸ (h.inT lb (by simp)).1)
        · exact hn (h.vT k e).1
        · omega
      · exact fun e => hn (e ▸ (h.inT ci (hcm ci hci)).1)
    · rintro k hk (e | e)
      · exact e.1
      · rcases (hv' k e).1 with h1 | h1
        · exact (h.vT k h1).1
        · omega
  · rintro q (e | e)
    · have := hTw q e.1; have := fl.size; omega
    · exact (hv' q e).2.1
  · rintro q h1 h2 (e | e)
    · have := hT q e.1; omega
    · rcases (hv' q e).1 with h3 | h3
      · have := hT q (h.vT q h3).1; omega
      · omega

def zero88 : Obj := .cells #[.int .i64 0, .int .i64 0, .int .i64 0, .slice none 0 0] 49
/-- What is as it was, when the source has answered by a channel. -/
theorem RecAt.pre {rb sb lb c0 c1 c2 c3 B : Nat} {v : Value} {L : Nat → Prop} {ob : Nat → Option Obj} {T : Nat → Prop} {w : World} {x : RS} (h : RecAt rb sb lb c0 c1 c2 c3 B v L ob T w x) (hT : ∀ q, T q → q < w.heap.size) {ci : Nat} (hci : ci ∈ [c0, c1, c2, c3]) {w1 : World}
    (f1 : Fr (fun k => k = ci) (w.alloc zero88) w1 (fun k => k = ci)) : LogAt w1 lb B v x.log ∧ w1.heap[rb]? = w.heap[rb]? ∧ w1.heap[w.heap.size]? = some zero88 ∧ (¬ own v w.heap.size) ∧ (∀ q, q < w.heap.size → q ≠ ci → w1.heap[q]? = w.heap[q]?) := by
  have hcm : ∀ q, q ∈ [c0, c1, c2, c3] → q ∈ [rb, sb, lb, c0, c1, c2, c3] := by intro q hq; simp at hq ⊢; omega
  have sep := (List.nodup_append (l₁ := [rb, sb, lb]) (l₂ := [c0, c1, c2, c3]).1 h.nod).2.2
  have same : ∀ q, q < w.heap.size → q ≠ ci → w1.heap[q]? = w.heap[q]? := fun q hq hn => (f1.same q (by simp; omega) hn).trans (Below.heap_alloc _ _ _ hq)
  have hcl := hT ci (h.inT ci (hcm ci hci)).1
  refine ⟨h.log.block (fun q hq => ?_) (by have := f1.size; simp at this; omega), same rb (hT rb (h.inT rb (by simp)).1) (sep rb (by simp) ci hci), (f1.same w.heap.size (by simp) (by omega)).trans (heap_alloc_new w _), fun e => by have := (h.log.row.bump _ e).2; omega, same⟩
  rcases hq with rfl | hq
  · exact same _ h.log.lt (sep _ (by simp) ci hci)
  · exact same q (h.log.row.bump q hq).2 (fun e => (h.inT ci (hcm ci hci)).2.2 (e ▸ hq))

/-- From an answer of the source the word of the recorder. -/
theorem RecAt.hears {B0 rb sb lb c0 c1 c2 c3 B : Nat} {v : Value} {L : Nat → Prop} {ob : Nat → Option Obj} {T : Nat → Prop} {w : World} {x : RS} (h : RecAt rb sb lb c0 c1 c2 c3 B v L ob T w x) (hT : ∀ q, T q → q < w.heap.size) {ci : Nat} (hci : ci ∈ [c0, c1, c2, c3]) {k o : Int} {r : Rep} {x' : RS}
    (hb : ∀ p, p ∈ x'.batches → p ∈ x.batches) (hr : x'.log.size + 40 * x'.left ≤ 700000000)
    (h160 : Calls Tryz.prog 182 #[.pointer (some ⟨sb, 0, none⟩), .int .i64 k, .int .i64 o] (w.alloc zero88) fun e w1 => ∃ a l c bd, e = .returned (.tuple #[.agg #[.int .i64 r.kind, .int .i64 r.of, .int .i64 r.n, .slice a l c], .int .i64 r.e]) ∧ Answ w1 r.kind r.of r.n a l c r.e bd ∧ Fr (fun k => k = ci) (w.alloc zero88) w1 (fun k => k = ci) ∧
      (∀ w'' : World, (∀ q, q ∈ [c0, c1, c2, c3] → w''.heap[q]? = w1.heap[q]?) → ChanAt w'' c0 (x'.clocks.map (.int .i64)) ∧ ChanAt w'' c1 (x'.batches.map (·.1)) ∧ ChanAt w'' c2 (x'.picks.map (.int .i64)) ∧ ChanAt w'' c3 (x'.lots.map (.int .i64))) ∧
      IntsIn w1 (.slice a l c) r.files (fun q => w.heap.size < q ∧ q < w1.heap.size) ∧ x'.log = (if r.e = 0 then x.log ++ frameS bd else x.log)) :
    Calls Tryz.prog 181 #[.pointer (some ⟨rb, 0, none⟩), .int .i64 k, .int .i64 o] w fun e w' =>
      ∃ fv T', e = .returned (.tuple #[.agg #[.int .i64 r.kind, .int .i64 r.of, .int .i64 r.n, fv], .int .i64 r.e]) ∧ RecA rb L ob T' w' x' ∧ Fr T w w' T' ∧ (∀ q, T' q → q < w'.heap.size) ∧ IntsIn w' fv r.files (fun q => (q < B0 ∨ w.heap.size ≤ q ∨ T q) ∧ q < w'.heap.size ∧ ¬ T' q) := by
  have hroom := h.room
  refine (rec_gen (B := B) (v := v) (log := x.log) h.r0 h.r1 (hT rb (h.inT rb (by simp)).1) h.low (by omega) h.log.lt k o (fun w1 z0 z1 z2 a l c en bd => z0 = r.kind ∧ z1 = r.of ∧ z2 = r.n ∧ en = r.e ∧ Fr (fun k => k = ci) (w.alloc zero88) w1 (fun k => k = ci) ∧
      (∀ w'' : World, (∀ q, q ∈ [c0, c1, c2, c3] → w''.heap[q]? = w1.heap[q]?) → ChanAt w'' c0 (x'.clocks.map (.int .i64)) ∧ ChanAt w'' c1 (x'.batches.map (·.1)) ∧ ChanAt w'' c2 (x'.picks.map (.int .i64)) ∧ ChanAt w'' c3 (x'.lots.map (.int .i64))) ∧
      IntsIn w1 (.slice a l c) r.files (fun q => w.heap.size < q ∧ q < w1.heap.size) ∧ x'.log = (if r.e = 0 then x.log ++ frameS bd else x.log)) (h160.mono ?_)).mono ?_
  · rintro e w1 ⟨a, l, c, bd, rfl, an, f1, hx, hi, hl⟩
    obtain ⟨p1, p2, p3, p4, _⟩ := h.pre hT hci f1
    exact ⟨_, _, _, a, l, c, _, bd, rfl, an, p1, p2, p3, p4, rfl, rfl, rfl, rfl, f1, hx, hi, hl⟩
  · rintro e w' ⟨w1, z0, z1, z2, a, l, c, en, bd, v', rfl, ⟨rfl, rfl, rfl, rfl, f1, hx, hi, hl⟩, lg, fl, hnw⟩
    rw [← hl] at lg
    obtain ⟨T', g1, g2, g3, g4⟩ := h.next hT hci f1 fl lg hnw hx hb hr
    refine ⟨_, T', rfl, g1, g2, g3, ?_⟩
    obtain ⟨a', c', hv, hc⟩ := hi
    refine ⟨a', c', hv, hc.imp id fun ⟨q, off, e, ⟨hq1, hq2⟩, hcell⟩ => ⟨q, off, e, ⟨.inr (by omega), Nat.lt_of_lt_of_le hq2 fl.size, g4 q hq1 hq2⟩, fun i hi => ?_⟩⟩
    rw [fl.cell q (off + i) hq2 ?_]
    · exact hcell i hi
    · rintro ((e | e) | e)
      · have := h.log.lt; omega
      · have := (h.log.row.bump q e).2; omega
      · omega

theorem ints_nil (w : World) (P : Nat → Prop) : IntsIn w (.slice none 0 0) [] P := ⟨none, 0, rfl, .inl rfl⟩
theorem answ_no (w : World) (z0 z1 z2 : Int) : Answ w z0 z1 z2 none 0 0 5 ByteArray.empty := ⟨fun h => absurd h (by omega), fun h => absurd h (by omega), fun q h => by simp [own, Value.ownBlock] at h⟩
theorem answ_one (w : World) (n : Nat) (hn : n ≤ 1099511627776) : Answ w 1 0 n none 0 0 0 (bodyS 1 0 n) :=
  ⟨fun _ => by have := bodyS_size 1 0 n (by omega) hn; omega, fun _ W _ _ => pbody_one 1 0 n _ none 0 0 rfl (.inl rfl) (by omega) W, fun q h => by simp [own, Value.ownBlock] at h⟩
theorem answ_two (w : World) (k o n : Nat) (hk : k = 3 ∨ k = 4) (ho : o ≤ 1000000) (hn : n ≤ 1000000) : Answ w k o n none 0 0 0 (bodyS k o n) :=
  ⟨fun _ => by have := bodyS_size k o n (by omega) (by omega); omega, fun _ W _ _ => pbody_two k o n _ none 0 0 rfl hk (by omega) (by omega) W, fun q h => by simp [own, Value.ownBlock] at h⟩
theorem ownI_ints {w : World} {B : Nat} {v : Value} {l : List Int} (h : OwnI w B v l) : IntsIn w v l (fun q => own v q ∧ B ≤ q ∧ q < w.heap.size) := by
  rcases Nat.eq_zero_or_pos l.length with h0 | h0
  · obtain rfl := List.length_eq_zero_iff.1 h0
    rcases h.2 with ⟨h1, _⟩ | ⟨g, cap, cur, hv, _⟩
    · exact ⟨none, 0, h1, .inl rfl⟩
    · exact ⟨_, cap, hv, .inl rfl⟩
  · obtain ⟨g, cap, cur, hv, hB, hg, _, _, _, hc⟩ := ownI_parts h h0
    refine ⟨_, cap, hv, .inr ⟨g, 0, rfl, ⟨by rw [hv]; rfl, hB, (Array.getElem?_eq_some_iff.1 hg).1⟩, fun i hi => by rw [Nat.zero_add]; exact hc i hi⟩⟩
theorem answ_files {w : World} {B : Nat} {a : Option Addr} {n c : Nat} {l : List Int} (h : OwnI w B (.slice a n c) l) (h8 : l.length ≤ 8) (hz : ∀ z, z ∈ l → 0 ≤ z ∧ z < 8) : Answ w 2 0 0 a n c 0 (batchS l) := by
  refine ⟨fun _ => by have := batchS_size l hz h8; omega, fun _ W hW hw => ?_, fun q hq => (World.ownsRow.lt h q hq).2⟩
  have h2 : OwnI W B (.slice a n c) l := ownsRow_of_block h hW
  exact pbody_files 0 0 _ l W (fun q hq => hq.2.2) (ownI_ints h2) h8 hz

theorem recA_hear {B0 : Nat} (rb : Nat) (L : Nat → Prop) (ob : Nat → Option Obj) : HearSpec (RecA rb L ob) recAsk mayR B0 rb 89 181 := by
  refine ⟨invoke_hear, ?_⟩
  rintro T w x k o ⟨sb, lb, c0, c1, c2, c3, B, v, h⟩ hT hmay
  have hm := fun q hq => hT q (h.inT q hq).1
  have hsbl := hm sb (by simp)
  have sep := (List.nodup_append (l₁ := [rb, sb, lb]) (l₂ := [c0, c1, c2, c3]).1 h.nod).2.2
  have nod := (List.nodup_append (l₁ := [rb, sb, lb]) (l₂ := [c0, c1, c2, c3]).1 h.nod).2.1
  simp at nod
  obtain ⟨⟨n01, n02, n03⟩, ⟨n12, n13⟩, n23⟩ := nod
  have hcl : ∀ off, (w.alloc zero88).cell? ⟨sb, off, none⟩ = w.cell? ⟨sb, off, none⟩ := fun off => World.cell?_of_block (w := w) (a := ⟨sb, off, none⟩) (Below.heap_alloc _ _ _ hsbl)
  have hsz : sb < (w.alloc zero88).heap.size := by simp; omega
  have l0 := hm c0 (by simp)
  have l1 := hm c1 (by simp)
  have l2 := hm c2 (by simp)
  have l3 := hm c3 (by simp)
  have hroom := h.room
  unfold RS.left at hroom
  rcases hmay with ⟨rfl, rfl⟩ | ⟨rfl, rfl⟩ | ⟨rfl, h1, h2⟩ | ⟨rfl, h1, h2⟩
  · -- a clock
    have chs : ∀ w1, Fr (fun k => k = c0) (w.alloc zero88) w1 (fun k => k = c0) → ∀ l : List Int, ChanAt w1 c0 (l.map (.int .i64)) → ∀ w'' : World, (∀ q, q ∈ [c0, c1, c2, c3] → w''.heap[q]? = w1.heap[q]?) → ChanAt w'' c0 (l.map (.int .i64)) ∧ ChanAt w'' c1 (x.batches.map (·.1)) ∧ ChanAt w'' c2 (x.picks.map (.int .i64)) ∧ ChanAt w'' c3 (x.lots.map (.int .i64)) := by
      intro w1 f1 l hl w'' hs
      have p5 := (h.pre hT (ci := c0) (by simp) f1).2.2.2.2
      exact ⟨hl.block (hs c0 (by simp)), h.h1.block ((hs c1 (by simp)).trans (p5 c1 l1 (Ne.symm n01))), h.h2.block ((hs c2 (by simp)).trans (p5 c2 l2 (Ne.symm n02))), h.h3.block ((hs c3 (by simp)).trans (p5 c3 l3 (Ne.symm n03)))⟩
    refine h.hears hT (ci := c0) (by simp) (r := (recAsk x 1 0).1) (x' := (recAsk x 1 0).2) ?_ ?_ ?_
    · cases hx : x.clocks <;> simp [recAsk, hx]
    · cases hx : x.clocks with
      | nil => simpa [recAsk, hx, RS.left] using hroom
      | cons n r =>
        have := frameS_size (bodyS 1 0 (clampC n).toNat) (bodyS_size _ _ _ (by omega) (by simp only [clampC]; omega)).1
        simp [recAsk, hx, RS.left, ByteArray.size_append] at hroom ⊢
        omega
    · refine hearS_clock ((hcl 0).trans h.s0) hsz (sep sb (by simp) c0 (by simp)) x.clocks (h.h0.block (Below.heap_alloc _ _ _ l0)) 0 ?_
      intro w1 f1 hc1
      cases hx : x.clocks with
      | nil =>
        rw [hx] at hc1
        refine ⟨none, 0, 0, ByteArray.empty, by simp [recAsk, hx, noRep], by simpa [recAsk, hx, noRep] using answ_no w1 0 0 0, f1, ?_, by simpa [recAsk, hx, noRep] using ints_nil w1 _, by simp [recAsk, hx, noRep]⟩
        simpa [recAsk, hx] using chs w1 f1 _ hc1
      | cons n r =>
        rw [hx] at hc1
        have hcp : ((clampC n).toNat : Int) = clampC n := by simp only [clampC]; omega
        have ha := answ_one w1 (clampC n).toNat (by simp only [clampC]; omega)
        rw [hcp] at ha
        refine ⟨none, 0, 0, bodyS 1 0 (clampC n).toNat, by simp [recAsk, hx, clampC], by simpa [recAsk, hx] using ha, f1, ?_, by simpa [recAsk, hx] using ints_nil w1 _, by simp [recAsk, hx]⟩
        simpa [recAsk, hx] using chs w1 f1 _ hc1
  · -- a batch
    have chs : ∀ w1, Fr (fun k => k = c1) (w.alloc zero88) w1 (fun k => k = c1) → ∀ l : List (Value × List Int), ChanAt w1 c1 (l.map (·.1)) → ∀ w'' : World, (∀ q, q ∈ [c0, c1, c2, c3] → w''.heap[q]? = w1.heap[q]?) → ChanAt w'' c0 (x.clocks.map (.int .i64)) ∧ ChanAt w'' c1 (l.map (·.1)) ∧ ChanAt w'' c2 (x.picks.map (.int .i64)) ∧ ChanAt w'' c3 (x.lots.map (.int .i64)) := by
      intro w1 f1 l hl w'' hs
      have p5 := (h.pre hT (ci := c1) (by simp) f1).2.2.2.2
      exact ⟨h.h0.block ((hs c0 (by simp)).trans (p5 c0 l0 (n01))), hl.block (hs c1 (by simp)), h.h2.block ((hs c2 (by simp)).trans (p5 c2 l2 (Ne.symm n12))), h.h3.block ((hs c3 (by simp)).trans (p5 c3 l3 (Ne.symm n13)))⟩
    have hin : ∀ p, p ∈ x.batches → IntsIn (w.alloc zero88) p.1 p.2 (fun q => q < (w.alloc zero88).heap.size ∧ q ≠ c1) ∧ p.2.length ≤ 100000000 := by
      intro p hp
      obtain ⟨hi, hl⟩ := h.bs p hp
      obtain ⟨a, c, hv, hc⟩ := hi.block (w' := w.alloc zero88) (fun q hq => Below.heap_alloc _ _ _ (hT q (h.lT q hq)))
      refine ⟨⟨a, c, hv, hc.imp id fun ⟨q, off, e, hq, hcell⟩ => ⟨q, off, e, ⟨by have := hT q (h.lT q hq); simp; omega, fun e => (h.inT c1 (by simp)).2.1 (e ▸ hq)⟩, hcell⟩⟩, hl⟩
    refine h.hears hT (ci := c1) (by simp) (r := (recAsk x 2 0).1) (x' := (recAsk x 2 0).2) ?_ ?_ ?_
    · cases hx : x.batches with
      | nil => simp [recAsk, hx]
      | cons n r => simp [recAsk, hx]; exact fun a b h => .inr h
    · cases hx : x.batches with
      | nil => simpa [recAsk, hx, RS.left] using hroom
      | cons n r =>
        have := frameS_size (batchS (filesL n.2)) (batchS_size _ (filesL_mem _) (filesL_most _)).1
        simp [recAsk, hx, RS.left, ByteArray.size_append] at hroom ⊢
        omega
    · refine hearS_batch ((hcl 1).trans h.s1) hsz (sep sb (by simp) c1 (by simp)) x.batches (h.h1.block (Below.heap_alloc _ _ _ l1)) hin 0 ?_
      intro w1 fv f1 hc1 ho
      cases hx : x.batches with
      | nil =>
        rw [hx] at hc1
        refine ⟨none, 0, 0, ByteArray.empty, by simp [recAsk, hx, noRep], by simpa [recAsk, hx, noRep] using answ_no w1 0 0 0, f1, ?_, by simpa [recAsk, hx, noRep] using ints_nil w1 _, by simp [recAsk, hx, noRep]⟩
        simpa [recAsk, hx] using chs w1 f1 _ hc1
      | cons n r =>
        rw [hx] at hc1 ho
        have hO := ho (by simp)
        simp only [List.headD_cons] at hO
        obtain ⟨a, l, c, rfl⟩ := ownI_shape hO
        have ha := answ_files hO (filesL_most _) (filesL_mem _)
        have hI : IntsIn w1 (.slice a l c) (filesL n.2) (fun q => w.heap.size < q ∧ q < w1.heap.size) := by
          obtain ⟨a', c', hv, hc⟩ := ownI_ints hO
          exact ⟨a', c', hv, hc.imp id fun ⟨q, off, e, ⟨_, h2, h3⟩, hcell⟩ => ⟨q, off, e, ⟨by simp at h2; omega, h3⟩, hcell⟩⟩
        refine ⟨a, l, c, batchS (filesL n.2), by simp [recAsk, hx], by simpa [recAsk, hx] using ha, f1, ?_, by simpa [recAsk, hx] using hI, by simp [recAsk, hx]⟩
        simpa [recAsk, hx] using chs w1 f1 _ hc1
  · -- a pick
    have chs : ∀ w1, Fr (fun k => k = c2) (w.alloc zero88) w1 (fun k => k = c2) → ∀ l : List Int, ChanAt w1 c2 (l.map (.int .i64)) → ∀ w'' : World, (∀ q, q ∈ [c0, c1, c2, c3] → w''.heap[q]? = w1.heap[q]?) → ChanAt w'' c0 (x.clocks.map (.int .i64)) ∧ ChanAt w'' c1 (x.batches.map (·.1)) ∧ ChanAt w'' c2 (l.map (.int .i64)) ∧ ChanAt w'' c3 (x.lots.map (.int .i64)) := by
      intro w1 f1 l hl w'' hs
      have p5 := (h.pre hT (ci := c2) (by simp) f1).2.2.2.2
      exact ⟨h.h0.block ((hs c0 (by simp)).trans (p5 c0 l0 (n02))), h.h1.block ((hs c1 (by simp)).trans (p5 c1 l1 (n12))), hl.block (hs c2 (by simp)), h.h3.block ((hs c3 (by simp)).trans (p5 c3 l3 (Ne.symm n23)))⟩
    have hpos : ∀ n : Int, 0 ≤ n % o ∧ n % o < o := fun n => ⟨Int.emod_nonneg _ (by omega), Int.emod_lt_of_pos _ (by omega)⟩
    refine h.hears hT (ci := c2) (by simp) (r := (recAsk x 3 o).1) (x' := (recAsk x 3 o).2) ?_ ?_ ?_
    · cases hx : x.picks <;> simp [recAsk, hx]
    · cases hx : x.picks with
      | nil => simpa [recAsk, hx, RS.left] using hroom
      | cons n r =>
        have := hpos n
        have := frameS_size (bodyS 3 o.toNat (n % o).toNat) (bodyS_size _ _ _ (by omega) (by omega)).1
        simp [recAsk, hx, RS.left, ByteArray.size_append] at hroom ⊢
        omega
    · refine hearS_pick ((hcl 2).trans h.s2) hsz (sep sb (by simp) c2 (by simp)) x.picks (h.h2.block (Below.heap_alloc _ _ _ l2)) o (by omega) (by omega) ?_
      intro w1 f1 hc1
      cases hx : x.picks with
      | nil =>
        rw [hx] at hc1
        refine ⟨none, 0, 0, ByteArray.empty, by simp [recAsk, hx, noRep], by simpa [recAsk, hx, noRep] using answ_no w1 0 0 0, f1, ?_, by simpa [recAsk, hx, noRep] using ints_nil w1 _, by simp [recAsk, hx, noRep]⟩
        simpa [recAsk, hx] using chs w1 f1 _ hc1
      | cons n r =>
        rw [hx] at hc1
        have hp := hpos n
        have e1 : (o.toNat : Int) = o := by omega
        have e2 : ((n % o).toNat : Int) = n % o := by omega
        have ha := answ_two w1 3 o.toNat (n % o).toNat (.inl rfl) (by omega) (by omega)
        rw [e1, e2] at ha
        refine ⟨none, 0, 0, bodyS 3 o.toNat (n % o).toNat, by simp [recAsk, hx], by simpa [recAsk, hx] using ha, f1, ?_, by simpa [recAsk, hx] using ints_nil w1 _, by simp [recAsk, hx]⟩
        simpa [recAsk, hx] using chs w1 f1 _ hc1
  · -- a lot
    have chs : ∀ w1, Fr (fun k => k = c3) (w.alloc zero88) w1 (fun k => k = c3) → ∀ l : List Int, ChanAt w1 c3 (l.map (.int .i64)) → ∀ w'' : World, (∀ q, q ∈ [c0, c1, c2, c3] → w''.heap[q]? = w1.heap[q]?) → ChanAt w'' c0 (x.clocks.map (.int .i64)) ∧ ChanAt w'' c1 (x.batches.map (·.1)) ∧ ChanAt w'' c2 (x.picks.map (.int .i64)) ∧ ChanAt w'' c3 (l.map (.int .i64)) := by
      intro w1 f1 l hl w'' hs
      have p5 := (h.pre hT (ci := c3) (by simp) f1).2.2.2.2
      exact ⟨h.h0.block ((hs c0 (by simp)).trans (p5 c0 l0 (n03))), h.h1.block ((hs c1 (by simp)).trans (p5 c1 l1 (n13))), h.h2.block ((hs c2 (by simp)).trans (p5 c2 l2 (n23))), hl.block (hs c3 (by simp))⟩
    have hpos : ∀ n : Int, 0 ≤ n % o ∧ n % o < o := fun n => ⟨Int.emod_nonneg _ (by omega), Int.emod_lt_of_pos _ (by omega)⟩
    refine h.hears hT (ci := c3) (by simp) (r := (recAsk x 4 o).1) (x' := (recAsk x 4 o).2) ?_ ?_ ?_
    · cases hx : x.lots <;> simp [recAsk, hx]
    · cases hx : x.lots with
      | nil => simpa [recAsk, hx, RS.left] using hroom
      | cons n r =>
        have := hpos n
        have := frameS_size (bodyS 4 o.toNat (n % o).toNat) (bodyS_size _ _ _ (by omega) (by omega)).1
        simp [recAsk, hx, RS.left, ByteArray.size_append] at hroom ⊢
        omega
    · refine hearS_lot ((hcl 3).trans h.s3) hsz (sep sb (by simp) c3 (by simp)) x.lots (h.h3.block (Below.heap_alloc _ _ _ l3)) o (by omega) (by omega) ?_
      intro w1 f1 hc1
      cases hx : x.lots with
      | nil =>
        rw [hx] at hc1
        refine ⟨none, 0, 0, ByteArray.empty, by simp [recAsk, hx, noRep], by simpa [recAsk, hx, noRep] using answ_no w1 0 0 0, f1, ?_, by simpa [recAsk, hx, noRep] using ints_nil w1 _, by simp [recAsk, hx, noRep]⟩
        simpa [recAsk, hx] using chs w1 f1 _ hc1
      | cons n r =>
        rw [hx] at hc1
        have hp := hpos n
        have e1 : (o.toNat : Int) = o := by omega
        have e2 : ((n % o).toNat : Int) = n % o := by omega
        have ha := answ_two w1 4 o.toNat (n % o).toNat (.inr rfl) (by omega) (by omega)
        rw [e1, e2] at ha
        refine ⟨none, 0, 0, bodyS 4 o.toNat (n % o).toNat, by simp [recAsk, hx], by simpa [recAsk, hx] using ha, f1, ?_, by simpa [recAsk, hx] using ints_nil w1 _, by simp [recAsk, hx]⟩
        simpa [recAsk, hx] using chs w1 f1 _ hc1
end Go.Proofs.YtfmbebofllgmoaaGreatDoor
namespace Go.Proofs.YtfmbebofllgmoaaGreatDoor
open Go.RowKit
attribute [local go_sem ↓] Go.wp_at_zero Go.wp_at_succ

/-- A slice of values in memory, in a block of P. -/
def ValsIn (w : World) (v : Value) (l : List Value) (P : Nat → Prop) : Prop :=
  ∃ a c, v = .slice a l.length c ∧ (l = [] ∨ ∃ q off, a = some ⟨q, off, none⟩ ∧ P q ∧ ∀ i, i < l.length → w.cell? ⟨q, off + i, none⟩ = some (l.getD i undef))
theorem IntsIn.vals {w : World} {v : Value} {l : List Int} {P : Nat → Prop} (h : IntsIn w v l P) : ValsIn w v (l.map (.int .i64)) P := by
  obtain ⟨a, c, hv, hc⟩ := h
  refine ⟨a, c, by simpa using hv, hc.imp (by simp) fun ⟨q, off, e, hq, hcell⟩ => ⟨q, off, e, hq, fun i hi => ?_⟩⟩
  have hi' : i < l.length := by simpa using hi
  rw [hcell i hi']
  simp [List.getD, hi']
theorem ValsIn.block {w w' : World} {v : Value} {l : List Value} {P : Nat → Prop} (h : ValsIn w v l P) (hb : ∀ q, P q → w'.heap[q]? = w.heap[q]?) : ValsIn w' v l P := by
  obtain ⟨a, c, hv, hc⟩ := h
  refine ⟨a, c, hv, hc.imp id fun ⟨q, off, e, hq, hcell⟩ => ⟨q, off, e, hq, fun i hi => ?_⟩⟩
  rw [World.cell?_of_block (w := w) (a := ⟨q, off + i, none⟩) (hb q hq)]
  exact hcell i hi
theorem range_getD (l : List Value) : (List.range l.length).map (fun i => l.getD i undef) = l := by
  apply List.ext_getElem?
  intro i
  by_cases h : i < l.length
  · simp [h, List.getD]
  · rw [List.getElem?_eq_none (by simp; omega), List.getElem?_eq_none (by omega)]
theorem filled_list {w : World} {v : Value} {l : List Value} {P : Nat → Prop} (h : ValsIn w v l P) (hP : ∀ q, P q → q < w.heap.size) (hn : l.length ≤ 5000000) :
    Calls Tryz.prog 62 #[v] w fun e w' => e = .returned (.chan (some w.heap.size)) ∧ w' = w.alloc (.chan l.length l.toArray true l.length 0 false) := by
  obtain ⟨a, c, rfl, hc⟩ := h
  have := filled_any (w := w) a l.length c (fun i => l.getD i undef) hn (fun i hi => by
    rcases hc with rfl | ⟨q, off, e, hq, hcell⟩
    · simp at hi
    · exact ⟨q, off, e, hP q hq, hcell i hi⟩)
  rw [range_getD] at this
  exact this
theorem filledL_list {w : World} {v : Value} {l : List Value} {P : Nat → Prop} (h : ValsIn w v l P) (hP : ∀ q, P q → q < w.heap.size) (hn : l.length ≤ 5000000) :
    Calls Tryz.prog 63 #[v] w fun e w' => e = .returned (.chan (some w.heap.size)) ∧ w' = w.alloc (.chan l.length l.toArray true l.length 0 false) := by
  obtain ⟨a, c, rfl, hc⟩ := h
  have := filledL_any (w := w) a l.length c (fun i => l.getD i undef) hn (fun i hi => by
    rcases hc with rfl | ⟨q, off, e, hq, hcell⟩
    · simp at hi
    · exact ⟨q, off, e, hP q hq, hcell i hi⟩)
  rw [range_getD] at this
  exact this

/-- A closed channel's block. -/
def chanO (l : List Value) : Obj := .chan l.length l.toArray true l.length 0 false
def newW (w : World) (v0 v1 v2 v3 : Value) (l0 l1 l2 l3 : List Value) : World :=
  ((((((w.alloc (.cells #[v0, v1, v2, v3] 29)).drew.alloc (chanO l0)).alloc (chanO l1)).alloc (chanO l2)).alloc (chanO l3)).alloc (.cells #[.chan (some (w.heap.size + 1)), .chan (some (w.heap.size + 2)), .chan (some (w.heap.size + 3)), .chan (some (w.heap.size + 4))] 147))

set_option maxHeartbeats 2000000 in
set_option maxRecDepth 20000 in
theorem new_any {w : World} {v0 v1 v2 v3 : Value} {l0 l1 l2 l3 : List Value} {P : Nat → Prop} (hP : ∀ q, P q → q < w.heap.size) (h0 : ValsIn w v0 l0 P) (h1 : ValsIn w v1 l1 P) (h2 : ValsIn w v2 l2 P) (h3 : ValsIn w v3 l3 P)
    (n0 : l0.length ≤ 5000000) (n1 : l1.length ≤ 5000000) (n2 : l2.length ≤ 5000000) (n3 : l3.length ≤ 5000000) :
    Calls Tryz.prog 36 #[.agg #[v0, v1, v2, v3]] w fun e w' => e = .returned (.pointer (some ⟨w.heap.size + 5, 0, none⟩)) ∧ w' = newW w v0 v1 v2 v3 l0 l1 l2 l3 := by
  have hz1 : (w.alloc (.cells #[v0, v1, v2, v3] 29)).drew.heap.size = w.heap.size + 1 := by show (w.alloc _).heap.size = _; simp
  have s1 : ∀ q, P q → (w.alloc (.cells #[v0, v1, v2, v3] 29)).drew.heap[q]? = w.heap[q]? := fun q hq => Below.heap_alloc _ _ _ (hP q hq)
  have A0 := hide (filled_list (h0.block s1) (fun q hq => by rw [hz1]; have := hP q hq; omega) n0)
  rw [hz1] at A0
  have z2 : ((w.alloc (.cells #[v0, v1, v2, v3] 29)).drew.alloc (chanO l0)).heap.size = w.heap.size + 1 + 1 := by simp
  have s2 : ∀ q, P q → ((w.alloc (.cells #[v0, v1, v2, v3] 29)).drew.alloc (chanO l0)).heap[q]? = w.heap[q]? := fun q hq => (Below.heap_alloc _ _ _ (by rw [hz1]; have := hP q hq; omega)).trans (s1 q hq)
  have A1 := hide (filledL_list (h1.block s2) (fun q hq => by rw [z2]; have := hP q hq; omega) n1)
  rw [z2] at A1
  have z3 : (((w.alloc (.cells #[v0, v1, v2, v3] 29)).drew.alloc (chanO l0)).alloc (chanO l1)).heap.size = w.heap.size + 1 + 1 + 1 := by simp
  have s3 : ∀ q, P q → (((w.alloc (.cells #[v0, v1, v2, v3] 29)).drew.alloc (chanO l0)).alloc (chanO l1)).heap[q]? = w.heap[q]? := fun q hq => (Below.heap_alloc _ _ _ (by rw [z2]; have := hP q hq; omega)).trans (s2 q hq)
  have A2 := hide (filled_list (h2.block s3) (fun q hq => by rw [z3]; have := hP q hq; omega) n2)
  rw [z3] at A2
  have z4 : ((((w.alloc (.cells #[v0, v1, v2, v3] 29)).drew.alloc (chanO l0)).alloc (chanO l1)).alloc (chanO l2)).heap.size = w.heap.size + 1 + 1 + 1 + 1 := by simp
  have s4 : ∀ q, P q → ((((w.alloc (.cells #[v0, v1, v2, v3] 29)).drew.alloc (chanO l0)).alloc (chanO l1)).alloc (chanO l2)).heap[q]? = w.heap[q]? := fun q hq => (Below.heap_alloc _ _ _ (by rw [z3]; have := hP q hq; omega)).trans (s3 q hq)
  have A3 := hide (filled_list (h3.block s4) (fun q hq => by rw [z4]; have := hP q hq; omega) n3)
  rw [z4] at A3
  obtain ⟨a0, k0, rfl, _⟩ := h0
  obtain ⟨a1, k1, rfl, _⟩ := h1
  obtain ⟨a2, k2, rfl, _⟩ := h2
  obtain ⟨a3, k3, rfl, _⟩ := h3
  clear hz1 s1 z2 s2 z3 s3 z4 s4 hP
  rw [show Obj.chan l0.length l0.toArray true l0.length 0 false = chanO l0 from rfl] at A0
  rw [show Obj.chan l1.length l1.toArray true l1.length 0 false = chanO l1 from rfl] at A1
  rw [show Obj.chan l2.length l2.toArray true l2.length 0 false = chanO l2 from rfl] at A2
  rw [show Obj.chan l3.length l3.toArray true l3.length 0 false = chanO l3 from rfl] at A3
  generalize hO0 : chanO l0 = O0 at *
  generalize hO1 : chanO l1 = O1 at *
  generalize hO2 : chanO l2 = O2 at *
  generalize hO3 : chanO l3 = O3 at *
  have hN : newW w (.slice a0 l0.length k0) (.slice a1 l1.length k1) (.slice a2 l2.length k2) (.slice a3 l3.length k3) l0 l1 l2 l3 = ((((((w.alloc (.cells #[.slice a0 l0.length k0, .slice a1 l1.length k1, .slice a2 l2.length k2, .slice a3 l3.length k3] 29)).drew.alloc O0).alloc O1).alloc O2).alloc O3).alloc (.cells #[.chan (some (w.heap.size + 1)), .chan (some (w.heap.size + 2)), .chan (some (w.heap.size + 3)), .chan (some (w.heap.size + 4))] 147)) := by
    unfold newW
    rw [hO0, hO1, hO2, hO3]
  have HN := hide hN
  clear hN
  clear hO0 hO1 hO2 hO3
  go_enter Tryz.func36, Tryz.ntmps36
  go_wp2
  go_region_held3 (fun w' => w'.cell? ⟨w.heap.size, 0, none⟩ = some (.slice a0 l0.length k0) ∧ w'.cell? ⟨w.heap.size, 1, none⟩ = some (.slice a1 l1.length k1) ∧ w'.cell? ⟨w.heap.size, 2, none⟩ = some (.slice a2 l2.length k2) ∧ w'.cell? ⟨w.heap.size, 3, none⟩ = some (.slice a3 l3.length k3)) (simp [go_sem, World.cell?_alloc_past])
    (first
      | (go_at_call 63; refine (unhide A1).mono ?_; rintro e w' ⟨rfl, rfl⟩)
      | (go_at_call_of 62 (Value.slice a0 l0.length k0); refine (unhide A0).mono ?_; rintro e w' ⟨rfl, rfl⟩)
      | (go_at_call_of 62 (Value.slice a2 l2.length k2); refine (unhide A2).mono ?_; rintro e w' ⟨rfl, rfl⟩)
      | (go_at_call_of 62 (Value.slice a3 l3.length k3); refine (unhide A3).mono ?_; rintro e w' ⟨rfl, rfl⟩))
  all_goals
    go_wp2
    go_ret
    refine ⟨rfl, ?_⟩
    rw [unhide HN]
    rfl
end Go.Proofs.YtfmbebofllgmoaaGreatDoor
namespace Go.Proofs.YtfmbebofllgmoaaGreatDoor
open Go.RowKit
attribute [local go_sem ↓] Go.wp_at_zero Go.wp_at_succ

/-! ### What it is -/
/-! ### How it lies -/
abbrev Br := Value × List Int
structure C1 (w : World) (wb : Nat) (wr : World) (v0 p2 p3 : Value) (lc : List Int) : Prop where
  fr : Fr (fun _ => False) w wr (fun _ => False)
  wb_ : wr.heap[wb]? = some (.cells #[v0, .slice none 0 0, p2, p3] 29)
  wbB : w.heap.size ≤ wb
  cl : OwnI wr w.heap.size v0 lc
structure W1 (w : World) (wb : Nat) (wr : World) (v0 v1 p2 p3 : Value) (lc : List Int) (bt : List Br) : Prop where
  fr : Fr (fun _ => False) w wr (fun _ => False)
  wb_ : wr.heap[wb]? = some (.cells #[v0, v1, p2, p3] 29)
  wbB : w.heap.size ≤ wb
  cl : OwnI wr w.heap.size v0 lc
  bm : wr.ownsRow w.heap.size 26 1 v1 bt.length (bt.map (·.1))
  bh : ∀ b, b ∈ bt → OwnI wr w.heap.size b.1 b.2
theorem row_d {W : World} {B e size n : Nat} {v : Value} {xs : List Value} (h : W.ownsRow B e size v n xs) {q : Nat} (hq : own v q) : ∃ cur, W.heap[q]? = some (.cells cur e (0, 0)) := by
  rcases h.2 with ⟨rfl, _⟩ | ⟨g, cap, cur, rfl, _, hg, _⟩
  · simp [own, Value.ownBlock] at hq
  · simp only [own, Value.ownBlock, Option.some.injEq] at hq
    subst hq
    exact ⟨cur, hg⟩
end Go.Proofs.YtfmbebofllgmoaaGreatDoor
namespace Go.Proofs.YtfmbebofllgmoaaGreatDoor
open Go.RowKit

/-- An armed timer, as the document keeps it: the program's own record, and the turn in which it was armed. -/
abbrev AT := TM × Int
def flatA : List AT → List Value
  | [] => []
  | p :: r => .int .i64 p.1.2.2.2 :: .int .i64 p.1.2.1 :: .int .i64 p.2 :: flatA r
theorem flatA_append (a b : List AT) : flatA (a ++ b) = flatA a ++ flatA b := by
  induction a with
  | nil => rfl
  | cons x r ih => simp [flatA, ih]
theorem flatA_get : ∀ (A : List AT) (i : Nat) (p : AT), A[i]? = some p → (flatA A)[i * 3]? = some (.int .i64 p.1.2.2.2) ∧ (flatA A)[i * 3 + 1]? = some (.int .i64 p.1.2.1) ∧ (flatA A)[i * 3 + 2]? = some (.int .i64 p.2)
  | [], i, p, h => by simp at h
  | x :: r, 0, p, h => by
    simp at h
    subst h
    exact ⟨rfl, rfl, rfl⟩
  | x :: r, i + 1, p, h => by
    have hr := flatA_get r i p (by simpa using h)
    have e : ∀ j, (flatA (x :: r))[(i + 1) * 3 + j]? = (flatA r)[i * 3 + j]? := fun j => by
      rw [show (i + 1) * 3 + j = (i * 3 + j) + 3 by omega]; rfl
    exact ⟨(e 0).trans hr.1, (e 1).trans hr.2.1, (e 2).trans hr.2.2⟩

/-- The document's armed timers are the program's: as they were armed; those of number sq and below before this turn. -/
structure ARel (s : PS) (A : List AT) (tn sq : Int) : Prop where
  mem : ∀ p, p ∈ A → p.1.1 = true ∧ 0 ≤ p.1.2.2.2 ∧ p.1.2.2.2 < 8 ∧ s.tim p.1.2.2.2.toNat = p.1
  all : ∀ i, (s.tim i).1 = true → i < 8 ∧ (s.tim i).2.2.2 = (i : Int) ∧ ∃ u, (s.tim i, u) ∈ A
  seq : A.Pairwise fun p q => p.1.2.2.1 < q.1.2.2.1
  top : ∀ p, p ∈ A → p.1.2.2.1 ≤ s.armings
  trn : ∀ p, p ∈ A → (p.2 < tn ↔ p.1.2.2.1 ≤ sq) ∧ p.2 ≤ tn
  sq : sq ≤ s.armings
  len : (A.length : Int) ≤ s.armings
theorem ARel.of {s s' : PS} {A : List AT} {tn sq : Int} (h : ARel s A tn sq) (ht : s'.tim = s.tim) (ha : s'.armings = s.armings) : ARel s' A tn sq :=
  ⟨by rw [ht]; exact h.mem, by rw [ht]; exact h.all, h.seq, by rw [ha]; exact h.top, h.trn, by rw [ha]; exact h.sq, by rw [ha]; exact h.len⟩

/-- A timer is cancelled. -/
theorem ARel.cancel {s : PS} {A : List AT} {tn sq : Int} (h : ARel s A tn sq) (z : Int) (hz : 0 ≤ z) : ARel { s with tim := upd s.tim z.toNat (false, (s.tim z.toNat).2) } (A.filter fun p => decide (p.1.2.2.2 ≠ z)) tn sq := by
  have hm : ∀ p, p ∈ (A.filter fun p => decide (p.1.2.2.2 ≠ z)) → p ∈ A ∧ p.1.2.2.2 ≠ z := fun p hp => by
    rw [List.mem_filter] at hp
    exact ⟨hp.1, of_decide_eq_true hp.2⟩
  refine ⟨fun p hp => ?_, fun i hi => ?_, h.seq.filter _, fun p hp => h.top p (hm p hp).1, fun p hp => h.trn p (hm p hp).1, h.sq, ?_⟩
  · obtain ⟨h1, h2⟩ := hm p hp
    obtain ⟨a1, a2, a3, a4⟩ := h.mem p h1
    refine ⟨a1, a2, a3, ?_⟩
    show upd s.tim z.toNat _ p.1.2.2.2.toNat = p.1
    unfold upd
    rw [if_neg (by omega)]
    exact a4
  · change (upd s.tim z.toNat (false, (s.tim z.toNat).2) i).1 = true at hi
    by_cases e : i = z.toNat
    · unfold upd at hi; rw [if_pos e] at hi; cases hi
    · have hu : upd s.tim z.toNat (false, (s.tim z.toNat).2) i = s.tim i := by unfold upd; rw [if_neg e]
      show i < 8 ∧ (upd s.tim z.toNat (false, (s.tim z.toNat).2) i).2.2.2 = (i : Int) ∧ ∃ u, (upd s.tim z.toNat (false, (s.tim z.toNat).2) i, u) ∈ _
      rw [hu] at hi ⊢
      obtain ⟨b1, b2, u, b3⟩ := h.all i hi
      refine ⟨b1, b2, u, ?_⟩
      rw [List.mem_filter]
      exact ⟨b3, decide_eq_true (by show (s.tim i).2.2.2 ≠ z; omega)⟩
  · have := List.length_filter_le (fun p : AT => decide (p.1.2.2.2 ≠ z)) A
    have := h.len
    show ((A.filter _).length : Int) ≤ s.armings
    omega
/-- A timer is armed. -/
theorem ARel.arm {s : PS} {A : List AT} {tn sq : Int} (h : ARel s A tn sq) (z at_ : Int) (hz : 0 ≤ z) (hz8 : z < 8) : ARel { s with armings := s.armings + 1, tim := upd s.tim z.toNat (true, at_, s.armings + 1, z) } ((A.filter fun p => decide (p.1.2.2.2 ≠ z)) ++ [((true, at_, s.armings + 1, z), tn)]) tn sq := by
  have hc := h.cancel z hz
  have hm : ∀ p, p ∈ (A.filter fun p => decide (p.1.2.2.2 ≠ z)) → p ∈ A ∧ p.1.2.2.2 ≠ z := fun p hp => by
    rw [List.mem_filter] at hp
    exact ⟨hp.1, of_decide_eq_true hp.2⟩
  have hsq := h.sq
  refine ⟨fun p hp => ?_, fun i hi => ?_, ?_, fun p hp => ?_, fun p hp => ?_, by show sq ≤ s.armings + 1; omega, ?_⟩
  · rcases List.mem_append.1 hp with hp | hp
    · obtain ⟨h1, h2⟩ := hm p hp
      obtain ⟨a1, a2, a3, a4⟩ := h.mem p h1
      refine ⟨a1, a2, a3, ?_⟩
      show upd s.tim z.toNat _ p.1.2.2.2.toNat = p.1
      unfold upd
      rw [if_neg (by omega)]
      exact a4
    · rw [List.mem_singleton] at hp
      subst hp
      refine ⟨rfl, hz, hz8, ?_⟩
      show upd s.tim z.toNat _ z.toNat = _
      unfold upd
      rw [if_pos rfl]
  · show i < 8 ∧ (upd s.tim z.toNat (true, at_, s.armings + 1, z) i).2.2.2 = (i : Int) ∧ ∃ u, (upd s.tim z.toNat (true, at_, s.armings + 1, z) i, u) ∈ _
    change (upd s.tim z.toNat (true, at_, s.armings + 1, z) i).1 = true at hi
    by_cases e : i = z.toNat
    · have hu : upd s.tim z.toNat (true, at_, s.armings + 1, z) i = (true, at_, s.armings + 1, z) := by unfold upd; rw [if_pos e]
      rw [hu]
      exact ⟨by omega, by show z = (i : Int); omega, tn, by simp⟩
    · have hu : upd s.tim z.toNat (true, at_, s.armings + 1, z) i = s.tim i := by unfold upd; rw [if_neg e]
      rw [hu] at hi ⊢
      obtain ⟨b1, b2, u, b3⟩ := h.all i hi
      refine ⟨b1, b2, u, List.mem_append_left _ ?_⟩
      rw [List.mem_filter]
      exact ⟨b3, decide_eq_true (by show (s.tim i).2.2.2 ≠ z; omega)⟩
  · refine List.pairwise_append.2 ⟨h.seq.filter _, List.pairwise_singleton _ _, fun p hp q hq => ?_⟩
    rw [List.mem_singleton] at hq
    subst hq
    have := h.top p (hm p hp).1
    show p.1.2.2.1 < s.armings + 1
    omega
  · show p.1.2.2.1 ≤ s.armings + 1
    rcases List.mem_append.1 hp with hp | hp
    · have := h.top p (hm p hp).1; omega
    · rw [List.mem_singleton] at hp
      subst hp
      exact Int.le_refl _
  · rcases List.mem_append.1 hp with hp | hp
    · exact h.trn p (hm p hp).1
    · rw [List.mem_singleton] at hp
      subst hp
      refine ⟨⟨fun e => absurd e (Int.lt_irrefl _), fun e => ?_⟩, Int.le_refl _⟩
      change s.armings + 1 ≤ sq at e
      omega
  · have h1 := List.length_filter_le (fun p : AT => decide (p.1.2.2.2 ≠ z)) A
    have h2 := h.len
    show ((_ ++ [_] : List AT).length : Int) ≤ s.armings + 1
    rw [List.length_append]
    simp only [List.length_cons, List.length_nil]
    omega
/-- A turn begins. -/
theorem ARel.turn {s : PS} {A : List AT} {tn sq : Int} (h : ARel s A tn sq) : ARel s A (tn + 1) s.armings :=
  ⟨h.mem, h.all, h.seq, h.top, fun p hp => ⟨⟨fun _ => h.top p hp, fun _ => by have := (h.trn p hp).2; omega⟩, by have := (h.trn p hp).2; omega⟩, Int.le_refl _, h.len⟩

/-- The cells of the struct. -/
def limg (pv : Nat → Value) (vt va : Value) (s : PS) (tn : Int) (k : Nat) : Value :=
  if k < 10 then pv k else if k < 14 then .int .i64 (s.reg (k - 10)) else if k = 14 then .int .i64 s.clock else if k = 15 then .int .i64 tn else if k = 16 then va else if k < 25 then .bool (s.wat (k - 17)) else if k = 25 then .int .i64 s.fuel else if k = 26 then vt else .int .i64 s.fin
/-- Block b holds the cells c 0 .. c 27, free to be written. -/
def LAt (w : World) (b : Nat) (c : Nat → Value) : Prop := ∀ k, k < 28 → w.cell? ⟨b, k, none⟩ = some (c k) ∧ w.frozen? ⟨b, k, none⟩ = false
theorem LAt.set {w : World} {b : Nat} {c : Nat → Value} (h : LAt w b c) (k : Nat) (v : Value) (_hk : k < 28) : LAt (w.setCell ⟨b, k, none⟩ v) b (setC c k v) := by
  intro j hj
  obtain ⟨h1, h2⟩ := h j hj
  refine ⟨?_, by simpa using h2⟩
  by_cases e : j = k
  · subst e
    rw [World.cell?_setCell_same' _ _ _ (by rw [h1]; rfl)]
    simp [setC]
  · rw [World.cell?_setCell_other _ _ _ _ (by intro he; injection he; omega), h1]
    simp [setC, e]
theorem LAt.congr {w : World} {b : Nat} {c c' : Nat → Value} (h : LAt w b c) (he : ∀ k, k < 28 → c' k = c k) : LAt w b c' := fun k hk => by rw [he k hk]; exact h k hk
theorem LAt.block {w w' : World} {b : Nat} {c : Nat → Value} (h : LAt w b c) (he : w'.heap[b]? = w.heap[b]?) : LAt w' b c := fun k hk => by
  rw [World.cell?_of_block (w := w) (a := ⟨b, k, none⟩) he, World.frozen?_of_block (w := w) (a := ⟨b, k, none⟩) he]
  exact h k hk
section
variable (pv : Nat → Value) (vt va : Value) (s : PS) (tn : Int)
theorem limg_pv (i : Nat) (h : i < 10) : limg pv vt va s tn i = pv i := by simp [limg, h]
theorem limg_reg (i : Nat) (h : i < 4) : limg pv vt va s tn (10 + i) = .int .i64 (s.reg i) := by
  have e1 : ¬ 10 + i < 10 := by omega
  have e2 : 10 + i < 14 := by omega
  have e3 : 10 + i - 10 = i := by omega
  simp only [limg, e1, e2, e3, if_true, if_false]
theorem limg_clock : limg pv vt va s tn 14 = .int .i64 s.clock := by simp [limg]
theorem limg_turn : limg pv vt va s tn 15 = .int .i64 tn := by simp [limg]
theorem limg_armed : limg pv vt va s tn 16 = va := by simp [limg]
theorem limg_wat (i : Nat) (h : i < 8) : limg pv vt va s tn (17 + i) = .bool (s.wat i) := by
  have e1 : ¬ 17 + i < 10 := by omega
  have e2 : ¬ 17 + i < 14 := by omega
  have e3 : ¬ 17 + i = 14 := by omega
  have e4 : ¬ 17 + i = 15 := by omega
  have e5 : ¬ 17 + i = 16 := by omega
  have e6 : 17 + i < 25 := by omega
  have e7 : 17 + i - 17 = i := by omega
  simp only [limg, e1, e2, e3, e4, e5, e6, e7, if_true, if_false]
theorem limg_fuel : limg pv vt va s tn 25 = .int .i64 s.fuel := by simp [limg]
theorem limg_trace : limg pv vt va s tn 26 = vt := by simp [limg]
theorem limg_fin : limg pv vt va s tn 27 = .int .i64 s.fin := by simp [limg]
end
theorem lidx (j : Nat) (h : j < 28) : j < 10 ∨ (∃ i, i < 4 ∧ j = 10 + i) ∨ j = 14 ∨ j = 15 ∨ j = 16 ∨ (∃ i, i < 8 ∧ j = 17 + i) ∨ j = 25 ∨ j = 26 ∨ j = 27 := by
  by_cases h1 : j < 10
  · exact .inl h1
  by_cases h2 : j < 14
  · exact .inr (.inl ⟨j - 10, by omega, by omega⟩)
  by_cases h3 : j = 14
  · exact .inr (.inr (.inl h3))
  by_cases h4 : j = 15
  · exact .inr (.inr (.inr (.inl h4)))
  by_cases h5 : j = 16
  · exact .inr (.inr (.inr (.inr (.inl h5))))
  by_cases h6 : j < 25
  · exact .inr (.inr (.inr (.inr (.inr (.inl ⟨j - 17, by omega, by omega⟩)))))
  by_cases h7 : j = 25
  · exact .inr (.inr (.inr (.inr (.inr (.inr (.inl h7))))))
  by_cases h8 : j = 26
  · exact .inr (.inr (.inr (.inr (.inr (.inr (.inr (.inl h8)))))))
  · exact .inr (.inr (.inr (.inr (.inr (.inr (.inr (.inr (by omega))))))))
/-- One store into the struct, read off the state. -/
theorem lset_gen {pv : Nat → Value} {vt va vt' va' : Value} {s s' : PS} {tn tn' : Int} {k : Nat} {v : Value} (hk : limg pv vt' va' s' tn' k = v) (hreg : ∀ i, i < 4 → k ≠ 10 + i → s'.reg i = s.reg i) (h14 : k ≠ 14 → s'.clock = s.clock) (h15 : k ≠ 15 → tn' = tn) (h16 : k ≠ 16 → va' = va)
    (hwat : ∀ i, i < 8 → k ≠ 17 + i → s'.wat i = s.wat i) (h25 : k ≠ 25 → s'.fuel = s.fuel) (h26 : k ≠ 26 → vt' = vt) (h27 : k ≠ 27 → s'.fin = s.fin) (j : Nat) (hj : j < 28) : limg pv vt' va' s' tn' j = setC (limg pv vt va s tn) k v j := by
  unfold setC
  by_cases e : j = k
  · subst e; rw [if_pos rfl]; exact hk
  rw [if_neg e]
  rcases lidx j hj with h | ⟨i, hi, rfl⟩ | rfl | rfl | rfl | ⟨i, hi, rfl⟩ | rfl | rfl | rfl
  · rw [limg_pv _ _ _ _ _ _ h, limg_pv _ _ _ _ _ _ h]
  · rw [limg_reg _ _ _ _ _ _ hi, limg_reg _ _ _ _ _ _ hi, hreg i hi (Ne.symm e)]
  · rw [limg_clock, limg_clock, h14 (Ne.symm e)]
  · rw [limg_turn, limg_turn, h15 (Ne.symm e)]
  · rw [limg_armed, limg_armed, h16 (Ne.symm e)]
  · rw [limg_wat _ _ _ _ _ _ hi, limg_wat _ _ _ _ _ _ hi, hwat i hi (Ne.symm e)]
  · rw [limg_fuel, limg_fuel, h25 (Ne.symm e)]
  · rw [limg_trace, limg_trace, h26 (Ne.symm e)]
  · rw [limg_fin, limg_fin, h27 (Ne.symm e)]

/-- The document's source in memory: it lies in the blocks of T, hangs on nothing else but what lies below B. -/
structure SQLaw {σ : Type} (SQ : (Nat → Value) → (Nat → Prop) → World → σ → Prop) (B : Nat) : Prop where
  keep : ∀ {pv : Nat → Value} {T : Nat → Prop} {w w' : World} {x : σ}, SQ pv T w x → (∀ k, T k → w'.heap[k]? = w.heap[k]?) → (∀ k, k < B → w'.heap[k]? = w.heap[k]?) → w.heap.size ≤ w'.heap.size → SQ pv T w' x
/-- The document's loop in memory. -/
structure LQ {σ : Type} (SQ : (Nat → Value) → (Nat → Prop) → World → σ → Prop) (B : Nat) (S : Nat → Prop) (w : World) (b : Nat) (pv : Nat → Value) (vt va : Value) (T : Nat → Prop) (s : PS) (A : List AT) (tn sq : Int) (x : σ) : Prop where
  bound : ∀ k, S k → B ≤ k ∧ k < w.heap.size
  cells : LAt w b (limg pv vt va s tn)
  row : w.ownsRow B 72 3 vt s.trace.length (flatE s.trace)
  arow : w.ownsRow B 210 3 va A.length (flatA A)
  rel : ARel s A tn sq
  src : SQ pv T w x
  hc : ∃ a n c, pv 9 = .slice a n c ∧ (n : Int) = s.heard
  inB : S b
  inV : ∀ q, own vt q → S q ∧ q ≠ b ∧ ¬ T q
  inA : ∀ q, own va q → S q ∧ q ≠ b ∧ ¬ T q
  inT : ∀ k, T k → S k ∧ k ≠ b
section
variable {σ : Type} {SQ : (Nat → Value) → (Nat → Prop) → World → σ → Prop} {B : Nat} {S T : Nat → Prop} {w : World} {b : Nat} {pv : Nat → Value} {vt va : Value} {s : PS} {A : List AT} {tn sq : Int} {x : σ}
theorem LQ.cell (h : LQ SQ B S w b pv vt va T s A tn sq x) (k : Nat) (hk : k < 28) : w.cell? ⟨b, k, none⟩ = some (limg pv vt va s tn k) := (h.cells k hk).1
theorem LQ.free (h : LQ SQ B S w b pv vt va T s A tn sq x) (k : Nat) (hk : k < 28) : w.frozen? ⟨b, k, none⟩ = false := (h.cells k hk).2
theorem LQ.blt (h : LQ SQ B S w b pv vt va T s A tn sq x) : b < w.heap.size := (h.bound b h.inB).2
theorem LQ.below (h : LQ SQ B S w b pv vt va T s A tn sq x) : B ≤ w.heap.size := by have := h.bound b h.inB; omega
/-- The loop lies there still, where its own blocks have not turned. -/
theorem LQ.kept (L : SQLaw SQ B) (h : LQ SQ B S w b pv vt va T s A tn sq x) {w' : World} (hs : ∀ k, S k → w'.heap[k]? = w.heap[k]?) (hb : ∀ k, k < B → w'.heap[k]? = w.heap[k]?) (hz : w.heap.size ≤ w'.heap.size) : LQ SQ B S w' b pv vt va T s A tn sq x :=
  ⟨fun k hk => ⟨(h.bound k hk).1, Nat.lt_of_lt_of_le (h.bound k hk).2 hz⟩, h.cells.block (hs b h.inB), ownsRow_of_block h.row (fun q hq => hs q (h.inV q hq).1), ownsRow_of_block h.arow (fun q hq => hs q (h.inA q hq).1), h.rel, L.keep h.src (fun k hk => hs k (h.inT k hk).1) hb hz, h.hc, h.inB, h.inV, h.inA, h.inT⟩
theorem LQ.fr (L : SQLaw SQ B) (h : LQ SQ B S w b pv vt va T s A tn sq x) {w' : World} (hf : Fr (fun _ => False) w w' (fun _ => False)) : LQ SQ B S w' b pv vt va T s A tn sq x :=
  h.kept L (fun k hk => hf.same k (h.bound k hk).2 (fun h => h)) (fun k hk => hf.same k (Nat.lt_of_lt_of_le hk h.below) (fun h => h)) hf.size
theorem LQ.alloc (L : SQLaw SQ B) (h : LQ SQ B S w b pv vt va T s A tn sq x) (o : Obj) : LQ SQ B S (w.alloc o) b pv vt va T s A tn sq x := h.fr L ((Fr.refl _ _).alloc o)
theorem LQ.drew (L : SQLaw SQ B) (h : LQ SQ B S w b pv vt va T s A tn sq x) : LQ SQ B S w.drew b pv vt va T s A tn sq x := h.fr L (Fr.refl _ _).drew
theorem LQ.drewN (L : SQLaw SQ B) (h : LQ SQ B S w b pv vt va T s A tn sq x) (n : Nat) : LQ SQ B S (w.drewN n) b pv vt va T s A tn sq x := h.fr L ((Fr.refl _ _).drewN n)
/-- A store into a block that is new. -/
theorem LQ.setNew (L : SQLaw SQ B) (h : LQ SQ B S w b pv vt va T s A tn sq x) (a : Addr) (v : Value) (ha : ¬ S a.block) (hB : B ≤ a.block) : LQ SQ B S (w.setCell a v) b pv vt va T s A tn sq x :=
  h.kept L (fun k hk => Below.heap_setCell _ _ _ _ (by intro e; subst e; exact ha hk)) (fun k hk => Below.heap_setCell _ _ _ _ (by intro e; subst e; omega)) (by simp [World.setCell])
/-- A store into the struct that turns no row. -/
theorem LQ.set (L : SQLaw SQ B) (h : LQ SQ B S w b pv vt va T s A tn sq x) (k : Nat) (v : Value) (s' : PS) {tn' sq' : Int} (hk : k < 28) (he : ∀ j, j < 28 → limg pv vt va s' tn' j = setC (limg pv vt va s tn) k v j) (ht : s'.trace = s.trace) (hr : ARel s' A tn' sq') (hh : s'.heard = s.heard) :
    LQ SQ B S (w.setCell ⟨b, k, none⟩ v) b pv vt va T s' A tn' sq' x := by
  have hsame : ∀ q, q ≠ b → (w.setCell ⟨b, k, none⟩ v).heap[q]? = w.heap[q]? := fun q hq => Below.heap_setCell _ _ _ _ hq
  have hz : w.heap.size = (w.setCell ⟨b, k, none⟩ v).heap.size := by simp [World.setCell]
  have hbB := (h.bound b h.inB).1
  exact ⟨fun k hk => ⟨(h.bound k hk).1, by rw [← hz]; exact (h.bound k hk).2⟩, (h.cells.set k v hk).congr he, by rw [ht]; exact ownsRow_of_block h.row (fun q hq => hsame q (h.inV q hq).2.1),
    ownsRow_of_block h.arow (fun q hq => hsame q (h.inA q hq).2.1), hr, L.keep h.src (fun q hq => hsame q (h.inT q hq).2) (fun q hq => hsame q (by omega)) (Nat.le_of_eq hz), by rw [hh]; exact h.hc, h.inB, h.inV, h.inA, h.inT⟩
/-- A new row of armed timers is laid, and stored. -/
theorem LQ.setArmed (L : SQLaw SQ B) (h : LQ SQ B S w b pv vt va T s A tn sq x) {w1 : World} {va' : Value} {A' : List AT} {s' : PS} (hr : w1.ownsRow B 210 3 va' A'.length (flatA A')) (hf : Fr (own va) w w1 (own va')) (rel : ARel s' A' tn sq)
    (e1 : s'.reg = s.reg) (e2 : s'.clock = s.clock) (e3 : s'.wat = s.wat) (e4 : s'.fuel = s.fuel) (e5 : s'.trace = s.trace) (e6 : s'.fin = s.fin) (e7 : s'.heard = s.heard) :
    LQ SQ B (fun q => (S q ∧ ¬ own va q) ∨ own va' q) (w1.setCell ⟨b, 16, none⟩ va') b pv vt va' T s' A' tn sq x ∧ Fr S w (w1.setCell ⟨b, 16, none⟩ va') (fun q => (S q ∧ ¬ own va q) ∨ own va' q) := by
  have hb := h.blt
  have hbB := (h.bound b h.inB).1
  have hbv : ¬ own va b := fun e => (h.inA b e).2.1 rfl
  have hz : (w1.setCell ⟨b, 16, none⟩ va').heap.size = w1.heap.size := by simp [World.setCell]
  have hnew : ∀ q, own va' q → own va q ∨ w.heap.size ≤ q := fun q hq => by
    by_cases hl : q < w.heap.size
    · exact .inl (hf.old q hl hq)
    · exact .inr (by omega)
  have hb' : ¬ own va' b := fun e => by
    rcases hnew b e with h1 | h1
    · exact hbv h1
    · omega
  have same1 : ∀ q, q < w.heap.size → ¬ own va q → w1.heap[q]? = w.heap[q]? := hf.same
  have same2 : ∀ q, q ≠ b → (w1.setCell ⟨b, 16, none⟩ va').heap[q]? = w1.heap[q]? := fun q hq => Below.heap_setCell _ _ _ _ hq
  have hvt : ∀ q, own vt q → ¬ own va q := fun q hq hv => by
    obtain ⟨c1, h1⟩ := row_d h.row hq
    obtain ⟨c2, h2⟩ := row_d h.arow hv
    rw [h1] at h2
    injection h2 with h2
    injection h2 with _ h2
    exact absurd h2 (by decide)
  have nT : ∀ q, T q → ¬ own va q := fun q hq hv => (h.inA q hv).2.2 hq
  refine ⟨⟨fun k hk => ?_, ?_, ?_, ?_, rel, ?_, by rw [e7]; exact h.hc, .inl ⟨h.inB, hbv⟩, fun q hq => ?_, fun q hq => ?_, fun k hk => ?_⟩, ?_⟩
  · rw [hz]
    rcases hk with ⟨hk, _⟩ | hk
    · exact ⟨(h.bound k hk).1, Nat.lt_of_lt_of_le (h.bound k hk).2 hf.size⟩
    · exact World.ownsRow.lt hr k hk
  · refine ((h.cells.block (same1 b hb hbv)).set 16 va' (by omega)).congr (lset_gen (limg_armed _ _ _ _ _) (fun i _ _ => by rw [e1]) (fun _ => e2) (fun _ => rfl) (fun e => absurd rfl e) (fun i _ _ => by rw [e3]) (fun _ => e4) (fun _ => rfl) (fun _ => e6))
  · rw [e5]
    exact ownsRow_of_block h.row (fun q hq => (same2 q (h.inV q hq).2.1).trans (same1 q (h.bound q (h.inV q hq).1).2 (hvt q hq)))
  · exact ownsRow_of_block hr (fun q hq => same2 q (fun e => hb' (e ▸ hq)))
  · refine L.keep h.src (fun q hq => (same2 q (h.inT q hq).2).trans (same1 q (h.bound q (h.inT q hq).1).2 (nT q hq))) (fun q hq => (same2 q (by omega)).trans (same1 q (by omega) (fun e => ?_))) (by rw [hz]; exact hf.size)
    have := (World.ownsRow.lt h.arow q e).1
    omega
  · exact ⟨.inl ⟨(h.inV q hq).1, hvt q hq⟩, (h.inV q hq).2.1, (h.inV q hq).2.2⟩
  · refine ⟨.inr hq, fun e => hb' (e ▸ hq), fun ht => ?_⟩
    rcases hnew q hq with h1 | h1
    · exact nT q ht h1
    · have := (h.bound q (h.inT q ht).1).2; omega
  · exact ⟨.inl ⟨(h.inT k hk).1, nT k hk⟩, (h.inT k hk).2⟩
  · refine ⟨hf.os, hf.tape, hf.output, by rw [hz]; exact hf.size, fun k hk hn => (same2 k (fun e => hn (e ▸ h.inB))).trans (same1 k hk (fun e => hn (h.inA k e).1)), fun k hk hs => ?_⟩
    rcases hs with ⟨hs, _⟩ | hs
    · exact hs
    · exact (h.inA k (hf.old k hk hs)).1
/-- The trace grows, and is stored. -/
theorem LQ.setTrace (L : SQLaw SQ B) (h : LQ SQ B S w b pv vt va T s A tn sq x) {w1 : World} {vt' : Value} {o : O3} (hr : w1.ownsRow B 72 3 vt' (s.trace.length + 1) (flatE s.trace ++ [.int .i64 o.1, .int .i64 o.2.1, .int .i64 o.2.2])) (hf : Fr (own vt) w w1 (own vt')) :
    LQ SQ B (fun q => (S q ∧ ¬ own vt q) ∨ own vt' q) (w1.setCell ⟨b, 26, none⟩ vt') b pv vt' va T { s with trace := s.trace ++ [o] } A tn sq x ∧ Fr S w (w1.setCell ⟨b, 26, none⟩ vt') (fun q => (S q ∧ ¬ own vt q) ∨ own vt' q) := by
  have hb := h.blt
  have hbB := (h.bound b h.inB).1
  have hbv : ¬ own vt b := fun e => (h.inV b e).2.1 rfl
  have hz : (w1.setCell ⟨b, 26, none⟩ vt').heap.size = w1.heap.size := by simp [World.setCell]
  have hnew : ∀ q, own vt' q → own vt q ∨ w.heap.size ≤ q := fun q hq => by
    by_cases hl : q < w.heap.size
    · exact .inl (hf.old q hl hq)
    · exact .inr (by omega)
  have hb' : ¬ own vt' b := fun e => by
    rcases hnew b e with h1 | h1
    · exact hbv h1
    · omega
  have same1 : ∀ q, q < w.heap.size → ¬ own vt q → w1.heap[q]? = w.heap[q]? := hf.same
  have same2 : ∀ q, q ≠ b → (w1.setCell ⟨b, 26, none⟩ vt').heap[q]? = w1.heap[q]? := fun q hq => Below.heap_setCell _ _ _ _ hq
  have hva : ∀ q, own va q → ¬ own vt q := fun q hq hv => by
    obtain ⟨c1, h1⟩ := row_d h.arow hq
    obtain ⟨c2, h2⟩ := row_d h.row hv
    rw [h1] at h2
    injection h2 with h2
    injection h2 with _ h2
    exact absurd h2 (by decide)
  have nT : ∀ q, T q → ¬ own vt q := fun q hq hv => (h.inV q hv).2.2 hq
  refine ⟨⟨fun k hk => ?_, ?_, ?_, ?_, h.rel.of rfl rfl, ?_, h.hc, .inl ⟨h.inB, hbv⟩, fun q hq => ?_, fun q hq => ?_, fun k hk => ?_⟩, ?_⟩
  · rw [hz]
    rcases hk with ⟨hk, _⟩ | hk
    · exact ⟨(h.bound k hk).1, Nat.lt_of_lt_of_le (h.bound k hk).2 hf.size⟩
    · exact World.ownsRow.lt hr k hk
  · exact ((h.cells.block (same1 b hb hbv)).set 26 vt' (by omega)).congr (lset_gen (limg_trace _ _ _ _ _) (fun i _ _ => rfl) (fun _ => rfl) (fun _ => rfl) (fun _ => rfl) (fun i _ _ => rfl) (fun _ => rfl) (fun e => absurd rfl e) (fun _ => rfl))
  · have e : (s.trace ++ [o]).length = s.trace.length + 1 := by simp
    show (w1.setCell ⟨b, 26, none⟩ vt').ownsRow B 72 3 vt' (s.trace ++ [o]).length (flatE (s.trace ++ [o]))
    rw [e, flatE_append]
    exact ownsRow_of_block hr (fun q hq => same2 q (fun e => hb' (e ▸ hq)))
  · exact ownsRow_of_block h.arow (fun q hq => (same2 q (h.inA q hq).2.1).trans (same1 q (h.bound q (h.inA q hq).1).2 (hva q hq)))
  · refine L.keep h.src (fun q hq => (same2 q (h.inT q hq).2).trans (same1 q (h.bound q (h.inT q hq).1).2 (nT q hq))) (fun q hq => (same2 q (by omega)).trans (same1 q (by omega) (fun e => ?_))) (by rw [hz]; exact hf.size)
    have := (World.ownsRow.lt h.row q e).1
    omega
  · refine ⟨.inr hq, fun e => hb' (e ▸ hq), fun ht => ?_⟩
    rcases hnew q hq with h1 | h1
    · exact nT q ht h1
    · have := (h.bound q (h.inT q ht).1).2; omega
  · exact ⟨.inl ⟨(h.inA q hq).1, hva q hq⟩, (h.inA q hq).2.1, (h.inA q hq).2.2⟩
  · exact ⟨.inl ⟨(h.inT k hk).1, nT k hk⟩, (h.inT k hk).2⟩
  · refine ⟨hf.os, hf.tape, hf.output, by rw [hz]; exact hf.size, fun k hk hn => (same2 k (fun e => hn (e ▸ h.inB))).trans (same1 k hk (fun e => hn (h.inV k e).1)), fun k hk hs => ?_⟩
    rcases hs with ⟨hs, _⟩ | hs
    · exact hs
    · exact (h.inV k (hf.old k hk hs)).1
/-- The loop in memory, some blocks of its own later. -/
def LPost (SQ : (Nat → Value) → (Nat → Prop) → World → σ → Prop) (B : Nat) (S : Nat → Prop) (w : World) (b : Nat) (pv : Nat → Value) (tn sq : Int) (s : PS) (x : σ) (w' : World) : Prop :=
  ∃ S' pv' vt' va' T' A', LQ SQ B S' w' b pv' vt' va' T' s A' tn sq x ∧ (∀ i, i < 3 → pv' i = pv i) ∧ Fr S w w' S'
end
end Go.Proofs.YtfmbebofllgmoaaGreatDoor
namespace Go.Proofs.YtfmbebofllgmoaaGreatDoor
open Go.RowKit

theorem pgok_of_ans {p : Pg} (h : Ans p.tn p.fn (1 + p.tn + p.fn) (allL p.sn p.tn p.tl p.fl) (allF p.tn p.sf p.tf p.ff) 0) : PgOk p := by
  rcases h with ⟨_, h⟩ | ⟨_, _, h⟩ | ⟨_, _, _, h⟩ | ⟨_, _, _, _, h⟩ | ⟨h1, h2, h3, h4, _⟩
  · omega
  · omega
  · omega
  · omega
  have L0 : allL p.sn p.tn p.tl p.fl 0 = p.sn := by simp [allL, cat]
  have L1 : ∀ i, i < p.tn → allL p.sn p.tn p.tl p.fl (1 + i) = p.tl i := fun i hi => by simp [allL, cat, hi]
  have L2 : ∀ i, allL p.sn p.tn p.tl p.fl (1 + p.tn + i) = p.fl i := fun i => by simp [allL, cat]; intro h; omega
  have F0 : allF p.tn p.sf p.tf p.ff 0 = p.sf := by simp [allF, cat]
  have F1 : ∀ i, i < p.tn → allF p.tn p.sf p.tf p.ff (1 + i) = p.tf i := fun i hi => by simp [allF, cat, hi]
  have F2 : ∀ i, allF p.tn p.sf p.tf p.ff (1 + p.tn + i) = p.ff i := fun i => by simp [allF, cat]; intro h; omega
  refine ⟨h1, h2, ?_, ?_, ?_, ?_, ?_, ?_⟩
  · have := h3 0 (by omega); rwa [L0] at this
  · intro i hi; have := h3 (1 + i) (by omega); rwa [L1 i hi] at this
  · intro i hi; have := h3 (1 + p.tn + i) (by omega); rwa [L2 i] at this
  · intro j hj; have := h4 0 j (by omega) (by rw [L0]; exact hj); rwa [F0] at this
  · intro i hi j hj; have := h4 (1 + i) j (by omega) (by rw [L1 i hi]; exact hj); rwa [F1 i hi] at this
  · intro i hi j hj; have := h4 (1 + p.tn + i) j (by omega) (by rw [L2 i]; exact hj); rwa [F2 i] at this

/-- How a run may end. -/
def FinOk (s : PS) : Prop := 0 ≤ s.fin ∧ s.fin ≤ 6
section
variable {σ : Type} {ask : σ → Int → Int → Rep × σ}
/-- A source's ends are ends. -/
def EndOk (ask : σ → Int → Int → Rep × σ) : Prop := ∀ x k o, 0 ≤ (ask x k o).1.e ∧ (ask x k o).1.e ≤ 6
theorem ckS_fin {s : PS} {R : Rep} (h : FinOk s) (hR : 0 ≤ R.e ∧ R.e ≤ 6) : FinOk (ckS s R) := by
  unfold ckS
  exact ite_ok (P := FinOk) (ite_ok (P := FinOk) ⟨by show (0 : Int) ≤ 4; omega, by show (4 : Int) ≤ 6; omega⟩ h) hR
theorem lotS_fin {s : PS} {R : Rep} (i : Nat) (h : FinOk s) (hR : 0 ≤ R.e ∧ R.e ≤ 6) : FinOk (lotS s R i) := ite_ok (P := FinOk) h hR
theorem hdS_fin {s : PS} {R : Rep} (h : FinOk s) (hR : 0 ≤ R.e ∧ R.e ≤ 6) : FinOk (hdS s R) := ite_ok (P := FinOk) h hR
theorem opM_fin (he : EndOk ask) (o : O3) (s : PS) (x : σ) (h : FinOk s) : FinOk (opM ask o s x).1 := by
  unfold opM
  have h1 := ckS_fin h (he x 1 0)
  repeat' (refine ite_ok (P := fun q : PS × σ => FinOk q.1) ?_ ?_)
  all_goals first
    | exact h
    | exact ite_ok (P := FinOk) h1 h1
    | exact lotS_fin _ h (he x 4 _)
    | exact ite_ok (P := FinOk) h h
    | exact ⟨by show (0 : Int) ≤ 1; omega, by show (1 : Int) ≤ 6; omega⟩
theorem hM_fin (he : EndOk ask) {f : Nat → O3} {n : Nat} : ∀ (k : Nat) (s : PS) (x : σ), FinOk s → FinOk (hM ask f n k s x).1
  | 0, _, _, h => h
  | k + 1, s, x, h => by
    unfold hM
    refine ite_ok (P := fun q : PS × σ => FinOk q.1) (ite_ok (P := fun q : PS × σ => FinOk q.1) ⟨by show (0 : Int) ≤ 3; omega, by show (3 : Int) ≤ 6; omega⟩ ?_) h
    exact hM_fin he k _ _ (opM_fin he _ _ _ h)
theorem frM_fin (he : EndOk ask) (p : Pg) : ∀ (l : List TM) (s : PS) (x : σ), FinOk s → FinOk (frM (gT ask p) l s x).1
  | [], _, _, h => h
  | t :: r, s, x, h => by
    unfold frM
    refine ite_ok (P := fun q : PS × σ => FinOk q.1) h (ite_ok (P := fun q : PS × σ => FinOk q.1) ?_ (frM_fin he p r s x h))
    exact frM_fin he p r _ _ (hM_fin he _ _ _ h)
theorem pk_fin (he : EndOk ask) (n : Nat) (s : PS) (x : σ) (h : FinOk s) : FinOk (pk ask n s x).2.2.1 := by
  unfold pk
  exact ite_ok (P := fun q : Int × Bool × PS × σ => FinOk q.2.2.1) h (hdS_fin h (he x 3 n))
theorem wk1_fin (he : EndOk ask) (p : Pg) (z : Int) (s : PS) (x : σ) (h : FinOk s) : FinOk (wk1 (gF ask p) z s x).1 := by
  unfold wk1
  exact ite_ok (P := fun q : PS × σ => FinOk q.1) (hM_fin he _ _ _ h) h
theorem wkM_fin (he : EndOk ask) (p : Pg) : ∀ (k : Nat) (l : List Int) (s : PS) (x : σ), FinOk s → FinOk (wkM ask (gF ask p) k l s x).1
  | 0, _, _, _, h => h
  | k + 1, l, s, x, h => by
    have h1 := pk_fin he l.length s x h
    unfold wkM
    refine ite_ok (P := fun q : PS × σ => FinOk q.1) h (ite_ok (P := fun q : PS × σ => FinOk q.1) ?_ h1)
    exact wkM_fin he p k _ _ _ (wk1_fin he p _ _ _ h1)
theorem wakeM_fin (he : EndOk ask) (p : Pg) (s : PS) (x : σ) (h : FinOk s) : FinOk (wakeM ask p s x).1 := by
  unfold wakeM
  exact ite_ok (P := fun q : PS × σ => FinOk q.1) (wkM_fin he p _ _ _ _ h) (he x 2 0)
theorem turnM_fin (he : EndOk ask) (p : Pg) (s : PS) (x : σ) (h : FinOk s) : FinOk (turnM ask p s x).1 := by
  unfold turnM
  have h1 := ckS_fin h (he x 1 0)
  have h2 := frM_fin he p (dueS (ckS s (ask x 1 0).1)) _ (ask x 1 0).2 h1
  exact ite_ok (P := fun q : PS × σ => FinOk q.1) ⟨by show (0 : Int) ≤ 2; omega, by show (2 : Int) ≤ 6; omega⟩ (ite_ok (P := fun q : PS × σ => FinOk q.1) (ite_ok (P := fun q : PS × σ => FinOk q.1) (wakeM_fin he p _ _ h2) h2) h1)
theorem turnsM_fin (he : EndOk ask) (p : Pg) : ∀ (k : Nat) (s : PS) (x : σ), FinOk s → FinOk (turnsM ask p k s x).1
  | 0, _, _, h => h
  | k + 1, s, x, h => by
    unfold turnsM
    exact ite_ok (P := fun q : PS × σ => FinOk q.1) (turnsM_fin he p k _ _ (turnM_fin he p s x h)) h
theorem runM_fin (he : EndOk ask) (p : Pg) (k : Nat) (f : Int) (x : σ) : FinOk (runM ask p k f x).1 := by
  unfold runM
  exact turnsM_fin he p k _ _ (hM_fin he _ _ _ ⟨by show (0 : Int) ≤ 0; omega, by show (0 : Int) ≤ 6; omega⟩)
end
theorem recAsk_end : EndOk recAsk := by
  intro x k o
  unfold recAsk
  split
  · split <;> simp [noRep]
  · split
    · split <;> simp [noRep]
    · split
      · split <;> simp [noRep]
      · split <;> simp [noRep]
end Go.Proofs.YtfmbebofllgmoaaGreatDoor
namespace Go.Proofs.YtfmbebofllgmoaaGreatDoor
open Go.RowKit

theorem six (h : Array Obj) (a b c d e f : Obj) : ((((((h.push a).push b).push c).push d).push e).push f)[h.size + 1]? = some b ∧ ((((((h.push a).push b).push c).push d).push e).push f)[h.size + 2]? = some c ∧ ((((((h.push a).push b).push c).push d).push e).push f)[h.size + 3]? = some d ∧
    ((((((h.push a).push b).push c).push d).push e).push f)[h.size + 4]? = some e ∧ ((((((h.push a).push b).push c).push d).push e).push f)[h.size + 5]? = some f := by
  refine ⟨?_, ?_, ?_, ?_, ?_⟩
  · rw [Array.getElem?_push, if_neg (by simp), Array.getElem?_push, if_neg (by simp), Array.getElem?_push, if_neg (by simp), Array.getElem?_push, if_neg (by simp), Array.getElem?_push, if_pos (by simp)]
  · rw [Array.getElem?_push, if_neg (by simp), Array.getElem?_push, if_neg (by simp), Array.getElem?_push, if_neg (by simp), Array.getElem?_push, if_pos (by simp)]
  · rw [Array.getElem?_push, if_neg (by simp), Array.getElem?_push, if_neg (by simp), Array.getElem?_push, if_pos (by simp)]
  · rw [Array.getElem?_push, if_neg (by simp), Array.getElem?_push, if_pos (by simp)]
  · rw [Array.getElem?_push, if_pos (by simp)]

theorem newW_facts (w : World) (v0 v1 v2 v3 : Value) (l0 l1 l2 l3 : List Value) : (newW w v0 v1 v2 v3 l0 l1 l2 l3).heap.size = w.heap.size + 6 ∧ Fr (fun _ => False) w (newW w v0 v1 v2 v3 l0 l1 l2 l3) (fun _ => False) ∧
    (newW w v0 v1 v2 v3 l0 l1 l2 l3).heap[w.heap.size + 1]? = some (chanO l0) ∧ (newW w v0 v1 v2 v3 l0 l1 l2 l3).heap[w.heap.size + 2]? = some (chanO l1) ∧ (newW w v0 v1 v2 v3 l0 l1 l2 l3).heap[w.heap.size + 3]? = some (chanO l2) ∧ (newW w v0 v1 v2 v3 l0 l1 l2 l3).heap[w.heap.size + 4]? = some (chanO l3) ∧
    (newW w v0 v1 v2 v3 l0 l1 l2 l3).heap[w.heap.size + 5]? = some (.cells #[.chan (some (w.heap.size + 1)), .chan (some (w.heap.size + 2)), .chan (some (w.heap.size + 3)), .chan (some (w.heap.size + 4))] 147) := by
  have e : (newW w v0 v1 v2 v3 l0 l1 l2 l3).heap = (((((w.heap.push (.cells #[v0, v1, v2, v3] 29)).push (chanO l0)).push (chanO l1)).push (chanO l2)).push (chanO l3)).push (.cells #[.chan (some (w.heap.size + 1)), .chan (some (w.heap.size + 2)), .chan (some (w.heap.size + 3)), .chan (some (w.heap.size + 4))] 147) := rfl
  refine ⟨by rw [e]; simp, (((((((Fr.refl _ w).alloc _).drew).alloc _).alloc _).alloc _).alloc _).alloc _, ?_⟩
  rw [e]
  exact six w.heap _ _ _ _ _ _

/-- The blocks of a recorder that was made behind n blocks; the lists that it was lent. -/
def recT (n : Nat) (L : Nat → Prop) (q : Nat) : Prop := (n + 1 ≤ q ∧ q ≤ n + 8) ∨ L q

theorem rec_start {w w2 : World} {v0 v1 v2 v3 v : Value} {lc lp ll : List Int} {bs : List (Value × List Int)} {L : Nat → Prop}
    (hL : ∀ q, L q → q < w.heap.size) (hbs : ∀ p, p ∈ bs → IntsIn w p.1 p.2 L ∧ p.2.length ≤ 100000000) (hroom : lc.length + bs.length + lp.length + ll.length ≤ 17000000)
    {W1 : World} (hW1 : W1 = newW w v0 v1 v2 v3 (lc.map (.int .i64)) (bs.map (·.1)) (lp.map (.int .i64)) (ll.map (.int .i64)))
    (hlog : LogAt w2 (W1.heap.size + 1) W1.heap.size v headS) (hf : Fr (fun _ => False) W1 w2 (fun _ => False)) (hv : ∀ k, own v k → k = W1.heap.size) (hz : w2.heap.size = W1.heap.size + 2) :
    RecA (w.heap.size + 8) L (fun q => w.heap[q]?) (recT w.heap.size L) (w2.alloc (.cells #[.pointer (some ⟨w.heap.size + 5, 0, none⟩), .pointer (some ⟨w.heap.size + 7, 0, none⟩)] 95)) ⟨lc, bs, lp, ll, headS⟩ ∧
      Fr (fun _ => False) w (w2.alloc (.cells #[.pointer (some ⟨w.heap.size + 5, 0, none⟩), .pointer (some ⟨w.heap.size + 7, 0, none⟩)] 95)) (fun _ => False) ∧
      (w2.alloc (.cells #[.pointer (some ⟨w.heap.size + 5, 0, none⟩), .pointer (some ⟨w.heap.size + 7, 0, none⟩)] 95)).heap.size = w.heap.size + 9 ∧ w2.heap.size = w.heap.size + 8 := by
  obtain ⟨f0, f1, f2, f3, f4, f5, f6⟩ := newW_facts w v0 v1 v2 v3 (lc.map (.int .i64)) (bs.map (·.1)) (lp.map (.int .i64)) (ll.map (.int .i64))
  rw [← hW1] at f0 f1 f2 f3 f4 f5 f6
  rw [f0] at hlog hv hz
  have hz3 : (w2.alloc (.cells #[.pointer (some ⟨w.heap.size + 5, 0, none⟩), .pointer (some ⟨w.heap.size + 7, 0, none⟩)] 95)).heap.size = w.heap.size + 9 := by simp; omega
  have same : ∀ q, q < w.heap.size + 6 → (w2.alloc (.cells #[.pointer (some ⟨w.heap.size + 5, 0, none⟩), .pointer (some ⟨w.heap.size + 7, 0, none⟩)] 95)).heap[q]? = W1.heap[q]? := fun q hq => (Below.heap_alloc _ _ _ (by omega)).trans (hf.same q (by omega) (fun h => h))
  have same2 : ∀ q, q < w2.heap.size → (w2.alloc (.cells #[.pointer (some ⟨w.heap.size + 5, 0, none⟩), .pointer (some ⟨w.heap.size + 7, 0, none⟩)] 95)).heap[q]? = w2.heap[q]? := fun q hq => Below.heap_alloc _ _ _ hq
  have hnew := heap_alloc_new w2 (.cells #[.pointer (some ⟨w.heap.size + 5, 0, none⟩), .pointer (some ⟨w.heap.size + 7, 0, none⟩)] 95)
  rw [show w2.heap.size = w.heap.size + 8 by omega] at hnew
  have hfr : Fr (fun _ => False) w (w2.alloc (.cells #[.pointer (some ⟨w.heap.size + 5, 0, none⟩), .pointer (some ⟨w.heap.size + 7, 0, none⟩)] 95)) (fun _ => False) := (f1.trans hf).alloc _
  have hsrc := (same (w.heap.size + 5) (by omega)).trans f6
  refine ⟨⟨w.heap.size + 5, w.heap.size + 7, w.heap.size + 1, w.heap.size + 2, w.heap.size + 3, w.heap.size + 4, w.heap.size + 6, v, ?_⟩, hfr, hz3, by omega⟩
  refine ⟨cell_of_row _ _ 0 _ 95 (0, 0) hnew, cell_of_row _ _ 1 _ 95 (0, 0) hnew, cell_of_row _ _ 0 _ 147 (0, 0) hsrc, cell_of_row _ _ 1 _ 147 (0, 0) hsrc, cell_of_row _ _ 2 _ 147 (0, 0) hsrc, cell_of_row _ _ 3 _ 147 (0, 0) hsrc,
    ⟨_, _, _, (same _ (by omega)).trans f2⟩, ⟨_, _, _, (same _ (by omega)).trans f3⟩, ⟨_, _, _, (same _ (by omega)).trans f4⟩, ⟨_, _, _, (same _ (by omega)).trans f5⟩, ?_, by omega, ?_, ?_, ?_, ?_, ?_, ?_, ?_⟩
  · refine hlog.block (fun q hq => same2 q ?_) (by rw [hz3]; omega)
    rcases hq with rfl | hq
    · omega
    · have := hv q hq; omega
  · simp
  · intro q hq
    have hq' : q = w.heap.size + 8 ∨ q = w.heap.size + 5 ∨ q = w.heap.size + 7 ∨ q = w.heap.size + 1 ∨ q = w.heap.size + 2 ∨ q = w.heap.size + 3 ∨ q = w.heap.size + 4 := by simpa using hq
    refine ⟨.inl (by omega), fun h => by have := hL q h; omega, fun h => by have := hv q h; omega⟩
  · intro q hq
    have := hv q hq
    exact ⟨.inl (by omega), fun h => by have := hL q h; omega⟩
  · exact fun q hq => .inr hq
  · exact fun q hq => hfr.same q (hL q hq) (fun h => h)
  · exact fun p hp => ⟨(hbs p hp).1.block (fun q hq => hfr.same q (hL q hq) (fun h => h)), (hbs p hp).2⟩
  · have hs3 : headS.size = 3 := rfl
    show headS.size + 40 * (lc.length + bs.length + lp.length + ll.length) ≤ 700000000
    omega
end Go.Proofs.YtfmbebofllgmoaaGreatDoor
namespace Go.Proofs.YtfmbebofllgmoaaGreatDoor
open Go.RowKit
attribute [local go_sem ↓] Go.wp_at_zero Go.wp_at_succ

/-- What a run by a world ends with. -/
def recM (p : Pg) (f : Int) (lc : List Int) (bs : List (Value × List Int)) (lp ll : List Int) : PS × RS := runM recAsk p (lc.length + 1) f ⟨lc, bs, lp, ll, headS⟩
/-- The log of a run. -/
def recLog (r : PS × RS) : ByteArray := r.2.log ++ frameS (bodyS 5 0 r.1.fin.toNat)
def finV (s : PS) : Value := .agg #[.int .i64 s.fin, .int .i64 (s.reg 0), .int .i64 (s.reg 1), .int .i64 (s.reg 2), .int .i64 (s.reg 3), .int .i64 s.clock, .int .i64 s.heard]
/-- Record's answer. -/
def RecPost (w : World) (p : Pg) (f : Int) (lc : List Int) (bs : List (Value × List Int)) (lp ll : List Int) (e : Ending) (w' : World) : Prop :=
  Fr (fun _ => False) w w' (fun _ => False) ∧ ∃ x, Ans p.tn p.fn (1 + p.tn + p.fn) (allL p.sn p.tn p.tl p.fl) (allF p.tn p.sf p.tf p.ff) x ∧
    ((x ≠ 0 ∧ e = .returned (.tuple #[.string ⟨#[]⟩, .slice none 0 0, .agg #[.int .i64 0, .int .i64 0, .int .i64 0, .int .i64 0, .int .i64 0, .int .i64 0, .int .i64 0], .int .i64 x])) ∨
     (x = 0 ∧ ∃ vt, e = .returned (.tuple #[.string (recLog (recM p f lc bs lp ll)), vt, finV (recM p f lc bs lp ll).1, .int .i64 0]) ∧ w'.ownsRow w.heap.size 72 3 vt (recM p f lc bs lp ll).1.trace.length (flatE (recM p f lc bs lp ll).1.trace)))

theorem Fr.of_below {w w' : World} (h : Below w.heap.size w w') : Fr (fun _ => False) w w' (fun _ => False) := ⟨h.os, h.tape, h.output, h.size, fun k hk _ => h.block k hk, fun _ _ h => h⟩

/-- Seven cells are written over. -/
theorem out7 {W : World} {g : Nat} {a0 a1 a2 a3 a4 a5 a6 : Value} (h : W.heap[g]? = some (.cells #[a0, a1, a2, a3, a4, a5, a6] 37)) (x0 x1 x2 x3 x4 x5 x6 : Value) :
    (((((((W.setCell ⟨g, 0, none⟩ x0).setCell ⟨g, 1, none⟩ x1).setCell ⟨g, 2, none⟩ x2).setCell ⟨g, 3, none⟩ x3).setCell ⟨g, 4, none⟩ x4).setCell ⟨g, 5, none⟩ x5).setCell ⟨g, 6, none⟩ x6).heap[g]? = some (.cells #[x0, x1, x2, x3, x4, x5, x6] 37) := by
  have st : ∀ (V : World) (c : Array Value) (i : Nat) (x : Value), V.heap[g]? = some (.cells c 37) → (V.setCell ⟨g, i, none⟩ x).heap[g]? = some (.cells (c.setIfInBounds i x) 37) := by
    intro V c i x hV
    have h0 := setRow_heap V g c (c.setIfInBounds i x) 37 (0, 0) hV
    rw [← setCell_eq_setRow V g i c 37 (0, 0) x hV] at h0
    exact h0
  have h7 := st _ _ 6 x6 (st _ _ 5 x5 (st _ _ 4 x4 (st _ _ 3 x3 (st _ _ 2 x2 (st _ _ 1 x1 (st _ _ 0 x0 h))))))
  simp only [List.setIfInBounds_toArray, List.set] at h7
  exact h7
theorem out7_fr {S S' : Nat → Prop} {w W : World} (h : Fr S w W S') {g : Nat} (hg : S g ∨ w.heap.size ≤ g) (x0 x1 x2 x3 x4 x5 x6 : Value) :
    Fr S w (((((((W.setCell ⟨g, 0, none⟩ x0).setCell ⟨g, 1, none⟩ x1).setCell ⟨g, 2, none⟩ x2).setCell ⟨g, 3, none⟩ x3).setCell ⟨g, 4, none⟩ x4).setCell ⟨g, 5, none⟩ x5).setCell ⟨g, 6, none⟩ x6) S' :=
  ((((((h.setCell _ _ hg).setCell _ _ hg).setCell _ _ hg).setCell _ _ hg).setCell _ _ hg).setCell _ _ hg).setCell _ _ hg
theorem three (h : Array Obj) (a b c : Obj) : (((h.push a).push b).push c)[h.size]? = some a ∧ (((h.push a).push b).push c)[h.size + 1]? = some b ∧ (((h.push a).push b).push c)[h.size + 2]? = some c := by
  refine ⟨?_, ?_, ?_⟩
  · rw [Array.getElem?_push, if_neg (by simp; omega), Array.getElem?_push, if_neg (by simp), Array.getElem?_push, if_pos (by simp)]
  · rw [Array.getElem?_push, if_neg (by simp), Array.getElem?_push, if_pos (by simp)]
  · rw [Array.getElem?_push, if_pos (by simp)]

theorem ns' {n1 k : Nat} {L : Nat → Prop} (hl : ¬ L k) (h : recT n1 L k) (hk : k < n1) : False := h.elim (fun h => by omega) hl
/-- What is left of memory. -/
theorem rec_end {n1 rb sb lb c0 c1 c2 c3 B B' b : Nat} {v' v6 vt : Value} {pv : Nat → Value} {L S' T' : Nat → Prop} {w w1 w3 w4 w6 : World} {s' : PS} {x' : RS} {o : Obj}
    (hri : RI (RecA rb L (fun q => w1.heap[q]?)) B S' w4 b pv vt T' s' x') (hrc : RecAt rb sb lb c0 c1 c2 c3 B' v' L (fun q => w1.heap[q]?) T' w4 x') (hfr : Fr (recT n1 L) w3 w4 S') (hn1 : w.heap.size + 3 ≤ n1)
    (f1 : Fr (fun _ => False) w w1 (fun _ => False)) (f3 : Fr (fun _ => False) w1 w3 (fun _ => False)) (hz3 : n1 ≤ w3.heap.size) (f6 : Fr (lgS lb v') ((w4.alloc o).drew) w6 (lgS lb v6)) :
    Fr (fun _ => False) w w6 (fun _ => False) ∧ w6.ownsRow w.heap.size 72 3 vt s'.trace.length (flatE s'.trace) ∧ (∀ q, own vt q → q ≠ w.heap.size + 1 + 1) := by
  have hlgT : ∀ q, lgS lb v' q → T' q ∧ ¬ L q := fun q h => h.elim (fun h => by rw [h]; exact ⟨(hrc.inT lb (by simp)).1, (hrc.inT lb (by simp)).2.1⟩) (fun h => hrc.vT q h)
  have hS : ∀ q, q < n1 → S' q → L q := fun q h1 h2 => (hfr.old q (by omega) h2).elim (fun h => by omega) id
  have h46 : Fr (lgS lb v') w4 w6 (lgS lb v6) := Fr.unalloc (o := o) ⟨f6.os, f6.tape, f6.output, f6.size, f6.same, f6.old⟩
  have f13 := f1.trans f3
  have hvt : ∀ q, own vt q → w.heap.size ≤ q ∧ q ≠ w.heap.size + 1 + 1 ∧ ¬ lgS lb v' q ∧ q < w4.heap.size := by
    intro q hq
    obtain ⟨h1, _, h3⟩ := hri.inV q hq
    have hnl : ¬ L q := fun h => h3 (hrc.lT q h)
    have hge : n1 ≤ q := by
      rcases Nat.lt_or_ge q n1 with h | h
      · exact absurd (hS q h h1) hnl
      · exact h
    exact ⟨by omega, by omega, fun h => h3 (hlgT q h).1, (hri.bound q h1).2⟩
  refine ⟨⟨h46.os.trans (hfr.os.trans f13.os), h46.tape.trans (hfr.tape.trans f13.tape), h46.output.trans (hfr.output.trans f13.output), Nat.le_trans f13.size (Nat.le_trans hfr.size h46.size), ?_, fun _ _ h => h⟩, ?_, fun q hq => (hvt q hq).2.1⟩
  · intro k hk _
    have hk3 : k < w3.heap.size := Nat.lt_of_lt_of_le hk f13.size
    have hk4 : k < w4.heap.size := Nat.lt_of_lt_of_le hk3 hfr.size
    by_cases hl : L k
    · exact (h46.same k hk4 (fun h => (hlgT k h).2 hl)).trans ((hrc.lent k hl).trans (f1.same k hk (fun h => h)))
    · have ns : ¬ S' k := fun h => hl (hS k (by omega) h)
      exact (h46.same k hk4 (fun h => ns (hri.inT k (hlgT k h).1).1)).trans ((hfr.same k hk3 (fun h => ns' hl h (by omega))).trans (f13.same k hk (fun h => h)))
  · have h5 := ownsRow_of_block (w' := w6) hri.row (fun q hq => h46.same q (hvt q hq).2.2.2 (hvt q hq).2.2.1)
    refine ⟨h5.1, ?_⟩
    rcases h5.2 with h | ⟨g, cap, cur, e1, e2, r⟩
    · exact .inl h
    · exact .inr ⟨g, cap, cur, e1, (hvt g (by rw [e1]; rfl)).1, r⟩

set_option maxHeartbeats 4000000 in
set_option maxRecDepth 100000 in
theorem record_any {w w0 : World} (hbel : Below w0.heap.size w0 w) (htab : TabIn w) {p1 p2 p3 : Value} {p : Pg} (hv : PgAt w0 (pvOf p1 p2 p3 undef) p) (f : Int)
    {v0 v1 v2 v3 : Value} {lc lp ll : List Int} {bs : List (Value × List Int)} {L P : Nat → Prop} (hP : ∀ q, P q → q < w.heap.size) (hL : ∀ q, L q → w0.heap.size ≤ q ∧ q < w.heap.size)
    (h0 : IntsIn w v0 lc P) (h1 : ValsIn w v1 (bs.map (·.1)) P) (h2 : IntsIn w v2 lp P) (h3 : IntsIn w v3 ll P) (hbs : ∀ b, b ∈ bs → IntsIn w b.1 b.2 L ∧ b.2.length ≤ 100000000)
    (n0 : lc.length ≤ 4000000) (n1 : bs.length ≤ 4000000) (n2 : lp.length ≤ 4000000) (n3 : ll.length ≤ 4000000) :
    Calls Tryz.prog 22 #[.agg #[p1, p2, p3], .agg #[v0, v1, v2, v3], .int .i64 f] w (RecPost w p f lc bs lp ll) := by
  have hB3 : Below w.heap.size w (((w.alloc (.cells #[p1, p2, p3] 33)).alloc (.cells #[v0, v1, v2, v3] 29)).alloc (.cells #[.int .i64 0, .int .i64 0, .int .i64 0, .int .i64 0, .int .i64 0, .int .i64 0, .int .i64 0] 37)) := bl3 _ _ _
  have hw0 : w0.heap.size ≤ w.heap.size := hbel.size
  have hck := pcheck_any p1 p2 p3 p.sn p.tn p.fn p.sf p.tl p.fl p.tf p.ff _ (tabIn_below hB3 (tabIn_lt htab) htab) (opsIn_below hB3 (opsIn_below hbel hv.s)) (handsIn_below hB3 (handsIn_below hbel hv.t)) (handsIn_below hB3 (handsIn_below hbel hv.f))
  have HCK := hide hck
  clear hck
  generalize hR : RecPost w p f lc bs lp ll = R
  have HR := hide hR
  clear hR
  go_enter Tryz.func22, Tryz.ntmps22
  go_wp2_with fail
  go_at_call 27
  refine (unhide HCK).mono ?_
  rintro e w1 ⟨x, rfl, hx, hb1⟩
  obtain ⟨t0, t1, t2⟩ := three w.heap (.cells #[p1, p2, p3] 33) (.cells #[v0, v1, v2, v3] 29) (.cells #[.int .i64 0, .int .i64 0, .int .i64 0, .int .i64 0, .int .i64 0, .int .i64 0, .int .i64 0] 37)
  have hsz3 : (((w.alloc (.cells #[p1, p2, p3] 33)).alloc (.cells #[v0, v1, v2, v3] 29)).alloc (.cells #[.int .i64 0, .int .i64 0, .int .i64 0, .int .i64 0, .int .i64 0, .int .i64 0, .int .i64 0] 37)).heap.size = w.heap.size + 3 := by simp
  have b34 := (hb1.block w.heap.size (by omega)).trans t0
  have b38 := (hb1.block (w.heap.size + 1) (by omega)).trans t1
  have b76 := (hb1.block (w.heap.size + 2) (by omega)).trans t2
  have hz1 : w.heap.size + 3 ≤ w1.heap.size := by rw [← hsz3]; exact hb1.size
  have hf1 : Fr (fun _ => False) w w1 (fun _ => False) := (Fr.of_below hB3).trans (Fr.of_below hb1)
  have c34 := fun j => cell_of_row w1 w.heap.size j _ 33 (0, 0) b34
  have c38 := fun j => cell_of_row w1 (w.heap.size + 1) j _ 29 (0, 0) b38
  have c76 := fun j => cell_of_row w1 (w.heap.size + 2) j _ 37 (0, 0) b76
  have z76 := fun j => frozen_rowE b76 j
  have B34 := hide b34
  have B76 := hide b76
  have HX := hide hx
  have HF1 := hide hf1
  clear t0 t1 t2 hsz3 b34 b38 b76 hb1 hx hf1 HCK hB3
  by_cases hx0 : x = 0
  · subst hx0
    have ho := pgok_of_ans (unhide HX)
    have hf1 := unhide HF1
    have pr : ∀ q, P q → w1.heap[q]? = w.heap[q]? := fun q hq => hf1.same q (hP q hq) (fun h => h)
    have h48 := new_any (w := w1) (P := P) (fun q hq => by have := hP q hq; omega) (h0.vals.block pr) (h1.block pr) (h2.vals.block pr) (h3.vals.block pr) (by simpa using Nat.le_trans n0 (by omega)) (by simpa using Nat.le_trans n1 (by omega)) (by simpa using Nat.le_trans n2 (by omega)) (by simpa using Nat.le_trans n3 (by omega))
    have H48 := hide h48
    have HO := hide ho
    clear h48 pr hf1 ho
    go_wp2_with fail
    go_at_call 36
    refine (unhide H48).mono ?_
    rintro e W1 ⟨rfl, hW1⟩
    obtain ⟨f0, fW, _⟩ := newW_facts w1 v0 v1 v2 v3 (lc.map (.int .i64)) (bs.map (·.1)) (lp.map (.int .i64)) (ll.map (.int .i64))
    rw [← hW1] at f0 fW
    have h49 : Calls Tryz.prog 37 #[] W1 fun e w' => ∃ v, e = .returned (.pointer (some ⟨w1.heap.size + 7, 0, none⟩)) ∧ LogAt w' (W1.heap.size + 1) W1.heap.size v headS ∧ Fr (fun _ => False) W1 w' (fun _ => False) ∧ (∀ k, own v k → k = W1.heap.size) ∧ w'.heap.size = W1.heap.size + 2 := by
      refine (newWriter_any W1).mono ?_
      rintro e w' ⟨v, rfl, r⟩
      exact ⟨v, by rw [f0], r⟩
    have HW1 := hide hW1
    have F0 := hide f0
    have FW := hide fW
    have H49 := hide h49
    clear hW1 f0 fW h49 H48
    go_wp2_with fail
    go_at_call 37
    refine (unhide H49).mono ?_
    rintro e w2 ⟨v, rfl, lg, fr2, hown, hz2⟩
    have hL1 : ∀ q, L q → q < w1.heap.size := fun q hq => by have := hL q hq; omega
    have hsame1 : ∀ q, q < w.heap.size → w1.heap[q]? = w.heap[q]? := fun q hq => (unhide HF1).same q hq (fun h => h)
    obtain ⟨hrec, hf3, hz3, hz2'⟩ := rec_start (w := w1) (L := L) hL1 (fun b hb => ⟨(hbs b hb).1.block (fun q hq => hsame1 q (hL q hq).2), (hbs b hb).2⟩) (by omega) (unhide HW1) lg fr2 hown hz2
    have hf2 : Fr (fun _ => False) w1 w2 (fun _ => False) := (unhide FW).trans fr2
    have d34 := fun j => cell_of_row w2 w.heap.size j _ 33 (0, 0) ((hf2.same _ (by omega) (fun h => h)).trans (unhide B34))
    have e34 := fun j => cell_of_row (w2.alloc (.cells #[.pointer (some ⟨w1.heap.size + 5, 0, none⟩), .pointer (some ⟨w1.heap.size + 7, 0, none⟩)] 95)) w.heap.size j _ 33 (0, 0) ((hf3.same _ (by omega) (fun h => h)).trans (unhide B34))
    have hne1 : w.heap.size ≠ w2.heap.size := by omega
    have hne1' : ¬ w2.heap.size = w.heap.size := by omega
    have hbel3 : Below w0.heap.size w0 (w2.alloc (.cells #[.pointer (some ⟨w1.heap.size + 5, 0, none⟩), .pointer (some ⟨w1.heap.size + 7, 0, none⟩)] 95)) := hbel.trans (((unhide HF1).trans hf3).below (B := w0.heap.size) (fun k hk => hk.elim) hw0)
    have h50 := run_any (recA_law (w1.heap.size + 8) L (fun q => w1.heap[q]?)) (recA_hear (w1.heap.size + 8) L (fun q => w1.heap[q]?)) mayR_ok recAsk_ok (w0 := w0) (B := w0.heap.size) (T := recT w1.heap.size L) rfl hbel3 (fun k hk => by
      rw [hz3]
      rcases hk with hk | hk
      · omega
      · have := hL k hk; omega) hrec p1 p2 p3 (p := p) ⟨hv.s, hv.t, hv.f⟩ (unhide HO) f (by show lc.length ≤ 5000000; omega)
    have H50 := hide h50
    have HB76 := hide ((hf3.same (w.heap.size + 2) (by omega) (fun h => h)).trans (unhide B76))
    have HF3 := hide hf3
    have HZ3 := hide hz3
    have HZ2 := hide hz2'
    clear lg fr2 hown hz2 H49 hf2 hrec hf3 hz3 h50 hbel3 hz2'
    rw [← unhide HZ2] at H50
    go_wp2_with fail
    go_at_call 29
    refine (unhide H50).mono ?_
    rintro e w4 ⟨vt, s', S', T', b, rfl, hs, hri, hfr⟩
    change s' = (recM p f lc bs lp ll).1 at hs
    change RI _ _ S' w4 b _ vt T' s' (recM p f lc bs lp ll).2 at hri
    have hfin := runM_fin recAsk_end p (lc.length + 1) f ⟨lc, bs, lp, ll, headS⟩
    change FinOk (recM p f lc bs lp ll).1 at hfin
    rw [← hs] at hfin
    have hpost : RecPost w p f lc bs lp ll = fun e w' => Fr (fun _ => False) w w' (fun _ => False) ∧ ∃ x, Ans p.tn p.fn (1 + p.tn + p.fn) (allL p.sn p.tn p.tl p.fl) (allF p.tn p.sf p.tf p.ff) x ∧
        ((x ≠ 0 ∧ e = .returned (.tuple #[.string ⟨#[]⟩, .slice none 0 0, .agg #[.int .i64 0, .int .i64 0, .int .i64 0, .int .i64 0, .int .i64 0, .int .i64 0, .int .i64 0], .int .i64 x])) ∨
        (x = 0 ∧ ∃ vt, e = .returned (.tuple #[.string (recLog (recM p f lc bs lp ll)), vt, finV s', .int .i64 0]) ∧ w'.ownsRow w.heap.size 72 3 vt s'.trace.length (flatE s'.trace))) := by
      rw [hs]; rfl
    rw [show recLog (recM p f lc bs lp ll) = (recM p f lc bs lp ll).2.log ++ frameS (bodyS 5 0 s'.fin.toNat) by rw [hs]; rfl] at hpost
    rw [hpost] at HR
    clear hpost hs
    generalize (recM p f lc bs lp ll).2 = x' at *
    obtain ⟨sb, lb, c0, c1, c2, c3, B', v', hrc⟩ := hri.src
    have hz4 : w2.heap.size < w4.heap.size := Nat.lt_of_lt_of_le (by simp) hfr.size
    have hTn : ∀ q, q < w1.heap.size + 1 → recT w1.heap.size L q → L q := fun q h1 h2 => h2.elim (fun h => by omega) id
    have hS2 : ∀ q, q < w1.heap.size + 1 → S' q → L q := fun q h1 h2 => hTn q h1 (hfr.old q (by rw [unhide HZ3]; omega) h2)
    have hn2 : ¬ S' (w.heap.size + 1 + 1) := fun h => by have := hL _ (hS2 _ (by omega) h); omega
    have hlgT : ∀ q, lgS lb v' q → T' q ∧ ¬ L q := fun q h => h.elim (fun h => by rw [h]; exact ⟨(hrc.inT lb (by simp)).1, (hrc.inT lb (by simp)).2.1⟩) (fun h => hrc.vT q h)
    have b76 : w4.heap[w.heap.size + 1 + 1]? = some (.cells #[.int .i64 0, .int .i64 0, .int .i64 0, .int .i64 0, .int .i64 0, .int .i64 0, .int .i64 0] 37) :=
      (hfr.same _ (by rw [unhide HZ3]; omega) (fun h => by have := hL _ (hTn _ (by omega) h); omega)).trans (unhide HB76)
    have hend := wend_any (w := (w4.alloc (.cells #[.int .i64 s'.fin, .int .i64 (s'.reg 0), .int .i64 (s'.reg 1), .int .i64 (s'.reg 2), .int .i64 (s'.reg 3), .int .i64 s'.clock, .int .i64 s'.heard] 37)).drew) (lb := lb) (B := B') (v := v') (b := x'.log)
      (hrc.log.block (fun q hq => Below.heap_alloc _ _ _ (by
        rcases hq with rfl | hq
        · exact hrc.log.lt
        · exact (hrc.log.row.bump q hq).2)) (by show w4.heap.size ≤ (w4.alloc _).heap.size; simp))
      (by show B' ≤ (w4.alloc _).heap.size; have := hrc.low; simp; omega) s'.fin.toNat (by have := hfin.2; omega) (by have := hrc.room; omega)
    have hfn : (s'.fin.toNat : Int) = s'.fin := by have := hfin.1; omega
    rw [hfn] at hend
    have r1 : w4.cell? ⟨w2.heap.size, 1, none⟩ = some (.pointer (some ⟨lb, 0, none⟩)) := hrc.r1
    have hne4 : w2.heap.size ≠ w4.heap.size := by omega
    have hne4' : ¬ w4.heap.size = w2.heap.size := by omega
    have hz76 : w.heap.size + 1 + 1 < w4.heap.size := (Array.getElem?_eq_some_iff.1 b76).1
    have hne5 : w.heap.size + 1 + 1 ≠ w4.heap.size := by omega
    have nl : ¬ lgS lb v' (w.heap.size + 1 + 1) := fun h => hn2 (hri.inT _ (hlgT _ h).1).1
    have nb : ¬ lgS lb v' w4.heap.size := fun h => by have := (hri.bound _ (hri.inT _ (hlgT _ h).1).1).2; omega
    have HEND := hide hend
    have HRI := hide hri
    have HFR := hide hfr
    have HRC := hide hrc
    have HB := hide b76
    have NL := hide nl
    have NB := hide nb
    clear hend hri hfr hrc b76 nl nb H50
    have hv4 := fun j => cell_of_row (w4.alloc (.cells #[.int .i64 s'.fin, .int .i64 (s'.reg 0), .int .i64 (s'.reg 1), .int .i64 (s'.reg 2), .int .i64 (s'.reg 3), .int .i64 s'.clock, .int .i64 s'.heard] 37)) w4.heap.size j _ 37 (0, 0) (heap_alloc_new _ _)
    go_wp2_with fail
    go_region_with (go_at_call 38; refine (unhide HEND).mono ?_; rintro e w6 ⟨v6, rfl, l6, f6⟩; have q1 := (f6.same (w.heap.size + 1 + 1) (by show _ < (w4.alloc _).heap.size; simp; omega) (unhide NL)).trans ((Below.heap_alloc _ _ _ hz76).trans (unhide HB)); have q2 := (f6.same w4.heap.size (by show _ < (w4.alloc _).heap.size; simp) (unhide NB)).trans (heap_alloc_new w4 _); have u1 := fun j => cell_of_row w6 _ j _ 37 (0, 0) q1; have u2 := fun j => cell_of_row w6 _ j _ 37 (0, 0) q2; have uf := fun j => frozen_rowE q1 j; have F6 := hide f6; have Q1 := hide q1; clear l6 f6 q1 q2)
    all_goals
      go_wp2
      obtain ⟨g1, g2, g3⟩ := rec_end (unhide HRI) (unhide HRC) (unhide HFR) hz1 (unhide HF1) (unhide HF3) (by rw [unhide HZ3]; omega) (unhide F6)
      have g0 := fun j => cell_of_row _ _ j _ 37 (0, 0) (out7 (unhide Q1) (.int .i64 s'.fin) (.int .i64 (s'.reg 0)) (.int .i64 (s'.reg 1)) (.int .i64 (s'.reg 2)) (.int .i64 (s'.reg 3)) (.int .i64 s'.clock) (.int .i64 s'.heard))
      refine bodyPost_ret (v := .tuple #[.string (x'.log ++ frameS (bodyS 5 0 s'.fin.toNat)), vt, finV s', .int .i64 0]) (by simp [results, Tryz.results22, go_sem, Act.put, g0, finV]) rfl ?_
      rw [← unhide HR]
      refine ⟨out7_fr g1 (.inr (by omega)) _ _ _ _ _ _ _, 0, unhide HX, .inr ⟨rfl, vt, rfl, ?_⟩⟩
      refine ownsRow_of_block g2 (fun q hq => ?_)
      have hq' := g3 q hq
      rw [Below.heap_setCell _ _ _ _ hq', Below.heap_setCell _ _ _ _ hq', Below.heap_setCell _ _ _ _ hq', Below.heap_setCell _ _ _ _ hq', Below.heap_setCell _ _ _ _ hq', Below.heap_setCell _ _ _ _ hq', Below.heap_setCell _ _ _ _ hq']
  · have hxb : (x == 0) = false := by simpa using hx0
    go_wp2
    have g0 := fun j => cell_of_row _ _ j _ 37 (0, 0) (out7 (unhide B76) (.int .i64 0) (.int .i64 0) (.int .i64 0) (.int .i64 0) (.int .i64 0) (.int .i64 0) (.int .i64 0))
    refine bodyPost_ret (v := .tuple #[.string ⟨#[]⟩, .slice none 0 0, .agg #[.int .i64 0, .int .i64 0, .int .i64 0, .int .i64 0, .int .i64 0, .int .i64 0, .int .i64 0], .int .i64 x]) (by simp [results, Tryz.results22, go_sem, g0]) rfl ?_
    rw [← unhide HR]
    exact ⟨out7_fr (unhide HF1) (.inr (by omega)) _ _ _ _ _ _ _, x, unhide HX, .inl ⟨hx0, rfl⟩⟩
end Go.Proofs.YtfmbebofllgmoaaGreatDoor
namespace Go.Proofs.YtfmbebofllgmoaaGreatDoor
open Go.RowKit Go.Sort

theorem dueS_perm (s : PS) : (dueS s).Perm (dueK s 8) := by
  have hp := (insertionSort_holds (lt := ltOf cfT) swoT (dueK s 8).toArray 0 (dueK s 8).toArray.size (Nat.zero_le _) (Nat.le_refl _)).1
  change (Sort.insertionSort (ltOf cfT) (dueK s 8).toArray 0 (dueK s 8).toArray.size).toList.Perm (dueK s 8)
  generalize Sort.insertionSort (ltOf cfT) (dueK s 8).toArray 0 (dueK s 8).toArray.size = d at *
  have h1 := hp.2.2
  have hz := hp.1
  have e : d.extract 0 (dueK s 8).toArray.size = d := by rw [← hz]; simp
  rw [e] at h1
  simpa using h1
theorem dueS_sorted (s : PS) : (dueS s).Pairwise (fun a b => ltOf cfT b a = false) := by
  have hs := (insertionSort_holds (lt := ltOf cfT) swoT (dueK s 8).toArray 0 (dueK s 8).toArray.size (Nat.zero_le _) (Nat.le_refl _)).2
  have hp := (insertionSort_holds (lt := ltOf cfT) swoT (dueK s 8).toArray 0 (dueK s 8).toArray.size (Nat.zero_le _) (Nat.le_refl _)).1
  change (Sort.insertionSort (ltOf cfT) (dueK s 8).toArray 0 (dueK s 8).toArray.size).toList.Pairwise _
  generalize Sort.insertionSort (ltOf cfT) (dueK s 8).toArray 0 (dueK s 8).toArray.size = d at *
  rw [List.pairwise_iff_getElem]
  intro i j hi hj hij
  have hz := hp.1
  have hi' : i < d.size := by simpa using hi
  have hj' : j < d.size := by simpa using hj
  have := hs i j (Nat.zero_le _) hij (by omega)
  simpa [hi', hj'] using this
end Go.Proofs.YtfmbebofllgmoaaGreatDoor
