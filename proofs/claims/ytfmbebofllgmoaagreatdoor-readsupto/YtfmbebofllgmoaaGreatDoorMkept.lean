/-
  PROVED HERE: the run of the document's example is as the document says. what a recorded run's log is read and had again as. how long a run's trace is at the most; a struct's equality with itself. what the first bytes of a recorded run's log, and the log with one byte turned, are read and had again as. what the keep statements know of a recorded run. heads: a list of inputs that is the beginning of another one. what raw handlers and a raw world look like in memory, out of the form's own reading and bulk.
-/
import Derived.Test.YtfmbebofllgmoaaGreatDoorMrec
import Derived.Test.YtfmbebofllgmoaaGreatDoorMbase
import Derived.Test.YtfmbebofllgmoaaGreatDoorMkeepb
import Derived.Test.YtfmbebofllgmoaaGreatDoorMreplay
import Derived.ChangeKeysEq
import Derived.Test.YtfmbebofllgmoaaGreatDoorRows
import Derived.ProofKit
import Derived.OpenShut
import Derived.SizedLaws
import Derived.Deep.Slices
import Derived.Deep.Strs
import Derived.Lib.SmallJoins
import Derived.Deep.DeepHandedRow
import Derived.Lib.LaidTab
namespace Go.Proofs.YtfmbebofllgmoaaGreatDoor
open Go.RowKit
attribute [local go_sem ↓] Go.wp_at_zero Go.wp_at_succ

def exP : Pg := ⟨3, fun i => if i = 0 then (1, 0, 5) else if i = 1 then (3, 0, 0) else (5, 1, 0), 1, fun _ => 3, fun _ j => if j = 0 then (9, 0, 0) else if j = 1 then (8, 1, 10) else (9, 1, 0), 2, fun i => if i = 0 then 0 else 1, fun _ _ => (6, 1, 0)⟩
def exRun (x y : Value) : PS × RS := recM exP 100 [3, 6, 9] [(x, []), (y, [1, 0, 1])] [] [13]
theorem ex_trace (x y : Value) : (exRun x y).1.trace = [(1, 0, 0), (3, 0, 5), (3, 1, 3), (2, 1, 0)] := by kernel_rfl
theorem ex_fin (x y : Value) : (exRun x y).1.fin = 2 := by kernel_rfl
theorem ex_clock (x y : Value) : (exRun x y).1.clock = 6 := by kernel_rfl
theorem ex_heard (x y : Value) : (exRun x y).1.heard = 5 := by kernel_rfl
theorem ex_log (x y : Value) : (exRun x y).2.log = headS ++ frameS (bodyS 1 0 3) ++ frameS (batchS []) ++ frameS (bodyS 1 0 6) ++ frameS (bodyS 4 10 3) ++ frameS (batchS [0, 1]) := by kernel_rfl
theorem frame_len (b : ByteArray) (h : b.size < 128) : (frameS b).size = b.size + 5 := by
  unfold frameS
  rw [ByteArray.size_append, ByteArray.size_append, sumS_size, varS_one _ h]
  omega
theorem ex_size (x y : Value) : (recLog (exRun x y)).size = 48 := by
  unfold recLog
  rw [ex_log, ex_fin]
  have b1 : ∀ k n : Nat, k ≠ 3 → k ≠ 4 → n < 128 → (bodyS k 0 n).size = 2 := fun k n h3 h4 hn => by
    unfold bodyS
    rw [if_neg (by omega), ByteArray.size_append, one_size, varS_one _ hn]
  have b2 : (bodyS 4 10 3).size = 3 := by
    unfold bodyS
    rw [if_pos (by omega), ByteArray.size_append, ByteArray.size_append, one_size, varS_one _ (by omega), varS_one _ (by omega)]
  have b3 : (batchS []).size = 2 := by
    unfold batchS filesS
    rw [List.foldl_nil, ByteArray.size_append, one_size, varS_one _ (by simp)]
  have b4 : (batchS [0, 1]).size = 4 := by
    unfold batchS
    rw [filesS_size _ (by intro z hz; simp at hz; omega), ByteArray.size_append, one_size, varS_one _ (by simp)]
    simp
  have h3 : headS.size = 3 := rfl
  have f1 := frame_len (bodyS 1 0 3) (by rw [b1 1 3 (by omega) (by omega) (by omega)]; omega)
  have f2 := frame_len (batchS []) (by rw [b3]; omega)
  have f3 := frame_len (bodyS 1 0 6) (by rw [b1 1 6 (by omega) (by omega) (by omega)]; omega)
  have f4 := frame_len (bodyS 4 10 3) (by rw [b2]; omega)
  have f5 := frame_len (batchS [0, 1]) (by rw [b4]; omega)
  have f6 := frame_len (bodyS 5 0 (2 : Int).toNat) (by rw [b1 5 _ (by omega) (by omega) (by omega)]; omega)
  rw [b1 1 3 (by omega) (by omega) (by omega)] at f1
  rw [b3] at f2
  rw [b1 1 6 (by omega) (by omega) (by omega)] at f3
  rw [b2] at f4
  rw [b4] at f5
  rw [b1 5 _ (by omega) (by omega) (by omega)] at f6
  simp only [ByteArray.size_append]
  omega
theorem ex_ans {x : Int} (h : Ans exP.tn exP.fn (1 + exP.tn + exP.fn) (allL exP.sn exP.tn exP.tl exP.fl) (allF exP.tn exP.sf exP.tf exP.ff) x) : x = 0 := by
  refine h.one ?_
  refine .inr (.inr (.inr (.inr ⟨by decide, by decide, ?_, ?_, rfl⟩)))
  · intro i hi
    have hi' : i < 4 := hi
    have : i = 0 ∨ i = 1 ∨ i = 2 ∨ i = 3 := by omega
    rcases this with rfl | rfl | rfl | rfl <;> decide
  · intro i k hi hk
    have hi' : i < 4 := hi
    have : i = 0 ∨ i = 1 ∨ i = 2 ∨ i = 3 := by omega
    rcases this with rfl | rfl | rfl | rfl
    · have hk' : k < 3 := hk
      have : k = 0 ∨ k = 1 ∨ k = 2 := by omega
      rcases this with rfl | rfl | rfl <;> decide
    · have hk' : k < 3 := hk
      have : k = 0 ∨ k = 1 ∨ k = 2 := by omega
      rcases this with rfl | rfl | rfl <;> decide
    · have hk' : k < 0 := hk
      omega
    · have hk' : k < 1 := hk
      have : k = 0 := by omega
      subst this
      decide

theorem push_old (os : List Obj) : ∀ (h : Array Obj) (j : Nat), j < h.size → (os.foldl Array.push h)[j]? = h[j]? := by
  induction os with
  | nil => intro h j _; rfl
  | cons o os ih =>
    intro h j hj
    rw [List.foldl_cons, ih _ j (by simp; omega), Array.getElem?_push, if_neg (by omega)]
theorem push_get (os : List Obj) : ∀ (h : Array Obj) (i : Nat), i < os.length → (os.foldl Array.push h)[h.size + i]? = os[i]? := by
  induction os with
  | nil => intro h i hi; simp at hi
  | cons o os ih =>
    intro h i hi
    rw [List.foldl_cons]
    cases i with
    | zero => rw [Nat.add_zero, push_old _ _ _ (by simp), Array.getElem?_push, if_pos rfl]; rfl
    | succ i =>
      have := ih (h.push o) i (by simp at hi; omega)
      rw [Array.size_push] at this
      rw [show h.size + (i + 1) = h.size + 1 + i by omega, this]
      rfl

/-- The example's blocks. -/
def exO (n : Nat) : List Obj := [
  .cells #[.int .i64 1, .int .i64 0, .int .i64 5, .int .i64 3, .int .i64 0, .int .i64 0, .int .i64 5, .int .i64 1, .int .i64 0] 70,
  .cells #[.slice (some ⟨n, 0, none⟩) 3 3, .slice (some ⟨n + 1 + 1 + 1, 0, none⟩) 1 1, .slice (some ⟨n + 1 + 1 + 1 + 1 + 1, 0, none⟩) 2 2] 33,
  .cells #[.int .i64 9, .int .i64 0, .int .i64 0, .int .i64 8, .int .i64 1, .int .i64 10, .int .i64 9, .int .i64 1, .int .i64 0] 70,
  .cells #[.slice (some ⟨n + 1 + 1, 0, none⟩) 3 3] 31,
  .cells #[.int .i64 6, .int .i64 1, .int .i64 0] 70,
  .cells #[.slice none 0 0, .slice (some ⟨n + 1 + 1 + 1 + 1, 0, none⟩) 1 1] 31,
  .cells #[.int .i64 3, .int .i64 6, .int .i64 9] 3,
  .cells #[.int .i64 1, .int .i64 0, .int .i64 1] 3,
  .cells #[.slice none 0 0, .slice (some ⟨n + 1 + 1 + 1 + 1 + 1 + 1 + 1, 0, none⟩) 3 3] 26,
  .cells #[.int .i64 13] 3]
def exW0 (w : World) : World := ((exO w.heap.size).take 6).foldl World.alloc w
def exW (w : World) : World := (exO w.heap.size).foldl World.alloc w
theorem fold_heap (os : List Obj) : ∀ w : World, (os.foldl World.alloc w).heap = os.foldl Array.push w.heap := by
  induction os with
  | nil => intro w; rfl
  | cons o os ih => intro w; rw [List.foldl_cons, ih]; rfl
theorem fold_fr (os : List Obj) : ∀ (w w' : World), Fr (fun _ => False) w w' (fun _ => False) → Fr (fun _ => False) w (os.foldl World.alloc w') (fun _ => False) := by
  induction os with
  | nil => intro w w' h; exact h
  | cons o os ih => intro w w' h; exact ih w _ (h.alloc o)
theorem fold_size (os : List Obj) : ∀ w : World, (os.foldl World.alloc w).heap.size = w.heap.size + os.length := by
  induction os with
  | nil => intro w; rfl
  | cons o os ih => intro w; rw [List.foldl_cons, ih]; simp; omega

theorem ex_call (w : World) (htab : TabIn w) : Calls Tryz.prog 22 #[.agg #[.slice (some ⟨w.heap.size, 0, none⟩) 3 3, .slice (some ⟨w.heap.size + 1 + 1 + 1, 0, none⟩) 1 1, .slice (some ⟨w.heap.size + 1 + 1 + 1 + 1 + 1, 0, none⟩) 2 2],
    .agg #[.slice (some ⟨w.heap.size + 1 + 1 + 1 + 1 + 1 + 1, 0, none⟩) 3 3, .slice (some ⟨w.heap.size + 1 + 1 + 1 + 1 + 1 + 1 + 1 + 1, 0, none⟩) 2 2, .slice none 0 0, .slice (some ⟨w.heap.size + 1 + 1 + 1 + 1 + 1 + 1 + 1 + 1 + 1, 0, none⟩) 1 1], .int .i64 100] (exW w)
    (RecPost (exW w) exP 100 [3, 6, 9] [(.slice none 0 0, []), (.slice (some ⟨w.heap.size + 1 + 1 + 1 + 1 + 1 + 1 + 1, 0, none⟩) 3 3, [1, 0, 1])] [] [13]) := by
  have g0 : ∀ i, i < 6 → (exW0 w).heap[w.heap.size + i]? = ((exO w.heap.size).take 6)[i]? := fun i hi => by unfold exW0; rw [fold_heap]; exact push_get _ _ i (by simpa [exO] using hi)
  have g : ∀ i, i < 10 → (exW w).heap[w.heap.size + i]? = (exO w.heap.size)[i]? := fun i hi => by unfold exW; rw [fold_heap]; exact push_get _ _ i (by simpa [exO] using hi)
  have z0 : (exW0 w).heap.size = w.heap.size + 6 := by unfold exW0; rw [fold_size]; rfl
  have z : (exW w).heap.size = w.heap.size + 10 := by unfold exW; rw [fold_size]; rfl
  have hb1 : Fr (fun _ => False) (exW0 w) (exW w) (fun _ => False) := by
    have : exW w = ((exO w.heap.size).drop 6).foldl World.alloc (exW0 w) := by
      unfold exW exW0
      rw [← List.foldl_append, List.take_append_drop]
    rw [this]
    exact fold_fr _ _ _ (Fr.refl _ _)
  have hf : Fr (fun _ => False) w (exW w) (fun _ => False) := fold_fr _ _ _ (Fr.refl _ _)
  have b0 := g0 0 (by omega)
  have b2 := g0 2 (by omega)
  have b3 := g0 3 (by omega)
  have b4 := g0 4 (by omega)
  have b5 := g0 5 (by omega)
  have c6 := g 6 (by omega)
  have c7 := g 7 (by omega)
  have c8 := g 8 (by omega)
  have c9 := g 9 (by omega)
  simp only [exO, List.take, List.getElem?_cons_zero, List.getElem?_cons_succ, Nat.add_zero] at b0 b2 b3 b4 b5 c6 c7 c8 c9
  refine record_any (w0 := exW0 w) (hb1.below (B := (exW0 w).heap.size) (fun k h => h.elim) (Nat.le_refl _)) (tabIn_below (hf.below (B := w.heap.size) (fun k h => h.elim) (Nat.le_refl _)) (tabIn_lt htab) htab) (p := exP) ?_ 100
    (L := fun q => q = w.heap.size + 7) (P := fun q => w.heap.size ≤ q ∧ q < w.heap.size + 10) (fun q hq => by rw [z]; exact hq.2) (fun q hq => by rw [z, z0]; omega) ?_ ?_ ⟨none, 0, rfl, .inl rfl⟩ ?_ ?_ (by simp) (by simp) (by simp) (by simp)
  · refine ⟨⟨some ⟨w.heap.size, 0, none⟩, 3, rfl, by decide, .inr ⟨w.heap.size, 0, rfl, ?_⟩⟩, ⟨some ⟨w.heap.size + 3, 0, none⟩, 1, rfl, by decide, .inr ⟨w.heap.size + 3, 0, rfl, ?_⟩⟩, ⟨some ⟨w.heap.size + 5, 0, none⟩, 2, rfl, by decide, .inr ⟨w.heap.size + 5, 0, rfl, ?_⟩⟩⟩
    · intro i hi
      have hi' : i < 3 := hi
      have : i = 0 ∨ i = 1 ∨ i = 2 := by omega
      rcases this with rfl | rfl | rfl
      · exact ⟨cell_of_row _ _ 0 _ 70 (0, 0) b0, cell_of_row _ _ 1 _ 70 (0, 0) b0, cell_of_row _ _ 2 _ 70 (0, 0) b0⟩
      · exact ⟨cell_of_row _ _ 3 _ 70 (0, 0) b0, cell_of_row _ _ 4 _ 70 (0, 0) b0, cell_of_row _ _ 5 _ 70 (0, 0) b0⟩
      · exact ⟨cell_of_row _ _ 6 _ 70 (0, 0) b0, cell_of_row _ _ 7 _ 70 (0, 0) b0, cell_of_row _ _ 8 _ 70 (0, 0) b0⟩
    · intro i hi
      have hi' : i < 1 := hi
      have : i = 0 := by omega
      subst this
      refine ⟨_, cell_of_row _ _ 0 _ 31 (0, 0) b3, some ⟨w.heap.size + 2, 0, none⟩, 3, rfl, by decide, .inr ⟨w.heap.size + 2, 0, rfl, ?_⟩⟩
      intro j hj
      have hj' : j < 3 := hj
      have : j = 0 ∨ j = 1 ∨ j = 2 := by omega
      rcases this with rfl | rfl | rfl
      · exact ⟨cell_of_row _ _ 0 _ 70 (0, 0) b2, cell_of_row _ _ 1 _ 70 (0, 0) b2, cell_of_row _ _ 2 _ 70 (0, 0) b2⟩
      · exact ⟨cell_of_row _ _ 3 _ 70 (0, 0) b2, cell_of_row _ _ 4 _ 70 (0, 0) b2, cell_of_row _ _ 5 _ 70 (0, 0) b2⟩
      · exact ⟨cell_of_row _ _ 6 _ 70 (0, 0) b2, cell_of_row _ _ 7 _ 70 (0, 0) b2, cell_of_row _ _ 8 _ 70 (0, 0) b2⟩
    · intro i hi
      have hi' : i < 2 := hi
      have : i = 0 ∨ i = 1 := by omega
      rcases this with rfl | rfl
      · exact ⟨_, cell_of_row _ _ 0 _ 31 (0, 0) b5, none, 0, rfl, by decide, .inl rfl⟩
      · refine ⟨_, cell_of_row _ _ 1 _ 31 (0, 0) b5, some ⟨w.heap.size + 4, 0, none⟩, 1, rfl, by decide, .inr ⟨w.heap.size + 4, 0, rfl, ?_⟩⟩
        intro j hj
        have hj' : j < 1 := hj
        have : j = 0 := by omega
        subst this
        exact ⟨cell_of_row _ _ 0 _ 70 (0, 0) b4, cell_of_row _ _ 1 _ 70 (0, 0) b4, cell_of_row _ _ 2 _ 70 (0, 0) b4⟩
  · refine ⟨some ⟨w.heap.size + 6, 0, none⟩, 3, rfl, .inr ⟨w.heap.size + 6, 0, rfl, by omega, ?_⟩⟩
    intro i hi
    have hi' : i < 3 := hi
    have : i = 0 ∨ i = 1 ∨ i = 2 := by omega
    rcases this with rfl | rfl | rfl
    · exact cell_of_row _ _ 0 _ 3 (0, 0) c6
    · exact cell_of_row _ _ 1 _ 3 (0, 0) c6
    · exact cell_of_row _ _ 2 _ 3 (0, 0) c6
  · refine ⟨some ⟨w.heap.size + 8, 0, none⟩, 2, rfl, .inr ⟨w.heap.size + 8, 0, rfl, by omega, ?_⟩⟩
    intro i hi
    have hi' : i < 2 := hi
    have : i = 0 ∨ i = 1 := by omega
    rcases this with rfl | rfl
    · exact cell_of_row _ _ 0 _ 26 (0, 0) c8
    · exact cell_of_row _ _ 1 _ 26 (0, 0) c8
  · refine ⟨some ⟨w.heap.size + 9, 0, none⟩, 1, rfl, .inr ⟨w.heap.size + 9, 0, rfl, by omega, ?_⟩⟩
    intro i hi
    have hi' : i < 1 := hi
    have : i = 0 := by omega
    subst this
    exact cell_of_row _ _ 0 _ 3 (0, 0) c9
  · intro b hb
    simp only [List.mem_cons, List.not_mem_nil, or_false] at hb
    rcases hb with rfl | rfl
    · exact ⟨⟨none, 0, rfl, .inl rfl⟩, by simp⟩
    · refine ⟨⟨some ⟨w.heap.size + 7, 0, none⟩, 3, rfl, .inr ⟨w.heap.size + 7, 0, rfl, rfl, ?_⟩⟩, by simp⟩
      intro i hi
      have hi' : i < 3 := hi
      have : i = 0 ∨ i = 1 ∨ i = 2 := by omega
      rcases this with rfl | rfl | rfl
      · exact cell_of_row _ _ 0 _ 3 (0, 0) c7
      · exact cell_of_row _ _ 1 _ 3 (0, 0) c7
      · exact cell_of_row _ _ 2 _ 3 (0, 0) c7

theorem row_ops {w : World} {B : Nat} {v : Value} {l : List O3} (h : w.ownsRow B 72 3 v l.length (flatE l)) (hl : l.length * 24 ≤ 140737488351232) : OpsIn w v l.length (fun i => l.getD i (0, 0, 0)) := by
  rcases h.2 with ⟨hv, h0⟩ | ⟨g, cap, cur, hv, hB, hg, h1, h2, h3, h4⟩
  · rw [h0]; exact ⟨none, 0, by rw [hv], by omega, .inl rfl⟩
  · refine ⟨some ⟨g, 0, none⟩, cap, hv, hl, .inr ⟨g, 0, rfl, fun i hi => ?_⟩⟩
    have fl : ∀ (l : List O3) (i : Nat), i < l.length → (flatE l)[i * 3]? = some (.int .i64 (l.getD i (0, 0, 0)).1) ∧ (flatE l)[i * 3 + 1]? = some (.int .i64 (l.getD i (0, 0, 0)).2.1) ∧ (flatE l)[i * 3 + 2]? = some (.int .i64 (l.getD i (0, 0, 0)).2.2) := by
      intro l
      induction l with
      | nil => intro i hi; simp at hi
      | cons x r ih =>
        intro i hi
        cases i with
        | zero => exact ⟨rfl, rfl, rfl⟩
        | succ i =>
          have := ih i (by simp at hi; omega)
          rw [show (i + 1) * 3 = i * 3 + 3 by omega, show i * 3 + 3 + 1 = (i * 3 + 1) + 3 by omega, show i * 3 + 3 + 2 = (i * 3 + 2) + 3 by omega]
          exact this
    have get : ∀ j u, j < l.length * 3 → (flatE l)[j]? = some u → w.cell? ⟨g, j, none⟩ = some u := by
      intro j u hj hu
      rw [cell_of_row w g j cur 72 (0, 0) hg]
      rw [← h4, List.getElem?_take, if_pos hj, Array.getElem?_toList] at hu
      exact hu
    obtain ⟨f0, f1, f2⟩ := fl l i hi
    refine ⟨?_, ?_, ?_⟩
    · rw [Nat.zero_add]; exact get _ _ (by omega) f0
    · rw [Nat.zero_add]; exact get _ _ (by omega) f1
    · rw [Nat.zero_add]; exact get _ _ (by omega) f2

set_option maxHeartbeats 4000000 in
set_option maxRecDepth 100000 in
theorem works_any (w : World) (htab : TabIn w) : Calls Tryz.prog 13 #[] w fun e w' => e = .returned (.bool true) ∧ Fr (fun _ => False) w w' (fun _ => False) := by
  have hc := ex_call w htab
  have HC := hide hc
  have hfw : Fr (fun _ => False) w (exW w) (fun _ => False) := fold_fr _ _ _ (Fr.refl _ _)
  have HFW := hide hfw
  clear hc hfw
  go_enter Tryz.func13, Tryz.ntmps13
  go_wp2_with fail
  go_at_call 22
  refine (show Calls Tryz.prog 22 _ _ _ from unhide HC).mono ?_
  rintro e w1 ⟨hf1, x, hx, hr⟩
  obtain rfl := ex_ans hx
  rcases hr with ⟨h0, _⟩ | ⟨_, vt, rfl, hrow⟩
  · exact absurd rfl h0
  have e1 := ex_trace (.slice none 0 0) (.slice (some ⟨w.heap.size + 1 + 1 + 1 + 1 + 1 + 1 + 1, 0, none⟩) 3 3)
  have e2 := ex_fin (.slice none 0 0) (.slice (some ⟨w.heap.size + 1 + 1 + 1 + 1 + 1 + 1 + 1, 0, none⟩) 3 3)
  have e3 := ex_clock (.slice none 0 0) (.slice (some ⟨w.heap.size + 1 + 1 + 1 + 1 + 1 + 1 + 1, 0, none⟩) 3 3)
  have e4 := ex_heard (.slice none 0 0) (.slice (some ⟨w.heap.size + 1 + 1 + 1 + 1 + 1 + 1 + 1, 0, none⟩) 3 3)
  have e5 := ex_size (.slice none 0 0) (.slice (some ⟨w.heap.size + 1 + 1 + 1 + 1 + 1 + 1 + 1, 0, none⟩) 3 3)
  unfold exRun at e1 e2 e3 e4 e5
  rw [e1] at hrow
  simp only [finV, e2, e3, e4]
  generalize recLog _ = lg at *
  generalize (recM exP 100 [3, 6, 9] [(Value.slice none 0 0, []), (Value.slice (some ⟨w.heap.size + 1 + 1 + 1 + 1 + 1 + 1 + 1, 0, none⟩) 3 3, [1, 0, 1])] [] [13]).1.reg = rg at *
  rcases hrow.2 with ⟨_, h0⟩ | ⟨g, cap, cur, rfl, hB, hg, h1, h2, h3, h4⟩
  · exact absurd h0 (by simp)
  have get : ∀ j, j < 12 → w1.cell? ⟨g, j, none⟩ = (flatE [(1, 0, 0), (3, 0, 5), (3, 1, 3), (2, 1, 0)])[j]? := by
    intro j hj
    rw [cell_of_row w1 g j cur 72 (0, 0) hg, ← h4, List.getElem?_take, if_pos (by simpa using hj), Array.getElem?_toList]
  have u0 : w1.cell? ⟨g, 0, none⟩ = some (.int .i64 1) := get 0 (by omega)
  have u1 : w1.cell? ⟨g, 1, none⟩ = some (.int .i64 0) := get 1 (by omega)
  have u2 : w1.cell? ⟨g, 2, none⟩ = some (.int .i64 0) := get 2 (by omega)
  have u3 : w1.cell? ⟨g, 3, none⟩ = some (.int .i64 3) := get 3 (by omega)
  have u4 : w1.cell? ⟨g, 4, none⟩ = some (.int .i64 0) := get 4 (by omega)
  have u5 : w1.cell? ⟨g, 5, none⟩ = some (.int .i64 5) := get 5 (by omega)
  have u6 : w1.cell? ⟨g, 6, none⟩ = some (.int .i64 3) := get 6 (by omega)
  have u7 : w1.cell? ⟨g, 7, none⟩ = some (.int .i64 1) := get 7 (by omega)
  have u8 : w1.cell? ⟨g, 8, none⟩ = some (.int .i64 3) := get 8 (by omega)
  have u9 : w1.cell? ⟨g, 9, none⟩ = some (.int .i64 2) := get 9 (by omega)
  have u10 : w1.cell? ⟨g, 10, none⟩ = some (.int .i64 1) := get 10 (by omega)
  have u11 : w1.cell? ⟨g, 11, none⟩ = some (.int .i64 0) := get 11 (by omega)
  have hgl : g < w1.heap.size := (Array.getElem?_eq_some_iff.1 hg).1
  have hne : g ≠ w1.heap.size := by omega
  have F1 := hide ((unhide HFW).trans hf1)
  clear get hrow hB hg h1 h2 h3 h4 hf1 e1 e2 e3 e4 hx HC
  go_wp2
  go_ret
  exact ⟨rfl, (unhide F1).alloc _⟩
end Go.Proofs.YtfmbebofllgmoaaGreatDoor
namespace Go.Proofs.YtfmbebofllgmoaaGreatDoor
open Go.RowKit
attribute [local go_sem ↓] Go.wp_at_zero Go.wp_at_succ

theorem frs_len (xs : List Inp) (h : ∀ x, x ∈ xs → Fit x ∧ x.1 ≠ 5) : (frs xs).length ≤ 15 * xs.length := by
  induction xs with
  | nil => simp [frs]
  | cons x r ih =>
    have h1 := bodyL_len (h x (List.mem_cons_self ..)).1
    have h2 := ih (fun y hy => h y (List.mem_cons_of_mem _ hy))
    have e : (frs (x :: r)).length = (frL x).length + (frs r).length := by simp [frs]
    have e2 : (frL x).length = (bodyL x).length + 5 := frL_len x
    rw [e, List.length_cons]
    omega
/-- What a recorded run's log is read and had again as. -/
theorem same_facts {p : Pg} (hp : PgOk p) (f : Int) (lc : List Int) (bt : List (Value × List Int)) (lp ll : List Int) (hN : lc.length + bt.length + lp.length + ll.length ≤ 50000000) (rm : PS × RS) (hrm : rm = recM p f lc bt lp ll) :
    ∃ xs : List Inp, readL (bs (recLog rm)) = (xs ++ [(5, 0, rm.1.fin.toNat, [])], (recLog rm).size, 1) ∧ rm.1.heard = xs.length ∧ (1 ≤ rm.1.fin ∧ rm.1.fin ≤ 5) ∧ repS p f (rdV (recLog rm)) = rm.1 ∧ xs.length ≤ lc.length + bt.length + lp.length + ll.length ∧ (recLog rm).size ≤ 1000000000 ∧ 0 < (recLog rm).size := by
  obtain ⟨xs, hrun, hlog, hcount⟩ := rec_run hp f lc bt lp ll hN
  rw [← hrm] at hrun hlog
  have hfin := hrun.fin
  have hrd := read_log xs rm.1.fin.toNat hrun.fit (by omega) (by omega)
  rw [← hlog] at hrd
  have hsz : (bs (recLog rm)).length = (recLog rm).size := by simp [bs]
  rw [hsz] at hrd
  have hs := hrun.same hp (rdV (recLog rm)) (by show (readL (bs (recLog rm))).1 = _; rw [hrd]; rfl)
  refine ⟨xs, hrd, hrun.heard, hfin, ?_, ?_, ?_⟩
  · unfold repS
    rw [hs.1, hs.2]
  · exact hcount
  · have h1 := frs_len xs hrun.fit
    have h2 := bodyL_len (fit_end rm.1.fin.toNat (by omega) (by omega))
    have h3 := frL_len (5, 0, rm.1.fin.toNat, [])
    have h4 := hrun.small
    have h5 : (recLog rm).size = 3 + ((frs xs).length + (frL (5, 0, rm.1.fin.toNat, [])).length) := by
      rw [← hsz, hlog]; unfold logL; rw [List.length_append, List.length_append]; rfl
    omega
end Go.Proofs.YtfmbebofllgmoaaGreatDoor
namespace Go.Proofs.YtfmbebofllgmoaaGreatDoor
open Go.RowKit
section
variable {σ : Type} {ask : σ → Int → Int → Rep × σ} {mes : σ → Nat}
theorem turnsM_rinv (hs : SrcOk ask mes) {p : Pg} (hp : PgOk p) : ∀ (k N : Nat) (s : PS) (x : σ), RInv p N s → RInv p (N + 16 * k) (turnsM ask p k s x).1
  | 0, _, _, _, h => h
  | k + 1, N, s, x, h => by
    unfold turnsM
    refine ite_ok (P := fun q : PS × σ => RInv p (N + 16 * (k + 1)) q.1) ?_ (h.mono (Nat.le_add_right _ _))
    exact (turnsM_rinv hs hp k (N + 16) _ _ (turnM_rinv hs hp x h)).mono (by omega)
theorem runM_trace (hs : SrcOk ask mes) {p : Pg} (hp : PgOk p) (k : Nat) (f : Int) (x : σ) : (runM ask p k f x).1.trace.length ≤ 5000 + 16 * k := by
  have hq0 : RInv p 5000 (s0 (min (max f 0) 5000)) := by
    refine ⟨⟨⟨by show 0 ≤ min (max f 0) 5000; omega, by show min (max f 0) 5000 ≤ 5000; omega⟩, ⟨by show (0 : Int) ≤ 0; omega, by show (0 : Int) ≤ 1099511627776; omega⟩, ⟨by show (0 : Int) ≤ 0; omega, by show (0 : Int) + min (max f 0) 5000 ≤ 5000; omega⟩, by show 0 + (min (max f 0) 5000).toNat ≤ 5000; omega⟩, ⟨fun _ h => absurd h Bool.false_ne_true, fun _ h => absurd h Bool.false_ne_true, fun _ h => absurd h Bool.false_ne_true, fun _ _ h => absurd h Bool.false_ne_true⟩⟩
  have hq1 := hM_rinv hs hp.sr (s0 (min (max f 0) 5000)) x hq0
  have h2 : RInv p (5000 + 16 * k) (runM ask p k f x).1 := turnsM_rinv hs hp k 5000 _ _ hq1
  have := h2.1.trace
  omega
end
theorem recM_trace {p : Pg} (hp : PgOk p) (f : Int) (lc : List Int) (bt : List (Value × List Int)) (lp ll : List Int) : (recM p f lc bt lp ll).1.trace.length ≤ 5000 + 16 * (lc.length + 1) := runM_trace recAsk_ok hp _ _ _
theorem plain2 : Tryz.prog.plainKey 2 = true := by kernel_rfl
theorem kcel2 : Tryz.prog.cellsOf 2 = 1 := by kernel_rfl
theorem und2 : Tryz.prog.underlying 2 = some (.int .i64) := by kernel_rfl
theorem eqInt2 (n : Nat) (a : Int) (w : World) : (Op.equalIn (n + 1) 2 (.int .i64 a) (.int .i64 a)).run Tryz.prog w = .ok true w := by
  simp [Op.equalIn, run_underlying und2]
theorem eqItems2 (n : Nat) (xs : Array Value) (w : World) : ∀ (l : List Nat), (∀ j, j ∈ l → ∃ z, xs[j]? = some (.int .i64 z)) → (Op.eqItems (n + 1) 2 1 xs xs l).run Tryz.prog w = .ok true w
  | [], _ => by simp [Op.eqItems]
  | j :: r, h => by
    obtain ⟨z, hz⟩ := h j (List.mem_cons_self ..)
    have p : (part 2 xs j).run Tryz.prog w = .ok (.int .i64 z) w := run_part_plain w plain2 hz
    have ih := eqItems2 n xs w r (fun i hi => h i (List.mem_cons_of_mem _ hi))
    simp only [Op.eqItems, Sem.run_bind, Nat.mul_one, p, Result.andThen_ok, eqInt2 n, Bool.not_true, Bool.false_eq_true, if_false]
    exact ih
theorem eq35n (n : Nat) (a b c d : Int) (w : World) : (Op.equalIn (n + 2) 35 (.agg #[.int .i64 a, .int .i64 b, .int .i64 c, .int .i64 d]) (.agg #[.int .i64 a, .int .i64 b, .int .i64 c, .int .i64 d])).run Tryz.prog w = .ok true w := by
  obtain ⟨i, hi⟩ := info_of_underlying und2
  rw [run_equalIn_array (P := Tryz.prog) w (n + 1) _ _ Tryz.underlying35 hi, kcel2]
  refine eqItems2 n _ w _ (fun j hj => ?_)
  have : j = 0 ∨ j = 1 ∨ j = 2 ∨ j = 3 := by have := List.mem_range.1 hj; omega
  rcases this with rfl | rfl | rfl | rfl <;> exact ⟨_, rfl⟩
theorem eq35 (a b c d : Int) (w : World) : (Op.equalIn 9999 35 (.agg #[.int .i64 a, .int .i64 b, .int .i64 c, .int .i64 d]) (.agg #[.int .i64 a, .int .i64 b, .int .i64 c, .int .i64 d])).run Tryz.prog w = .ok true w := eq35n 9997 a b c d w
theorem kpick_big (c n : Int) (h0 : 1 ≤ n) (h1 : n ≤ 4000000000000) (hc : -9223372036854775808 ≤ c ∧ c ≤ 9223372036854775807) (w : World) : Calls Tryz.prog 18 #[.int .i64 c, .int .i64 n] w fun e w' => e = .returned (.int .i64 (pickI c n)) ∧ w' = w := by
  have hne : (n == 0) = false := by simp; omega
  have hne' : n ≠ 0 := by omega
  by_cases h : c < 0
  · have hw1 : IntKind.i64.wrap (c + 1) = c + 1 := by rw [IntKind.wrap_i64]; omega
    have hw2 : IntKind.i64.wrap (-(c + 1)) = -(c + 1) := by rw [IntKind.wrap_i64]; omega
    have hm : (-(c + 1)).tmod n = pickI c n := by unfold pickI; rw [if_pos h]; exact Int.tmod_eq_emod_of_nonneg (by omega)
    go_enter Tryz.func18, Tryz.ntmps18
    go_wp2
    go_ret
    exact ⟨rfl, rfl⟩
  · have hm : c.tmod n = pickI c n := by unfold pickI; rw [if_neg h]; exact Int.tmod_eq_emod_of_nonneg (by omega)
    go_enter Tryz.func18, Tryz.ntmps18
    go_wp2
    go_ret
    exact ⟨rfl, rfl⟩
end Go.Proofs.YtfmbebofllgmoaaGreatDoor
namespace Go.Proofs.YtfmbebofllgmoaaGreatDoor
open Go.RowKit

/-- What is had again of the first inputs. -/
def BeginsAs (p : Pg) (f : Int) (s : PS) (xs : List Inp) (ys : List Inp) (y : VL) : Prop :=
  (repS p f y).trace <+: s.trace ∧ ((xs.length ≤ ys.length ∧ repS p f y = s) ∨ (ys.length < xs.length ∧ (repS p f y).fin = 5 ∧ (repS p f y).heard = ys.length))
theorem rep_take {p : Pg} (hp : PgOk p) {f : Int} {x : RS} {s : PS} {xs : List Inp} (h : RecRun p f x s xs) (m : Nat) (hm : m ≤ xs.length) (y : VL) (hy : y.1 = xs.take m) : BeginsAs p f s xs (xs.take m) y := by
  have hl : (xs.take m).length = m := by rw [List.length_take]; omega
  rcases h.torn hp m hm y hy with ⟨rfl, h1, h2⟩ | ⟨hlt, h1, h2, h3⟩
  · have e : repS p f y = s := by unfold repS; rw [h1, h2]
    exact ⟨by rw [e]; exact List.prefix_refl _, .inl ⟨by omega, e⟩⟩
  · refine ⟨h3, .inr ⟨by omega, ?_, ?_⟩⟩
    · show endR (repM p f y).1.fin _ = 5
      unfold endR; rw [if_pos (.inl h1)]; exact h1
    · show (repM p f y).1.heard = _
      rw [h2, hl]
theorem rep_all {p : Pg} (hp : PgOk p) {f : Int} {x : RS} {s : PS} {xs : List Inp} (h : RecRun p f x s xs) (y : VL) (hy : y.1 = alls xs s.fin.toNat) : BeginsAs p f s xs (alls xs s.fin.toNat) y := by
  have hs := h.same hp y hy
  have e : repS p f y = s := by unfold repS; rw [hs.1, hs.2]
  exact ⟨by rw [e]; exact List.prefix_refl _, .inl ⟨by unfold alls; simp, e⟩⟩
theorem alls_pre (xs : List Inp) (e m : Nat) : xs.take m <+: alls xs e := (List.take_prefix m xs).trans (List.prefix_append _ _)

/-- What a recorded run's log is, whole, torn and harmed. -/
theorem cut_facts {p : Pg} (hp : PgOk p) (f : Int) (lc : List Int) (bt : List (Value × List Int)) (lp ll : List Int) (hN : lc.length + bt.length + lp.length + ll.length ≤ 50000000) (rm : PS × RS) (hrm : rm = recM p f lc bt lp ll) :
    ∃ xs : List Inp, readL (bs (recLog rm)) = (alls xs rm.1.fin.toNat, (recLog rm).size, 1) ∧ rm.1.heard = xs.length ∧ (1 ≤ rm.1.fin ∧ rm.1.fin ≤ 5) ∧ xs.length ≤ lc.length + bt.length + lp.length + ll.length ∧ (recLog rm).size ≤ 1000000000 ∧ 8 < (recLog rm).size ∧
      (∀ n, n ≤ (recLog rm).size → ∀ s : ByteArray, bs s = (bs (recLog rm)).take n → (n < 3 → readL (bs s) = ([], 0, 2)) ∧
        (3 ≤ n → ∃ ys a why, readL (bs s) = (ys, a, why) ∧ ys <+: alls xs rm.1.fin.toNat ∧ 3 ≤ a ∧ a ≤ n ∧ (n < (recLog rm).size → why = 2) ∧ (n = (recLog rm).size → why = 1) ∧ BeginsAs p f rm.1 xs ys (rdV s))) ∧
      (∀ n v, n < (recLog rm).size → v < 256 → v ≠ (bs (recLog rm)).getD n 0 → ∀ s : ByteArray, bs s = (bs (recLog rm)).set n v → (n < 3 → readL (bs s) = ([], 0, 4)) ∧
        (3 ≤ n → ∃ ys a why, readL (bs s) = (ys, a, why) ∧ ys <+: alls xs rm.1.fin.toNat ∧ 3 ≤ a ∧ a ≤ n ∧ 2 ≤ why ∧ why ≤ 4 ∧ BeginsAs p f rm.1 xs ys (rdV s))) := by
  obtain ⟨xs, hrun, hlog, hcount⟩ := rec_run hp f lc bt lp ll hN
  rw [← hrm] at hrun hlog
  have hfin := hrun.fin
  have hrd := read_log xs rm.1.fin.toNat hrun.fit (by omega) (by omega)
  have hsz : (bs (recLog rm)).length = (recLog rm).size := by simp [bs]
  have hll : (logL xs rm.1.fin.toNat).length = (recLog rm).size := by rw [← hlog, hsz]
  have h1 := frs_len xs hrun.fit
  have h2 := bodyL_len (fit_end rm.1.fin.toNat (by omega) (by omega))
  have h3 := frL_len (5, 0, rm.1.fin.toNat, [])
  have h4 := hrun.small
  have h5 : (recLog rm).size = 3 + ((frs xs).length + (frL (5, 0, rm.1.fin.toNat, [])).length) := by
    rw [← hll]; unfold logL; rw [List.length_append, List.length_append]; rfl
  refine ⟨xs, by rw [hlog, hrd, hll]; rfl, hrun.heard, hfin, hcount, by omega, by omega, fun n hn s hs => ⟨fun h => ?_, fun h => ?_⟩, fun n v hn hv hne s hs => ⟨fun h => ?_, fun h => ?_⟩⟩
  · rw [hs, hlog]; exact read_head xs _ n h
  · by_cases hlt : n < (recLog rm).size
    · obtain ⟨m, a, hm, hr, ha, hb⟩ := read_cut xs rm.1.fin.toNat hrun.fit (by omega) (by omega) n h (by omega)
      have hr' : readL (bs s) = (xs.take m, a, 2) := by rw [hs, hlog]; exact hr
      exact ⟨xs.take m, a, 2, hr', alls_pre xs _ m, ha, hb, fun _ => rfl, fun e => absurd e (by omega), rep_take hp hrun m hm (rdV s) (by show (readL (bs s)).1 = _; rw [hr'])⟩
    · have e : n = (recLog rm).size := by omega
      have hs' : bs s = logL xs rm.1.fin.toNat := by rw [hs, hlog, List.take_of_length_le (by omega)]
      have hr' : readL (bs s) = (alls xs rm.1.fin.toNat, n, 1) := by rw [hs', hrd, hll, e]; rfl
      exact ⟨_, n, 1, hr', List.prefix_refl _, h, Nat.le_refl _, fun h' => absurd h' hlt, fun _ => rfl, rep_all hp hrun (rdV s) (by show (readL (bs s)).1 = _; rw [hr'])⟩
  · rw [hlog] at hs hne
    rw [hs]
    refine read_harm_head xs _ n v h ?_
    intro e
    apply hne
    rw [e]
    unfold logL
    rw [List.getD_eq_getElem?_getD, List.getD_eq_getElem?_getD, List.getElem?_append_left (show n < hd3.length from h)]
  · rw [hlog] at hs hne
    obtain ⟨m, a, w, hm, hr, ha, hb, hw1, hw2⟩ := read_harm xs rm.1.fin.toNat hrun.fit (by omega) (by omega) n v h (by omega) hv hne
    have hr' : readL (bs s) = (xs.take m, a, w) := by rw [hs]; exact hr
    exact ⟨xs.take m, a, w, hr', alls_pre xs _ m, ha, hb, hw1, hw2, rep_take hp hrun m hm (rdV s) (by show (readL (bs s)).1 = _; rw [hr'])⟩
end Go.Proofs.YtfmbebofllgmoaaGreatDoor
namespace Go.Proofs.YtfmbebofllgmoaaGreatDoor
open Go.RowKit
attribute [local go_sem ↓] Go.wp_at_zero Go.wp_at_succ

/-- A recorded run, kept: its program, its log, its trace. -/
structure Kept (w w2 : World) (p : Pg) (fu : Int) (p1 p2 p3 : Value) (lg : ByteArray) (vt : Value) (s : PS) (xs : List Inp) : Prop where
  pg : PgAt w2 (pvOf p1 p2 p3 undef) p
  ok : PgOk p
  tr : w2.ownsRow w.heap.size 72 3 vt s.trace.length (flatE s.trace)
  trb : s.trace.length ≤ 100000
  rd : readL (bs lg) = (alls xs s.fin.toNat, lg.size, 1)
  heard : s.heard = xs.length
  fin : 1 ≤ s.fin ∧ s.fin ≤ 5
  cnt : xs.length + 1 ≤ 2000000
  size : lg.size ≤ 1000000000
  pos : 8 < lg.size
  fr : Fr (fun _ => False) w w2 (fun _ => False)
  cut : ∀ n, n ≤ lg.size → ∀ t : ByteArray, bs t = (bs lg).take n → (n < 3 → readL (bs t) = ([], 0, 2)) ∧
        (3 ≤ n → ∃ ys a why, readL (bs t) = (ys, a, why) ∧ ys <+: alls xs s.fin.toNat ∧ 3 ≤ a ∧ a ≤ n ∧ (n < lg.size → why = 2) ∧ (n = lg.size → why = 1) ∧ BeginsAs p fu s xs ys (rdV t))
  harm : ∀ n v, n < lg.size → v < 256 → v ≠ (bs lg).getD n 0 → ∀ t : ByteArray, bs t = (bs lg).set n v → (n < 3 → readL (bs t) = ([], 0, 4)) ∧
        (3 ≤ n → ∃ ys a why, readL (bs t) = (ys, a, why) ∧ ys <+: alls xs s.fin.toNat ∧ 3 ≤ a ∧ a ≤ n ∧ 2 ≤ why ∧ why ≤ 4 ∧ BeginsAs p fu s xs ys (rdV t))

theorem kept_any {w : World} (htab : TabIn w) {v q0 q1 q2 q3 : Value} {N : Nat} {ln : Nat → Nat} {f : Nat → Nat → O3} (hH : HandsIn w v N ln f) (hin : ∀ i j, i < N → j < ln i → In3 (f i j)) {raw lp ll : List Int} {rb : List Br} {P : Nat → Prop} (hP : ∀ q, P q → q < w.heap.size) (h0 : IntsIn w q0 raw P) (h1 : ValsIn w q1 (rb.map (·.1)) P) (hrb : ∀ b, b ∈ rb → IntsIn w b.1 b.2 P) (h2 : IntsIn w q2 lp P) (h3 : IntsIn w q3 ll P) (hr0 : rng raw) (hr1 : ∀ b, b ∈ rb → rng b.2) (n23 : lp.length + ll.length ≤ 1900000) (fuel : Int) (hfu : inR fuel)
    {W : World} (hf : Fr (fun _ => False) w W (fun _ => False)) :
    Calls Tryz.prog 14 #[v, .agg #[q0, q1, q2, q3], .int .i64 fuel] W fun e w2 => ∃ s1a n1 s1c s2a n2 s2c s3a n3 s3c ta tc, ∃ (p : Pg) (fu : Int) (lg : ByteArray) (s : PS) (xs : List Inp),
      e = .returned (.agg #[.slice s1a n1 s1c, .slice s2a n2 s2c, .slice s3a n3 s3c, .int .i64 fu, .string lg, .slice ta s.trace.length tc, .int .i64 s.fin, .int .i64 (s.reg 0), .int .i64 (s.reg 1), .int .i64 (s.reg 2), .int .i64 (s.reg 3), .int .i64 s.clock, .int .i64 s.heard, .bool true]) ∧
      Kept w w2 p fu (.slice s1a n1 s1c) (.slice s2a n2 s2c) (.slice s3a n3 s3c) lg (.slice ta s.trace.length tc) s xs := by
  have hb := hf.below (B := w.heap.size) (fun k hk => hk.elim) (Nat.le_refl _)
  have pr : ∀ q, P q → W.heap[q]? = w.heap[q]? := fun q hq => hf.same q (hP q hq) (fun h => h)
  refine (recorded_any (w := W) (tabIn_below hb (tabIn_lt htab) htab) (handsIn_below hb hH) hin (P := P) (fun q hq => Nat.lt_of_lt_of_le (hP q hq) hf.size) (h0.block pr) (h1.block pr) (fun b hb => (hrb b hb).block pr) (h2.block pr) (h3.block pr) hr0 hr1 (by omega) (by omega) fuel hfu).mono ?_
  rintro e w2 ⟨p1, p2, p3, vt, bt, rfl, hbt, hpg, htr, f2⟩
  obtain ⟨rm, hrm⟩ : ∃ rm, rm = recM (pgK N ln f) (pickI fuel 400) (ckK raw (min raw.length 60)) bt lp ll := ⟨_, rfl⟩
  have htrb := recM_trace (pgK_ok N ln f) (pickI fuel 400) (ckK raw (min raw.length 60)) bt lp ll
  rw [← hrm] at htr htrb ⊢
  have hbl : bt.length = min rb.length 60 := by have := congrArg List.length hbt; rw [List.length_map, btL_len] at this; exact this
  have hcl := ckK_len raw (min raw.length 60)
  rw [hcl] at htrb
  obtain ⟨xs, hrd, hheard, hfin, hcnt, hsz, hpos, hcut, hharm⟩ := cut_facts (pgK_ok N ln f) (pickI fuel 400) (ckK raw (min raw.length 60)) bt lp ll (by rw [hcl, hbl]; omega) rm hrm
  have hcnt2 : xs.length + 1 ≤ 2000000 := by rw [hcl, hbl] at hcnt; omega
  obtain ⟨s1a, s1c, e1, _⟩ := hpg.s
  obtain ⟨s2a, s2c, e2, _⟩ := hpg.t
  obtain ⟨s3a, s3c, e3, _⟩ := hpg.f
  change p1 = _ at e1
  change p2 = _ at e2
  change p3 = _ at e3
  subst e1 e2 e3
  obtain ⟨ta, tc, rfl⟩ := row_shape htr
  exact ⟨s1a, _, s1c, s2a, _, s2c, s3a, _, s3c, ta, tc, pgK N ln f, pickI fuel 400, recLog rm, rm.1, xs, rfl, ⟨hpg, pgK_ok N ln f, rowLow htr hf.size, by omega, hrd, hheard, hfin, hcnt2, hsz, hpos, hf.trans f2, hcut, hharm⟩⟩

section
variable {w w2 : World} {p : Pg} {fu : Int} {p1 p2 p3 : Value} {lg : ByteArray} {vt : Value} {s : PS} {xs : List Inp}
theorem Kept.all (h : Kept w w2 p fu p1 p2 p3 lg vt s xs) : repS p fu (rdV lg) = s := by
  obtain ⟨ys, a, why, hr, _, _, _, _, _, _, hb⟩ := (h.cut lg.size (Nat.le_refl _) lg (by rw [List.take_of_length_le (by simp [bs])])).2 (by have := h.pos; omega)
  rcases hb with ⟨_, e⟩ | ⟨hlt, _⟩
  · exact e
  · have := h.rd
    rw [hr] at this
    have e : ys = alls xs s.fin.toNat := congrArg Prod.fst this
    rw [e] at hlt
    unfold alls at hlt
    simp at hlt
    omega
theorem Kept.row (h : Kept w w2 p fu p1 p2 p3 lg vt s xs) {W : World} (hf : Fr (fun _ => False) w2 W (fun _ => False)) : W.ownsRow w.heap.size 72 3 vt s.trace.length (flatE s.trace) :=
  ownsRow_of_block h.tr (fun q hq => hf.same q (World.ownsRow.lt h.tr q hq).2 (fun h => h))
theorem Kept.ops (h : Kept w w2 p fu p1 p2 p3 lg vt s xs) {W : World} (hf : Fr (fun _ => False) w2 W (fun _ => False)) : OpsIn W vt s.trace.length (fun i => s.trace.getD i (0, 0, 0)) :=
  row_ops' (h.row hf) (by have := h.trb; omega)
theorem Kept.replay (h : Kept w w2 p fu p1 p2 p3 lg vt s xs) (htab : TabIn w) {W : World} (hf : Fr (fun _ => False) w2 W (fun _ => False)) (t : ByteArray) (hs : t.size ≤ 1000000000) (hc : (readL (bs t)).1.length ≤ 2000000) :
    Calls Tryz.prog 15 #[.agg #[p1, p2, p3], .string t, .int .i64 fu] W fun e w' => Fr (fun _ => False) W w' (fun _ => False) ∧
      (((readL (bs t)).2.1 = 0 ∧ e = .returned (.tuple #[.slice none 0 0, .agg #[.int .i64 0, .int .i64 0, .int .i64 0, .int .i64 0, .int .i64 0, .int .i64 0, .int .i64 0], .int .i64 5])) ∨
       ((readL (bs t)).2.1 ≠ 0 ∧ ∃ a c, ∃ r : PS, r = repS p fu (rdV t) ∧ e = .returned (.tuple #[.slice a r.trace.length c, .agg #[.int .i64 r.fin, .int .i64 (r.reg 0), .int .i64 (r.reg 1), .int .i64 (r.reg 2), .int .i64 (r.reg 3), .int .i64 r.clock, .int .i64 r.heard], .int .i64 0]) ∧
          w'.ownsRow W.heap.size 72 3 (.slice a r.trace.length c) r.trace.length (flatE r.trace))) := by
  have hb := (h.fr.trans hf).below (B := w.heap.size) (fun k hk => hk.elim) (Nat.le_refl _)
  refine (replay_any (w := W) (w0 := w2) (hf.below (B := w2.heap.size) (fun k hk => hk.elim) (Nat.le_refl _)) (tabIn_below hb (tabIn_lt htab) htab) h.pg fu t hs hc).mono ?_
  rintro e w' ⟨hf, x, hx, h1 | ⟨_, h1, h2⟩ | ⟨_, h1, vt', he, hr⟩⟩
  · exact absurd (hx.one (ans_of_ok h.ok)) h1.1
  · exact ⟨hf, .inl ⟨h1, h2⟩⟩
  · obtain ⟨a, c, e'⟩ := row_shape hr
    subst e'
    exact ⟨hf, .inr ⟨h1, a, c, _, rfl, he, hr⟩⟩
end
/-- Read, its list by its length. -/
theorem read_ps (t : ByteArray) (hs : t.size ≤ 1000000000) (W : World) : Calls Tryz.prog 16 #[.string t] W fun e w' => ∃ a c, ∃ ps : List (Inp × Value), e = .returned (.tuple #[.slice a ps.length c, .int .i64 (readL (bs t)).2.1, .int .i64 (readL (bs t)).2.2]) ∧ InsAt w' W.heap.size (.slice a ps.length c) ps ∧ ps.map (·.1) = (readL (bs t)).1 ∧ Fr (fun _ => False) W w' (fun _ => False) := by
  refine (read_any t hs W).mono ?_
  rintro e w' ⟨a, n, c, ps, rfl, hi, hp, hf⟩
  obtain ⟨a', c', e'⟩ := row_shape hi.row
  injection e' with e1 e2 e3
  subst e1 e2 e3
  exact ⟨a, c, ps, rfl, hi, hp, hf⟩
end Go.Proofs.YtfmbebofllgmoaaGreatDoor
namespace Go.Proofs.YtfmbebofllgmoaaGreatDoor
open Go.RowKit
attribute [local go_sem ↓] Go.wp_at_zero Go.wp_at_succ

/-- An input's cells in a list of inputs. -/
theorem InsAt.cells {w : World} {B : Nat} {v : Value} {ps : List (Inp × Value)} (h : InsAt w B v ps) {i : Nat} (hi : i < ps.length) : ∃ g c x fv, v = .slice (some ⟨g, 0, none⟩) ps.length c ∧ g < w.heap.size ∧ ps[i]? = some (x, fv) ∧ w.cell? ⟨g, i * 4, none⟩ = some (.int .i64 (x.1 : Nat)) ∧ w.cell? ⟨g, i * 4 + 1, none⟩ = some (.int .i64 (x.2.1 : Nat)) ∧ w.cell? ⟨g, i * 4 + 2, none⟩ = some (.int .i64 (x.2.2.1 : Nat)) ∧ w.cell? ⟨g, i * 4 + 3, none⟩ = some fv ∧ OwnI w B fv (zs x.2.2.2) := by
  obtain ⟨g, c, hv, _, hg, hc⟩ := row_cell h.row (by omega)
  have hp : ps[i]? = some ps[i] := List.getElem?_eq_getElem hi
  obtain ⟨g0, g1, g2, g3⟩ := flatP_get ps i _ hp
  exact ⟨g, c, ps[i].1, ps[i].2, hv, hg, hp, hc _ _ g0, hc _ _ g1, hc _ _ g2, hc _ _ g3, h.fl _ (List.getElem_mem hi)⟩

theorem InsAt.fr {w W : World} {B : Nat} {v : Value} {ps : List (Inp × Value)} (h : InsAt w B v ps) (hf : Fr (fun _ => False) w W (fun _ => False)) : InsAt W B v ps := h.block (fun q hq => hf.same q (h.lt hq).2 (fun h => h))
theorem fit_files {x : Inp} (h : Fit x) : x.2.2.2.length ≤ 100 := by
  rcases h with ⟨_, _, _, e⟩ | ⟨_, _, _, e⟩ | ⟨_, _, _, _, e⟩ | ⟨_, _, _, _, e⟩ | ⟨_, _, _, _, e⟩
  · rw [e]; simp
  · have := (risL_len x.2.2.2 (-1) (by omega) (by omega) e).1; omega
  · rw [e]; simp
  · rw [e]; simp
  · rw [e]; simp
set_option maxHeartbeats 1000000 in
theorem heads_any {w : World} {B1 B2 : Nat} {v1 v2 : Value} {ps1 ps2 : List (Inp × Value)} (h1 : InsAt w B1 v1 ps1) (h2 : InsAt w B2 v2 ps2) (hpre : ps1.map (·.1) <+: ps2.map (·.1)) (hl : ps1.length ≤ 100000000) (hf : ∀ p, p ∈ ps1 → p.1.2.2.2.length ≤ 100) :
    Calls Tryz.prog 19 #[v1, v2, .int .i64 ps1.length] w fun e w' => e = .returned (.bool true) ∧ Fr (fun _ => False) w w' (fun _ => False) := by
  have hle : ps1.length ≤ ps2.length := by have := hpre.length_le; simpa using this
  have key : ∀ i, i < ps1.length → ∃ g1 c1 g2 c2 fa1 fn1 fc1 fa2 fn2 fc2, ∃ x : Inp, v1 = .slice (some ⟨g1, 0, none⟩) ps1.length c1 ∧ v2 = .slice (some ⟨g2, 0, none⟩) ps2.length c2 ∧ ∀ W : World, Fr (fun _ => False) w W (fun _ => False) →
      (W.cell? ⟨g1, i * 4, none⟩ = some (.int .i64 (x.1 : Nat)) ∧ W.cell? ⟨g1, i * 4 + 1, none⟩ = some (.int .i64 (x.2.1 : Nat)) ∧ W.cell? ⟨g1, i * 4 + 2, none⟩ = some (.int .i64 (x.2.2.1 : Nat)) ∧ W.cell? ⟨g1, i * 4 + 3, none⟩ = some (.slice fa1 fn1 fc1)) ∧
      (W.cell? ⟨g2, i * 4, none⟩ = some (.int .i64 (x.1 : Nat)) ∧ W.cell? ⟨g2, i * 4 + 1, none⟩ = some (.int .i64 (x.2.1 : Nat)) ∧ W.cell? ⟨g2, i * 4 + 2, none⟩ = some (.int .i64 (x.2.2.1 : Nat)) ∧ W.cell? ⟨g2, i * 4 + 3, none⟩ = some (.slice fa2 fn2 fc2)) ∧
      Calls Tryz.prog 34 #[.agg #[.int .i64 (x.1 : Nat), .int .i64 (x.2.1 : Nat), .int .i64 (x.2.2.1 : Nat), .slice fa1 fn1 fc1], .agg #[.int .i64 (x.1 : Nat), .int .i64 (x.2.1 : Nat), .int .i64 (x.2.2.1 : Nat), .slice fa2 fn2 fc2]] W fun e w' => e = .returned (.bool true) ∧ Fr (fun _ => False) w w' (fun _ => False) := by
    intro i hi
    obtain ⟨g1, c1, x1, fv1, e1, l1, p1, a0, a1, a2, a3, o1⟩ := h1.cells hi
    obtain ⟨g2, c2, x2, fv2, e2, l2, p2, b0, b1, b2, b3, o2⟩ := h2.cells (i := i) (by omega)
    have hx : x2 = x1 := by
      have q1 : (ps1.map (·.1))[i]? = some x1 := by rw [List.getElem?_map, p1]; rfl
      have q2 : (ps2.map (·.1))[i]? = some x2 := by rw [List.getElem?_map, p2]; rfl
      obtain ⟨r, hr⟩ := hpre
      rw [← hr, List.getElem?_append_left (by simpa using hi), q1] at q2
      exact (Option.some.inj q2).symm
    subst hx
    obtain ⟨fa1, fn1, fc1, rfl⟩ := ownI_shape o1
    obtain ⟨fa2, fn2, fc2, rfl⟩ := ownI_shape o2
    refine ⟨g1, c1, g2, c2, fa1, fn1, fc1, fa2, fn2, fc2, x2, e1, e2, fun W hW => ?_⟩
    have k1 : ∀ j u, w.cell? ⟨g1, j, none⟩ = some u → W.cell? ⟨g1, j, none⟩ = some u := fun j u h => (hW.cell g1 j l1 (fun h => h)).trans h
    have k2 : ∀ j u, w.cell? ⟨g2, j, none⟩ = some u → W.cell? ⟨g2, j, none⟩ = some u := fun j u h => (hW.cell g2 j l2 (fun h => h)).trans h
    refine ⟨⟨k1 _ _ a0, k1 _ _ a1, k1 _ _ a2, k1 _ _ a3⟩, ⟨k2 _ _ b0, k2 _ _ b1, k2 _ _ b2, k2 _ _ b3⟩, ?_⟩
    have m1 := (ownI_ints (o1.fr hW (fun q hq => ⟨(World.ownsRow.lt o1 q hq).2, fun h => h⟩)))
    have m2 := (ownI_ints (o2.fr hW (fun q hq => ⟨(World.ownsRow.lt o2 q hq).2, fun h => h⟩)))
    have mono : ∀ {v : Value} {P Q : Nat → Prop} {l : List Int}, IntsIn W v l P → (∀ q, P q → Q q) → IntsIn W v l Q := fun h hq => by
      obtain ⟨a, c, hv, hc⟩ := h
      exact ⟨a, c, hv, hc.imp id fun ⟨q, off, e, hp, hh⟩ => ⟨q, off, e, hq q hp, hh⟩⟩
    have hb := hf _ (List.mem_of_getElem? p1)
    refine (sameInput_any (w := W) (P := fun q => q < W.heap.size) (fun _ h => h) _ _ _ (mono m1 (fun q h => h.2.2)) (mono m2 (fun q h => h.2.2)) (by rw [zs_len]; exact Nat.le_trans hb (by omega))).mono ?_
    rintro e w' ⟨h1, h2⟩
    exact ⟨h1, hW.trans h2⟩
  obtain ⟨a1, c1, rfl⟩ := row_shape h1.row
  obtain ⟨a2, c2, rfl⟩ := row_shape h2.row
  have KEY := hide key
  clear key h1 h2 hf hpre
  have hnn : ¬ ((ps2.length : Int) < (ps1.length : Int)) := by omega
  go_enter Tryz.func19, Tryz.ntmps19
  go_wp2
  go_loopw [7] (fun i wr => ∃ j : Nat, j ≤ ps1.length ∧ i = .int .i64 j ∧ Fr (fun _ => False) w wr (fun _ => False)) (fun i _ => ps1.length - (intOf i).toNat)
  case atStart => exact ⟨0, Nat.zero_le _, rfl, Fr.refl _ _⟩
  case round =>
    obtain ⟨j, hj, rfl, hfr⟩ := hrel
    by_cases hlt : j < ps1.length
    · obtain ⟨g1, k1, g2, k2, fa1, fn1, fc1, fa2, fn2, fc2, x, e1, e2, hk⟩ := unhide KEY j hlt
      injection e1 with e1 _ e3
      injection e2 with e2 _ e4
      subst e1 e2 e3 e4
      obtain ⟨⟨s0, s1, s2, s3⟩, ⟨t0, t1, t2, t3⟩, hc⟩ := hk wr hfr
      have HC := hide (fun W hW => (hk W hW).2.2)
      have HFR := hide hfr
      have hk0 : (0 : Int) ≤ (j : Int) := by omega
      have hk1 : (j : Int) < (ps1.length : Int) := by omega
      have hk2 : (j : Int) < (ps2.length : Int) := by omega
      clear hc hk hfr KEY
      go_wp2_with fail
      go_region_with (go_at_call 34; refine (unhide HC _ (by first | exact unhide HFR | exact (unhide HFR).drew)).mono ?_; rintro e w1 ⟨rfl, f1⟩; have F1 := hide f1; clear f1)
      all_goals
        go_wp2
        go_roundw
        case rel => exact ⟨j + 1, by omega, by go_num, unhide F1⟩
        case measure => simp [intOf]; omega
    · have hk1 : ¬ (j : Int) < (ps1.length : Int) := by omega
      go_wp2
      go_ret
      exact ⟨rfl, hfr⟩
end Go.Proofs.YtfmbebofllgmoaaGreatDoor
namespace Go.Proofs.YtfmbebofllgmoaaGreatDoor
open Go.ChangeShapes Go.WideShapes Go.ChangeAt Go.RowKit Go.Deep

theorem kc70 : Tryz.prog.cellsOf 70 = 3 := by kernel_rfl
theorem kc31 : Tryz.prog.cellsOf 31 = 1 := by kernel_rfl
theorem kc26 : Tryz.prog.cellsOf 26 = 1 := by kernel_rfl
theorem kc29 : Tryz.prog.cellsOf 29 = 4 := by kernel_rfl
theorem kc3 : Tryz.prog.cellsOf 3 = 1 := by kernel_rfl
theorem kb70 : Tryz.prog.bytesOf 70 = 24 := by kernel_rfl
theorem kb31 : Tryz.prog.bytesOf 31 = 24 := by kernel_rfl

/-- Every part of a datum is within the form's own reach. -/
def Kt {H : Type} (t : TypeId) (d : DataW H) : Prop := ∀ n ∈ d.weights Tryz.prog t, n ≤ reachBytes

section
variable {H : Type} {w : World}

theorem kweights_mem {e : TypeId} {d : DataW H} : ∀ {l : List (DataW H)}, d ∈ l → ∀ n ∈ d.weights Tryz.prog e, n ∈ DataW.weightsAll Tryz.prog e l
  | x :: r, h, n, hn => by
    rw [DataW.weightsAll, List.mem_append]
    rcases List.mem_cons.1 h with rfl | h
    · exact .inl hn
    · exact .inr (kweights_mem h n hn)

theorem Kt.len {t e : TypeId} {elems sp : List (DataW H)} (h : Kt t (.slice elems sp)) (hu : Tryz.prog.underlying t = some (.slice e)) : (elems.length + sp.length) * Tryz.prog.bytesOf e ≤ reachBytes :=
  h _ (by simp [DataW.weights, hu])
theorem Kt.elem {t e : TypeId} {elems sp : List (DataW H)} (h : Kt t (.slice elems sp)) (hu : Tryz.prog.underlying t = some (.slice e)) {d : DataW H} (hd : d ∈ elems) : Kt e d := fun n hn =>
  h n (by simp only [DataW.weights, hu, List.mem_cons, List.mem_append]; exact .inr (.inl (kweights_mem hd n hn)))
theorem Kt.field {t : TypeId} {fs : Array Field} {parts : List (DataW H)} (h : Kt t (.agg parts)) (hu : Tryz.prog.underlying t = some (.struct fs)) {j : Nat} {tj : TypeId} {d : DataW H} (hj : (fs.toList.map (·.type))[j]? = some tj) (hd : parts[j]? = some d) : Kt tj d := fun n hn =>
  h n (by simp only [DataW.weights, hu]; exact DataW.weights_mem_each hj hd n hn)

theorem kaddr_of {a : Addr} {n : Nat} {cs : List Value} (h : w.cells? 0 (a.add 0) n = some cs) (hn : 0 < n) : ∃ b off, a = ⟨b, off, none⟩ := by
  obtain ⟨_, hl, hc⟩ := World.cells?_some h
  obtain ⟨b, off, spot⟩ := a
  have h0 := hc 0 hn
  rw [List.getElem?_eq_getElem (by omega)] at h0
  have hspot : spot = none := by simpa [Addr.add] using World.cell?_spot h0
  subst hspot
  exact ⟨b, off, rfl⟩

end

theorem blk_one {H : Type} (d : DataW H) : 1 ≤ Rows.uptoBulk d := by
  cases d with
  | lit l => cases l <;> simp [Rows.uptoBulk]
  | nil => simp [Rows.uptoBulk]
  | ptr d => simp [Rows.uptoBulk]
  | slice elems spare => simp [Rows.uptoBulk]
  | agg parts => simp [Rows.uptoBulk]
  | iface t d => simp [Rows.uptoBulk]
  | map entries => simp [Rows.uptoBulk]
  | held h => simp [Rows.uptoBulk]
theorem blk_part {H : Type} {d : DataW H} {l : List (DataW H)} (h : d ∈ l) : Rows.uptoBulk d ≤ Rows.uptoBulkAll l := by
  induction l with
  | nil => cases h
  | cons x r ih =>
    simp only [Rows.uptoBulkAll]
    cases List.mem_cons.1 h with
    | inl e => subst e; omega
    | inr e => have := ih e; omega
theorem blk_length {H : Type} (l : List (DataW H)) : l.length ≤ Rows.uptoBulkAll l := by
  induction l with
  | nil => simp [Rows.uptoBulkAll]
  | cons x r ih => have := blk_one x; simp only [Rows.uptoBulkAll, List.length_cons]; omega
theorem blk_slice {H : Type} (elems spare : List (DataW H)) : elems.length + spare.length + 1 ≤ Rows.uptoBulk (.slice elems spare) := by
  have h1 := blk_length elems
  have h2 := blk_length spare
  simp only [Rows.uptoBulk]
  omega

section
variable {H : Type} {enc : TypeId × Value → H} {w : World} {spare : Nat → Bool} {held : Bool}

theorem in_wf {z : Int} (hw : (Lit.int .i64 z).wf = true) : inR z := by
  simp [Lit.wf, IntKind.min, IntKind.max, IntKind.bits, IntKind.signed] at hw
  unfold inR
  omega

/-- An operation in memory, its numbers in their kind. -/
theorem kdown_op {fuel : Nat} {cs : List Value} {x : DataW H × List MemPlace} (h : DataW.trod enc Tryz.prog w 0 spare held fuel 70 cs = some x) : ∃ o : O3, cs = [.int .i64 o.1, .int .i64 o.2.1, .int .i64 o.2.2] ∧ In3 o := by
  obtain ⟨y0, y1, y2, n, rfl, hl, h0, h1, h2⟩ := trod_struct3 Tryz.underlying70 h
  rw [kc70] at hl
  simp only [kc3] at h0 h1 h2
  match cs, hl with
  | [c0, c1, c2], _ =>
    obtain ⟨a, e0, _, wa⟩ := DataW.trod_int Tryz.underlying3 h0
    obtain ⟨b, e1, _, wb⟩ := DataW.trod_int Tryz.underlying3 h1
    obtain ⟨c, e2, _, wc⟩ := DataW.trod_int Tryz.underlying3 h2
    simp at e0 e1 e2
    subst e0 e1 e2
    exact ⟨(a, b, c), rfl, in_wf wa, in_wf wb, in_wf wc⟩
/-- A handler in memory. -/
theorem kdown_ops {fuel : Nat} {cs : List Value} {x : DataW H × List MemPlace} (h : DataW.trod enc Tryz.prog w 0 spare held fuel 31 cs = some x) (hw : Kt 31 x.1) : ∃ v n f, cs = [v] ∧ OpsIn w v n f ∧ ∀ i, i < n → In3 (f i) := by
  rcases open_slice Tryz.underlying31 h with ⟨rfl, rfl⟩ | ⟨a, len, cap, m, n, D, Pl, rfl, _, hlc, _, hm, rfl, hx⟩
  · exact ⟨_, 0, fun _ => (0, 0, 0), rfl, ⟨none, 0, rfl, by omega, .inl rfl⟩, fun i hi => absurd hi (Nat.not_lt_zero i)⟩
  have hml : len ≤ m := by rw [hm]; split <;> omega
  have hb := hw.len Tryz.underlying31
  rw [kb70, List.length_map, List.length_range] at hb
  have hb' : len * 24 ≤ 140737488351232 := Nat.le_trans (Nat.mul_le_mul_right 24 (Nat.le_add_right _ _)) hb
  rw [kc70] at hx
  have hall : ∀ i, i < len → ∃ o : O3, w.cells? 0 (a.add (i * 3)) 3 = some [.int .i64 o.1, .int .i64 o.2.1, .int .i64 o.2.2] ∧ In3 o := by
    intro i hi
    obtain ⟨cs', h1, h2⟩ := hx i (by omega)
    obtain ⟨o, rfl, ho⟩ := kdown_op h2
    exact ⟨o, h1, ho⟩
  obtain ⟨f, hf⟩ := choose_lt (α := O3) hall
  refine ⟨_, len, f, rfl, ⟨some a, cap, rfl, hb', ?_⟩, fun i hi => (hf i hi).2⟩
  by_cases h0 : len = 0
  · exact .inl h0
  right
  obtain ⟨b, off, rfl⟩ := kaddr_of (hf 0 (by omega)).1 (by omega)
  refine ⟨b, off, rfl, fun i hi => ?_⟩
  obtain ⟨_, _, hc⟩ := World.cells?_some (hf i hi).1
  rw [Go.WideShapes.add_plain] at hc
  have g0 := hc 0 (by omega)
  have g1 := hc 1 (by omega)
  have g2 := hc 2 (by omega)
  rw [Go.WideShapes.add_plain] at g0 g1 g2
  exact ⟨by simpa using g0, by simpa using g1, by simpa using g2⟩

/-- A list of handlers in memory. -/
theorem kdown_hands {fuel : Nat} {cs : List Value} {x : DataW H × List MemPlace} (h : DataW.trod enc Tryz.prog w 0 spare held fuel 25 cs = some x) (hw : Kt 25 x.1) : ∃ v n l f, cs = [v] ∧ HandsIn w v n l f ∧ ∀ i j, i < n → j < l i → In3 (f i j) := by
  rcases open_slice1 Tryz.underlying25 kc31 h with ⟨rfl, rfl⟩ | ⟨a, len, cap, m, n, V, D, Pl, rfl, _, hlc, _, hm, rfl, hx⟩
  · exact ⟨_, 0, fun _ => 0, fun _ _ => (0, 0, 0), rfl, ⟨none, 0, rfl, by omega, .inl rfl⟩, fun i j hi => absurd hi (Nat.not_lt_zero i)⟩
  have hml : len ≤ m := by rw [hm]; split <;> omega
  have hb := hw.len Tryz.underlying25
  rw [kb31, List.length_map, List.length_range] at hb
  have hb' : len * 24 ≤ 140737488351232 := Nat.le_trans (Nat.mul_le_mul_right 24 (Nat.le_add_right _ _)) hb
  have hall : ∀ i, i < len → ∃ p : Nat × (Nat → O3), OpsIn w (V i) p.1 p.2 ∧ ∀ j, j < p.1 → In3 (p.2 j) := by
    intro i hi
    obtain ⟨_, h2⟩ := hx i (by omega)
    have hwi : Kt 31 (D i) := hw.elem Tryz.underlying25 (List.mem_map.2 ⟨i, List.mem_range.2 hi, rfl⟩)
    obtain ⟨v, k, f, e, ho, h3⟩ := kdown_ops h2 hwi
    simp only [List.cons.injEq, and_true] at e
    subst e
    exact ⟨(k, f), ho, h3⟩
  obtain ⟨p, hp⟩ := choose_lt (α := Nat × (Nat → O3)) hall
  refine ⟨_, len, fun i => (p i).1, fun i => (p i).2, rfl, ⟨some a, cap, rfl, hb', ?_⟩, fun i j hi hj => (hp i hi).2 j hj⟩
  by_cases h0 : len = 0
  · exact .inl h0
  right
  obtain ⟨b, off, spot⟩ := a
  have hspot : spot = none := by simpa [Addr.add] using World.cell?_spot (hx 0 (by omega)).1
  subst hspot
  refine ⟨b, off, rfl, fun i hi => ⟨V i, ?_, (hp i hi).1⟩⟩
  rw [← Go.WideShapes.add_plain]
  exact (hx i (by omega)).1

/-- A list of integers in memory. -/
theorem kdown_ints {fuel : Nat} {cs : List Value} {x : DataW H × List MemPlace} (h : DataW.trod enc Tryz.prog w 0 spare held fuel 26 cs = some x) :
    ∃ v l, cs = [v] ∧ IntsIn w v l (fun q => q < w.heap.size) ∧ rng l ∧ l.length ≤ Rows.uptoBulk x.1 := by
  rcases open_slice Tryz.underlying26 h with ⟨rfl, rfl⟩ | ⟨a, len, cap, m, n, D, Pl, rfl, _, hlc, _, hm, rfl, hx⟩
  · exact ⟨_, [], rfl, ⟨none, 0, rfl, .inl rfl⟩, fun j => by simp, Nat.zero_le _⟩
  have hml : len ≤ m := by rw [hm]; split <;> omega
  rw [kc3] at hx
  have hall : ∀ i, i < len → ∃ z : Int, w.cells? 0 (a.add (i * 1)) 1 = some [.int .i64 z] ∧ -9223372036854775808 ≤ z ∧ z ≤ 9223372036854775807 := by
    intro i hi
    obtain ⟨cs', h1, h2⟩ := hx i (by omega)
    obtain ⟨z, rfl, _, hw⟩ := DataW.trod_int Tryz.underlying3 h2
    exact ⟨z, h1, in_wf hw⟩
  obtain ⟨f, hf⟩ := choose_lt (α := Int) hall
  refine ⟨_, (List.range len).map f, rfl, ⟨some a, cap, by simp, ?_⟩, fun j => ?_, ?_⟩
  · by_cases h0 : len = 0
    · left; subst h0; rfl
    right
    obtain ⟨b, off, rfl⟩ := kaddr_of (hf 0 (by omega)).1 (by omega)
    have key : ∀ i, i < len → w.cell? ⟨b, off + i, none⟩ = some (.int .i64 (f i)) := fun i hi => by
      obtain ⟨_, _, hc⟩ := World.cells?_some (hf i hi).1
      rw [Go.WideShapes.add_plain] at hc
      have g0 := hc 0 (by omega)
      rw [Go.WideShapes.add_plain] at g0
      simpa using g0
    refine ⟨b, off, rfl, World.block_lt_of_cell? w _ (key 0 (by omega)), fun i hi => ?_⟩
    have hi' : i < len := by simpa using hi
    rw [key i hi']
    simp [List.getD, hi']
  · by_cases hj : j < len
    · have := (hf j hj).2
      simpa [List.getD, hj] using this
    · simp [List.getD, hj]
  · have h1 := blk_slice ((List.range len).map D) ((List.range (m - len)).map fun j => D (len + j))
    simp only [List.length_map, List.length_range] at h1 ⊢
    omega

/-- A list of batches in memory. -/
theorem kdown_batches {fuel : Nat} {cs : List Value} {x : DataW H × List MemPlace} (h : DataW.trod enc Tryz.prog w 0 spare held fuel 27 cs = some x) :
    ∃ v, ∃ l : List Br, cs = [v] ∧ ValsIn w v (l.map (·.1)) (fun q => q < w.heap.size) ∧ (∀ b, b ∈ l → IntsIn w b.1 b.2 (fun q => q < w.heap.size)) ∧ ∀ b, b ∈ l → rng b.2 := by
  rcases open_slice1 Tryz.underlying27 kc26 h with ⟨rfl, rfl⟩ | ⟨a, len, cap, m, n, V, D, Pl, rfl, _, hlc, _, hm, rfl, hx⟩
  · exact ⟨_, [], rfl, ⟨none, 0, rfl, .inl rfl⟩, fun b hb => (List.not_mem_nil hb).elim, fun b hb => (List.not_mem_nil hb).elim⟩
  have hml : len ≤ m := by rw [hm]; split <;> omega
  have hall : ∀ i, i < len → ∃ l : List Int, IntsIn w (V i) l (fun q => q < w.heap.size) ∧ rng l := by
    intro i hi
    obtain ⟨_, h2⟩ := hx i (by omega)
    obtain ⟨v, l, e, ho, h3, _⟩ := kdown_ints h2
    simp only [List.cons.injEq, and_true] at e
    subst e
    exact ⟨l, ho, h3⟩
  obtain ⟨L, hL⟩ := choose_lt (α := List Int) hall
  refine ⟨_, (List.range len).map (fun i => (V i, L i)), rfl, ⟨some a, cap, by simp, ?_⟩, fun b hb => ?_, fun b hb => ?_⟩
  · by_cases h0 : len = 0
    · left; subst h0; rfl
    right
    obtain ⟨b, off, spot⟩ := a
    have hspot : spot = none := by simpa [Addr.add] using World.cell?_spot (hx 0 (by omega)).1
    subst hspot
    have key : ∀ i, i < len → w.cell? ⟨b, off + i, none⟩ = some (V i) := fun i hi => by
      rw [← Go.WideShapes.add_plain]
      exact (hx i (by omega)).1
    refine ⟨b, off, rfl, World.block_lt_of_cell? w _ (key 0 (by omega)), fun i hi => ?_⟩
    have hi' : i < len := by simpa using hi
    rw [key i hi']
    simp [List.getD, hi']
  · obtain ⟨i, hi, rfl⟩ := List.mem_map.1 hb
    exact (hL i (List.mem_range.1 hi)).1
  · obtain ⟨i, hi, rfl⟩ := List.mem_map.1 hb
    exact (hL i (List.mem_range.1 hi)).2

set_option maxRecDepth 100000 in
/-- A raw world in memory. -/
theorem kdown_world {r : Reach} {b0 : Nat} {v : Value} {d : DataW H} {p : List MemPlace} (hv : Value.okWide Tryz.prog w r b0 29 v) (h : DataW.Trod enc Tryz.prog w 0 spare held 29 v d p) :
    ∃ q0 q1 q2 q3, ∃ raw lp ll : List Int, ∃ rb : List Br, v = .agg #[q0, q1, q2, q3] ∧ IntsIn w q0 raw (fun q => q < w.heap.size) ∧ ValsIn w q1 (rb.map (·.1)) (fun q => q < w.heap.size) ∧ (∀ b, b ∈ rb → IntsIn w b.1 b.2 (fun q => q < w.heap.size)) ∧
      IntsIn w q2 lp (fun q => q < w.heap.size) ∧ IntsIn w q3 ll (fun q => q < w.heap.size) ∧ rng raw ∧ (∀ b, b ∈ rb → rng b.2) ∧ lp.length + ll.length ≤ Rows.uptoBulk d := by
  obtain ⟨q0, q1, q2, q3, y0, y1, y2, y3, n, rfl, rfl, rfl, t0, t1, t2, t3⟩ := Go.Joins.open_agg4 Tryz.underlying29 (by kernel_rfl) kc29 hv h
  obtain ⟨u0, raw, e0, i0, r0, _⟩ := kdown_ints t0
  obtain ⟨u1, rb, e1, i1, i1b, r1⟩ := kdown_batches t1
  obtain ⟨u2, lp, e2, i2, _, k2⟩ := kdown_ints t2
  obtain ⟨u3, ll, e3, i3, _, k3⟩ := kdown_ints t3
  simp only [List.cons.injEq, and_true] at e0 e1 e2 e3
  subst e0 e1 e2 e3
  refine ⟨_, _, _, _, raw, lp, ll, rb, rfl, i0, i1, i1b, i2, i3, r0, r1, ?_⟩
  have e : Rows.uptoBulk (DataW.agg [y0.1, y1.1, y2.1, y3.1]) = Rows.uptoBulkAll [y0.1, y1.1, y2.1, y3.1] + 1 := by simp only [Rows.uptoBulk]; try omega
  rw [e]
  simp only [Rows.uptoBulkAll]
  omega
end
theorem kown : ownKnob Tryz.prog.godebug = none := by kernel_rfl
theorem kTab : Tryz.prog.globalNamed "rerun/check.meanings" = some 0 := by kernel_rfl
theorem kTabType : (Tryz.prog.globals[0]?).map (·.type) = some 165 := by kernel_rfl
theorem kc164 : Tryz.prog.cellsOf 164 = 2 := by kernel_rfl

/-- What the row's list gives: the table's cells hold its numbers. -/
theorem ktab_in {W : World} (h : laidMet Tryz.prog [("rerun/check.meanings", Rows.laid_rerun_check_meanings)] W) : TabIn W := by
  obtain ⟨ps, ⟨g', t', cs, fuel, p, q, hg', ht', hvar, hd, _, _⟩, _⟩ := h
  obtain rfl := Option.some.inj (kTab.symm.trans hg')
  obtain rfl := Option.some.inj (kTabType.symm.trans ht')
  obtain ⟨xs, m, _, hx, _, hl, hi⟩ := DataW.trod_array Tryz.underlying165 hd
  have hx1 : Rows.laid_rerun_check_meanings = .agg (xs.map (·.1)) := (Prod.mk.inj hx).1
  have hx2 : xs.map (·.1) = _ := (DataW.agg.inj hx1).symm
  have entry : ∀ (i : Nat) (a b : Int), i < 12 → (xs.map (·.1))[i]? = some (.agg [.lit (.int .i64 a), .lit (.int .i64 b)]) → W.cell? ⟨0, i * 2, none⟩ = some (.int .i64 a) ∧ W.cell? ⟨0, i * 2 + 1, none⟩ = some (.int .i64 b) := by
    intro i a b hlt he
    have hi' := hi i hlt
    rw [kc164] at hi'
    obtain ⟨x, hxi⟩ : ∃ x, xs[i]? = some x := ⟨_, List.getElem?_eq_getElem (by omega)⟩
    rw [hxi] at hi'
    rw [List.getElem?_map, hxi] at he
    simp only [Option.map_some, Option.some.injEq] at he
    obtain ⟨y0, y1, n, hy, _, h0, h1⟩ := trod_struct2 Tryz.underlying164 hi'
    rw [hy] at he
    simp only [kc3] at h0 h1
    obtain ⟨a', e0, r0, _⟩ := DataW.trod_int Tryz.underlying3 h0
    obtain ⟨b', e1, r1, _⟩ := DataW.trod_int Tryz.underlying3 h1
    rw [r0, r1] at he
    simp only [DataW.agg.injEq, List.cons.injEq, DataW.lit.injEq, Lit.int.injEq, true_and, and_true] at he
    obtain ⟨rfl, rfl⟩ := he
    rw [World.var?_cell kTab hvar, World.var?_cell kTab hvar]
    have q0 := congrArg (·[0]?) e0
    have q1 := congrArg (·[0]?) e1
    simp [List.getElem?_drop] at q0 q1
    exact ⟨by simpa using q0, by simpa using q1⟩
  rw [hx2] at entry
  intro c h1 h2
  have hc : c = 1 ∨ c = 2 ∨ c = 3 ∨ c = 4 ∨ c = 5 ∨ c = 6 ∨ c = 7 ∨ c = 8 ∨ c = 9 ∨ c = 10 ∨ c = 11 := by omega
  rcases hc with rfl | rfl | rfl | rfl | rfl | rfl | rfl | rfl | rfl | rfl | rfl
  · exact entry 1 1 0 (by omega) rfl
  · exact entry 2 1 1 (by omega) rfl
  · exact entry 3 2 1 (by omega) rfl
  · exact entry 4 2 0 (by omega) rfl
  · exact entry 5 3 0 (by omega) rfl
  · exact entry 6 3 0 (by omega) rfl
  · exact entry 7 1 0 (by omega) rfl
  · exact entry 8 1 4 (by omega) rfl
  · exact entry 9 1 0 (by omega) rfl
  · exact entry 10 1 0 (by omega) rfl
  · exact entry 11 0 0 (by omega) rfl

end Go.Proofs.YtfmbebofllgmoaaGreatDoor
