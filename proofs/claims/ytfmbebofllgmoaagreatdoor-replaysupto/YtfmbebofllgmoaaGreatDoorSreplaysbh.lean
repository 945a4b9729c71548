/-
  PROVED HERE: the document's final, and its fuel. lists of one unit over and over: what an append to an own one leaves. writing units over an own list. keepEvents writes its marks and keeps the Book. one step of kind KRead of a script is as the document says. the document's list of inputs is a source that keeps its word: it answers as the replayer's does. the document's hear over a list of inputs, where it ends the run. the document's hear over a list of inputs, where another is to be heard. the document's hear over a list of inputs, where the next one is heard. the document's hear over a list of inputs, where the next one is heard. the document's list of inputs is a source that keeps its word: it answers as the replayer's does.
-/
import Derived.Test.YtfmbebofllgmoaaGreatDoorProg
import Derived.WalkKit
import Derived.WalkSpells
import Derived.WalkLawsBesides
import Derived.Deep.QuietTactic
import Derived.BigQuiet
import Derived.Deep.RegionHeld3
import Derived.Deep.AppendLies
import Derived.Laws.EntriesVeiled
import Derived.Deep.DrawnRows
import Derived.BigRegion
import Derived.Deep.LoopGhost
import Derived.Deep.MidRow
import Derived.Shelf.SlSortCmp.SmallK
import Derived.Shelf.SlicesG.Cmp
import Derived.Shelf.Small.Bits
import Derived.Deep.RegionLaw
import Derived.Lib.SliceRun
import Derived.Laws.StructEq
import Derived.Laws.BytesString
import Derived.ArgAppend
import Derived.Deep.DeepCutAuto
import Derived.Conc.LoneCalls
import Derived.Calls
import Derived.Tactics
import Derived.KernelRfl
import Derived.Laws.Rows
import Derived.Lib.SlBytesConst
import Derived.Laws.BitsAllLaws
import Derived.RangeFuncOwn
import Derived.Laws.IdiomStrings
import Derived.RangeFuncNested
import Derived.RangeFuncBound
import Derived.RangeFuncCalls
import Derived.RangeFuncLeaves
import Derived.Shelf.RegionOpen
import Derived.OwnWalkIn
import Derived.TacticsInMore
import Derived.Maps.OwnIn
import Derived.Maps.AppendAt
import Derived.LoopNIn
import Derived.LoopIn
import Derived.ChangeKeysEq
import Derived.Deep.DeepAppendRoom
import Derived.Test.YtfmbebofllgmoaaGreatDoorSreplaysbf
namespace Go.Proofs.YtfmbebofllgmoaaGreatDoor
open Go.RowKit
attribute [local go_sem ↓] Go.wp_at_zero Go.wp_at_succ

theorem fuelledQ_any (f : Int) (w : World) : Calls Tryz.prog 106 #[.int .i64 f] w fun e w' => e = .returned (.int .i64 (min (max f 0) 5000)) ∧ w' = w := by
  go_enter Tryz.func106, Tryz.ntmps106
  go_wp2
  go_ret
  exact ⟨rfl, rfl⟩
section
variable {σ : Type} {SQ : (Nat → Value) → (Nat → Prop) → World → σ → Prop} {B : Nat} {S T : Nat → Prop} {w : World} {b : Nat} {pv : Nat → Value} {vt va : Value} {s : PS} {A : List AT} {tn sq : Int} {x : σ}
set_option maxHeartbeats 4000000 in
set_option maxRecDepth 20000 in
theorem finalQ_any (h : LQ SQ B S w b pv vt va T s A tn sq x) : Calls Tryz.prog 109 #[.pointer (some ⟨b, 0, none⟩)] w fun e w' => e = .returned (finV s) ∧ Fr (fun _ => False) w w' (fun _ => False) := by
  have hb := h.blt
  obtain ⟨ha, hn, hc, hp9, hnh⟩ := h.hc
  have c27 := (h.cell 27 (by omega)).trans (by rw [limg_fin])
  have c14 := (h.cell 14 (by omega)).trans (by rw [limg_clock])
  have c9 := (h.cell 9 (by omega)).trans (by rw [limg_pv _ _ _ _ _ _ (by omega), hp9])
  have cr : ∀ i, i < 4 → w.cell? ⟨b, 10 + i, none⟩ = some (.int .i64 (s.reg i)) := fun i hi => (h.cell (10 + i) (by omega)).trans (by rw [limg_reg _ _ _ _ _ _ hi])
  have c10 := cr 0 (by omega)
  have c11 := cr 1 (by omega)
  have c12 := cr 2 (by omega)
  have c13 := cr 3 (by omega)
  have nb := heap_alloc_new w (.cells #[.int .i64 0, .int .i64 0, .int .i64 0, .int .i64 0, .int .i64 0, .int .i64 0, .int .i64 0] 37)
  have kb := Below.heap_alloc w (.cells #[.int .i64 0, .int .i64 0, .int .i64 0, .int .i64 0, .int .i64 0, .int .i64 0, .int .i64 0] 37) b hb
  have fr := (Fr.refl (fun _ => False) w).alloc (.cells #[.int .i64 0, .int .i64 0, .int .i64 0, .int .i64 0, .int .i64 0, .int .i64 0, .int .i64 0] 37)
  have hne : b ≠ w.heap.size := by omega
  have hne' : ¬ w.heap.size = b := by omega
  have NB := hide nb
  have KB := hide kb
  have FR := hide fr
  clear h cr nb kb fr
  go_enter Tryz.func109, Tryz.ntmps109
  go_wp2
  generalize hW : w.alloc (.cells #[.int .i64 0, .int .i64 0, .int .i64 0, .int .i64 0, .int .i64 0, .int .i64 0, .int .i64 0] 37) = W at *
  clear hW
  have nz := fun j => frozen_rowE (unhide NB) j
  have nk := fun j => cell_of_row W _ j _ 37 (0, 0) (unhide NB)
  have hwl := (Array.getElem?_eq_some_iff.1 (unhide NB)).1
  have st : ∀ (V : World) (j : Nat) (u : Value), V.heap[b]? = w.heap[b]? → (V.setCell ⟨w.heap.size, j, none⟩ u).heap[b]? = w.heap[b]? := fun V j u hv => (Below.heap_setCell _ _ _ _ hne).trans hv
  have dr : ∀ (V : World), V.heap[b]? = w.heap[b]? → V.drew.heap[b]? = w.heap[b]? := fun V hv => hv
  have dy : ∀ (V : World) (o : Obj), V.heap[w.heap.size]? = some o → V.drew.heap[w.heap.size]? = some o := fun V o hv => hv
  have hs7 : (((((((W.setCell ⟨w.heap.size, 0, none⟩ (.int .i64 s.fin)).setCell ⟨w.heap.size, 1, none⟩ (.int .i64 (s.reg 0))).setCell ⟨w.heap.size, 2, none⟩ (.int .i64 (s.reg 1))).setCell ⟨w.heap.size, 3, none⟩ (.int .i64 (s.reg 2))).setCell ⟨w.heap.size, 4, none⟩ (.int .i64 (s.reg 3))).setCell ⟨w.heap.size, 5, none⟩ (.int .i64 s.clock)).setCell ⟨w.heap.size, 6, none⟩ (.int .i64 s.heard)).drew.heap[b]? = w.heap[b]? := dr _ (st _ _ _ (st _ _ _ (st _ _ _ (st _ _ _ (st _ _ _ (st _ _ _ (st _ _ _ (unhide KB))))))))
  have hy7 : (((((((W.setCell ⟨w.heap.size, 0, none⟩ (.int .i64 s.fin)).setCell ⟨w.heap.size, 1, none⟩ (.int .i64 (s.reg 0))).setCell ⟨w.heap.size, 2, none⟩ (.int .i64 (s.reg 1))).setCell ⟨w.heap.size, 3, none⟩ (.int .i64 (s.reg 2))).setCell ⟨w.heap.size, 4, none⟩ (.int .i64 (s.reg 3))).setCell ⟨w.heap.size, 5, none⟩ (.int .i64 s.clock)).setCell ⟨w.heap.size, 6, none⟩ (.int .i64 s.heard)).drew.heap[w.heap.size]? = some (.cells #[.int .i64 s.fin, .int .i64 (s.reg 0), .int .i64 (s.reg 1), .int .i64 (s.reg 2), .int .i64 (s.reg 3), .int .i64 s.clock, .int .i64 s.heard] 37) := dy _ _ (out7 (unhide NB) _ _ _ _ _ _ _)
  have hf7 : Fr (fun _ => False) w (((((((W.setCell ⟨w.heap.size, 0, none⟩ (.int .i64 s.fin)).setCell ⟨w.heap.size, 1, none⟩ (.int .i64 (s.reg 0))).setCell ⟨w.heap.size, 2, none⟩ (.int .i64 (s.reg 1))).setCell ⟨w.heap.size, 3, none⟩ (.int .i64 (s.reg 2))).setCell ⟨w.heap.size, 4, none⟩ (.int .i64 (s.reg 3))).setCell ⟨w.heap.size, 5, none⟩ (.int .i64 s.clock)).setCell ⟨w.heap.size, 6, none⟩ (.int .i64 s.heard)).drew (fun _ => False) := ((((((((unhide FR).setCell ⟨w.heap.size, 0, none⟩ (.int .i64 s.fin) (.inr (Nat.le_refl _))).setCell ⟨w.heap.size, 1, none⟩ (.int .i64 (s.reg 0)) (.inr (Nat.le_refl _))).setCell ⟨w.heap.size, 2, none⟩ (.int .i64 (s.reg 1)) (.inr (Nat.le_refl _))).setCell ⟨w.heap.size, 3, none⟩ (.int .i64 (s.reg 2)) (.inr (Nat.le_refl _))).setCell ⟨w.heap.size, 4, none⟩ (.int .i64 (s.reg 3)) (.inr (Nat.le_refl _))).setCell ⟨w.heap.size, 5, none⟩ (.int .i64 s.clock) (.inr (Nat.le_refl _))).setCell ⟨w.heap.size, 6, none⟩ (.int .i64 s.heard) (.inr (Nat.le_refl _))).drew
  have HS7 := hide hs7
  have HY7 := hide hy7
  have HF7 := hide hf7
  clear st dr dy hs7 hy7 hf7
  refine wp_region_held_drew (S := fun w' => w'.heap[b]? = w.heap[b]?) (by kernel_rfl) ?_ (fun hHeld => ?_)
  · exact unhide KB
  refine wpAnyH_take (i := 0) (oi := { dst := some 3, op := Op.move (Operand.tmp 0), type := 177, pos := "run.go:336", after := #[], guard := none }) (v := ?_) rfl (by kernel_rfl) (by kernel_rfl) (by kernel_rfl) (fun _ _ _ h => h) (Or.inl ⟨by rfl, ?_⟩) (by assumption) ?_
  rotate_left
  · intro w' hSw; have k27 := (World.cell?_of_block (w := w) (a := ⟨b, 27, none⟩) hSw).trans c27; have k14 := (World.cell?_of_block (w := w) (a := ⟨b, 14, none⟩) hSw).trans c14; have k9 := (World.cell?_of_block (w := w) (a := ⟨b, 9, none⟩) hSw).trans c9; have k10 := (World.cell?_of_block (w := w) (a := ⟨b, 10, none⟩) hSw).trans c10; have k11 := (World.cell?_of_block (w := w) (a := ⟨b, 11, none⟩) hSw).trans c11; have k12 := (World.cell?_of_block (w := w) (a := ⟨b, 12, none⟩) hSw).trans c12; have k13 := (World.cell?_of_block (w := w) (a := ⟨b, 13, none⟩) hSw).trans c13; go_simp; try with_reducible rfl
  simp only [Act.put, List.setIfInBounds_toArray, List.set_cons_zero, List.set_cons_succ]
  refine wpAnyH_take (i := 1) (oi := { dst := some 4, op := Op.nilCheck (Operand.tmp 3), type := 0, pos := "run.go:336", after := #[{ on := 0, ground := Ground.data }], guard := none }) (v := ?_) rfl (by kernel_rfl) (by kernel_rfl) (by kernel_rfl) (fun _ _ _ h => h) (Or.inl ⟨by rfl, ?_⟩) (by assumption) ?_
  rotate_left
  · intro w' hSw; have k27 := (World.cell?_of_block (w := w) (a := ⟨b, 27, none⟩) hSw).trans c27; have k14 := (World.cell?_of_block (w := w) (a := ⟨b, 14, none⟩) hSw).trans c14; have k9 := (World.cell?_of_block (w := w) (a := ⟨b, 9, none⟩) hSw).trans c9; have k10 := (World.cell?_of_block (w := w) (a := ⟨b, 10, none⟩) hSw).trans c10; have k11 := (World.cell?_of_block (w := w) (a := ⟨b, 11, none⟩) hSw).trans c11; have k12 := (World.cell?_of_block (w := w) (a := ⟨b, 12, none⟩) hSw).trans c12; have k13 := (World.cell?_of_block (w := w) (a := ⟨b, 13, none⟩) hSw).trans c13; go_simp; try with_reducible rfl
  simp only [Act.put, List.setIfInBounds_toArray, List.set_cons_zero, List.set_cons_succ]
  refine wpAnyH_take (i := 2) (oi := { dst := some 5, op := Op.fieldAddr 180 (Operand.tmp 4) 12, type := 0, pos := "run.go:336", after := #[{ on := 1, ground := Ground.data }], guard := none }) (v := ?_) rfl (by kernel_rfl) (by kernel_rfl) (by kernel_rfl) (fun _ _ _ h => h) (Or.inl ⟨by rfl, ?_⟩) (by assumption) ?_
  rotate_left
  · intro w' hSw; have k27 := (World.cell?_of_block (w := w) (a := ⟨b, 27, none⟩) hSw).trans c27; have k14 := (World.cell?_of_block (w := w) (a := ⟨b, 14, none⟩) hSw).trans c14; have k9 := (World.cell?_of_block (w := w) (a := ⟨b, 9, none⟩) hSw).trans c9; have k10 := (World.cell?_of_block (w := w) (a := ⟨b, 10, none⟩) hSw).trans c10; have k11 := (World.cell?_of_block (w := w) (a := ⟨b, 11, none⟩) hSw).trans c11; have k12 := (World.cell?_of_block (w := w) (a := ⟨b, 12, none⟩) hSw).trans c12; have k13 := (World.cell?_of_block (w := w) (a := ⟨b, 13, none⟩) hSw).trans c13; go_simp; try with_reducible rfl
  simp only [Act.put, List.setIfInBounds_toArray, List.set_cons_zero, List.set_cons_succ]
  refine wpAnyH_take (i := 3) (oi := { dst := some 6, op := Op.load 3 (Operand.tmp 5), type := 3, pos := "run.go:336", after := #[{ on := 2, ground := Ground.data }], guard := none }) (v := ?_) rfl (by kernel_rfl) (by kernel_rfl) (by kernel_rfl) (fun _ _ _ h => h) (Or.inl ⟨by rfl, ?_⟩) (by assumption) ?_
  rotate_left
  · intro w' hSw; have k27 := (World.cell?_of_block (w := w) (a := ⟨b, 27, none⟩) hSw).trans c27; have k14 := (World.cell?_of_block (w := w) (a := ⟨b, 14, none⟩) hSw).trans c14; have k9 := (World.cell?_of_block (w := w) (a := ⟨b, 9, none⟩) hSw).trans c9; have k10 := (World.cell?_of_block (w := w) (a := ⟨b, 10, none⟩) hSw).trans c10; have k11 := (World.cell?_of_block (w := w) (a := ⟨b, 11, none⟩) hSw).trans c11; have k12 := (World.cell?_of_block (w := w) (a := ⟨b, 12, none⟩) hSw).trans c12; have k13 := (World.cell?_of_block (w := w) (a := ⟨b, 13, none⟩) hSw).trans c13; go_simp; try with_reducible rfl
  simp only [Act.put, List.setIfInBounds_toArray, List.set_cons_zero, List.set_cons_succ]
  refine wpAnyH_take (i := 4) (oi := { dst := some 7, op := Op.move (Operand.tmp 0), type := 177, pos := "run.go:336", after := #[], guard := none }) (v := ?_) rfl (by kernel_rfl) (by kernel_rfl) (by kernel_rfl) (fun _ _ _ h => h) (Or.inl ⟨by rfl, ?_⟩) (by assumption) ?_
  rotate_left
  · intro w' hSw; have k27 := (World.cell?_of_block (w := w) (a := ⟨b, 27, none⟩) hSw).trans c27; have k14 := (World.cell?_of_block (w := w) (a := ⟨b, 14, none⟩) hSw).trans c14; have k9 := (World.cell?_of_block (w := w) (a := ⟨b, 9, none⟩) hSw).trans c9; have k10 := (World.cell?_of_block (w := w) (a := ⟨b, 10, none⟩) hSw).trans c10; have k11 := (World.cell?_of_block (w := w) (a := ⟨b, 11, none⟩) hSw).trans c11; have k12 := (World.cell?_of_block (w := w) (a := ⟨b, 12, none⟩) hSw).trans c12; have k13 := (World.cell?_of_block (w := w) (a := ⟨b, 13, none⟩) hSw).trans c13; go_simp; try with_reducible rfl
  simp only [Act.put, List.setIfInBounds_toArray, List.set_cons_zero, List.set_cons_succ]
  refine wpAnyH_take (i := 5) (oi := { dst := some 8, op := Op.nilCheck (Operand.tmp 7), type := 0, pos := "run.go:336", after := #[{ on := 4, ground := Ground.data }], guard := none }) (v := ?_) rfl (by kernel_rfl) (by kernel_rfl) (by kernel_rfl) (fun _ _ _ h => h) (Or.inl ⟨by rfl, ?_⟩) (by assumption) ?_
  rotate_left
  · intro w' hSw; have k27 := (World.cell?_of_block (w := w) (a := ⟨b, 27, none⟩) hSw).trans c27; have k14 := (World.cell?_of_block (w := w) (a := ⟨b, 14, none⟩) hSw).trans c14; have k9 := (World.cell?_of_block (w := w) (a := ⟨b, 9, none⟩) hSw).trans c9; have k10 := (World.cell?_of_block (w := w) (a := ⟨b, 10, none⟩) hSw).trans c10; have k11 := (World.cell?_of_block (w := w) (a := ⟨b, 11, none⟩) hSw).trans c11; have k12 := (World.cell?_of_block (w := w) (a := ⟨b, 12, none⟩) hSw).trans c12; have k13 := (World.cell?_of_block (w := w) (a := ⟨b, 13, none⟩) hSw).trans c13; go_simp; try with_reducible rfl
  simp only [Act.put, List.setIfInBounds_toArray, List.set_cons_zero, List.set_cons_succ]
  refine wpAnyH_take (i := 6) (oi := { dst := some 9, op := Op.fieldAddr 180 (Operand.tmp 8) 5, type := 0, pos := "run.go:336", after := #[{ on := 5, ground := Ground.data }], guard := none }) (v := ?_) rfl (by kernel_rfl) (by kernel_rfl) (by kernel_rfl) (fun _ _ _ h => h) (Or.inl ⟨by rfl, ?_⟩) (by assumption) ?_
  rotate_left
  · intro w' hSw; have k27 := (World.cell?_of_block (w := w) (a := ⟨b, 27, none⟩) hSw).trans c27; have k14 := (World.cell?_of_block (w := w) (a := ⟨b, 14, none⟩) hSw).trans c14; have k9 := (World.cell?_of_block (w := w) (a := ⟨b, 9, none⟩) hSw).trans c9; have k10 := (World.cell?_of_block (w := w) (a := ⟨b, 10, none⟩) hSw).trans c10; have k11 := (World.cell?_of_block (w := w) (a := ⟨b, 11, none⟩) hSw).trans c11; have k12 := (World.cell?_of_block (w := w) (a := ⟨b, 12, none⟩) hSw).trans c12; have k13 := (World.cell?_of_block (w := w) (a := ⟨b, 13, none⟩) hSw).trans c13; go_simp; try with_reducible rfl
  simp only [Act.put, List.setIfInBounds_toArray, List.set_cons_zero, List.set_cons_succ]
  refine wpAnyH_take (i := 7) (oi := { dst := some 10, op := Op.load 35 (Operand.tmp 9), type := 35, pos := "run.go:336", after := #[{ on := 6, ground := Ground.data }], guard := none }) (v := ?_) rfl (by kernel_rfl) (by kernel_rfl) (by kernel_rfl) (fun _ _ _ h => h) (Or.inl ⟨by rfl, ?_⟩) (by assumption) ?_
  rotate_left
  · intro w' hSw; have k27 := (World.cell?_of_block (w := w) (a := ⟨b, 27, none⟩) hSw).trans c27; have k14 := (World.cell?_of_block (w := w) (a := ⟨b, 14, none⟩) hSw).trans c14; have k9 := (World.cell?_of_block (w := w) (a := ⟨b, 9, none⟩) hSw).trans c9; have k10 := (World.cell?_of_block (w := w) (a := ⟨b, 10, none⟩) hSw).trans c10; have k11 := (World.cell?_of_block (w := w) (a := ⟨b, 11, none⟩) hSw).trans c11; have k12 := (World.cell?_of_block (w := w) (a := ⟨b, 12, none⟩) hSw).trans c12; have k13 := (World.cell?_of_block (w := w) (a := ⟨b, 13, none⟩) hSw).trans c13; go_simp; try with_reducible rfl
  simp only [Act.put, List.setIfInBounds_toArray, List.set_cons_zero, List.set_cons_succ]
  refine wpAnyH_take (i := 8) (oi := { dst := some 11, op := Op.move (Operand.tmp 0), type := 177, pos := "run.go:336", after := #[], guard := none }) (v := ?_) rfl (by kernel_rfl) (by kernel_rfl) (by kernel_rfl) (fun _ _ _ h => h) (Or.inl ⟨by rfl, ?_⟩) (by assumption) ?_
  rotate_left
  · intro w' hSw; have k27 := (World.cell?_of_block (w := w) (a := ⟨b, 27, none⟩) hSw).trans c27; have k14 := (World.cell?_of_block (w := w) (a := ⟨b, 14, none⟩) hSw).trans c14; have k9 := (World.cell?_of_block (w := w) (a := ⟨b, 9, none⟩) hSw).trans c9; have k10 := (World.cell?_of_block (w := w) (a := ⟨b, 10, none⟩) hSw).trans c10; have k11 := (World.cell?_of_block (w := w) (a := ⟨b, 11, none⟩) hSw).trans c11; have k12 := (World.cell?_of_block (w := w) (a := ⟨b, 12, none⟩) hSw).trans c12; have k13 := (World.cell?_of_block (w := w) (a := ⟨b, 13, none⟩) hSw).trans c13; go_simp; try with_reducible rfl
  simp only [Act.put, List.setIfInBounds_toArray, List.set_cons_zero, List.set_cons_succ]
  refine wpAnyH_take (i := 9) (oi := { dst := some 12, op := Op.nilCheck (Operand.tmp 11), type := 0, pos := "run.go:336", after := #[{ on := 8, ground := Ground.data }], guard := none }) (v := ?_) rfl (by kernel_rfl) (by kernel_rfl) (by kernel_rfl) (fun _ _ _ h => h) (Or.inl ⟨by rfl, ?_⟩) (by assumption) ?_
  rotate_left
  · intro w' hSw; have k27 := (World.cell?_of_block (w := w) (a := ⟨b, 27, none⟩) hSw).trans c27; have k14 := (World.cell?_of_block (w := w) (a := ⟨b, 14, none⟩) hSw).trans c14; have k9 := (World.cell?_of_block (w := w) (a := ⟨b, 9, none⟩) hSw).trans c9; have k10 := (World.cell?_of_block (w := w) (a := ⟨b, 10, none⟩) hSw).trans c10; have k11 := (World.cell?_of_block (w := w) (a := ⟨b, 11, none⟩) hSw).trans c11; have k12 := (World.cell?_of_block (w := w) (a := ⟨b, 12, none⟩) hSw).trans c12; have k13 := (World.cell?_of_block (w := w) (a := ⟨b, 13, none⟩) hSw).trans c13; go_simp; try with_reducible rfl
  simp only [Act.put, List.setIfInBounds_toArray, List.set_cons_zero, List.set_cons_succ]
  refine wpAnyH_take (i := 10) (oi := { dst := some 13, op := Op.fieldAddr 180 (Operand.tmp 12) 6, type := 0, pos := "run.go:336", after := #[{ on := 9, ground := Ground.data }], guard := none }) (v := ?_) rfl (by kernel_rfl) (by kernel_rfl) (by kernel_rfl) (fun _ _ _ h => h) (Or.inl ⟨by rfl, ?_⟩) (by assumption) ?_
  rotate_left
  · intro w' hSw; have k27 := (World.cell?_of_block (w := w) (a := ⟨b, 27, none⟩) hSw).trans c27; have k14 := (World.cell?_of_block (w := w) (a := ⟨b, 14, none⟩) hSw).trans c14; have k9 := (World.cell?_of_block (w := w) (a := ⟨b, 9, none⟩) hSw).trans c9; have k10 := (World.cell?_of_block (w := w) (a := ⟨b, 10, none⟩) hSw).trans c10; have k11 := (World.cell?_of_block (w := w) (a := ⟨b, 11, none⟩) hSw).trans c11; have k12 := (World.cell?_of_block (w := w) (a := ⟨b, 12, none⟩) hSw).trans c12; have k13 := (World.cell?_of_block (w := w) (a := ⟨b, 13, none⟩) hSw).trans c13; go_simp; try with_reducible rfl
  simp only [Act.put, List.setIfInBounds_toArray, List.set_cons_zero, List.set_cons_succ]
  refine wpAnyH_take (i := 11) (oi := { dst := some 14, op := Op.load 3 (Operand.tmp 13), type := 3, pos := "run.go:336", after := #[{ on := 10, ground := Ground.data }], guard := none }) (v := ?_) rfl (by kernel_rfl) (by kernel_rfl) (by kernel_rfl) (fun _ _ _ h => h) (Or.inl ⟨by rfl, ?_⟩) (by assumption) ?_
  rotate_left
  · intro w' hSw; have k27 := (World.cell?_of_block (w := w) (a := ⟨b, 27, none⟩) hSw).trans c27; have k14 := (World.cell?_of_block (w := w) (a := ⟨b, 14, none⟩) hSw).trans c14; have k9 := (World.cell?_of_block (w := w) (a := ⟨b, 9, none⟩) hSw).trans c9; have k10 := (World.cell?_of_block (w := w) (a := ⟨b, 10, none⟩) hSw).trans c10; have k11 := (World.cell?_of_block (w := w) (a := ⟨b, 11, none⟩) hSw).trans c11; have k12 := (World.cell?_of_block (w := w) (a := ⟨b, 12, none⟩) hSw).trans c12; have k13 := (World.cell?_of_block (w := w) (a := ⟨b, 13, none⟩) hSw).trans c13; go_simp; try with_reducible rfl
  simp only [Act.put, List.setIfInBounds_toArray, List.set_cons_zero, List.set_cons_succ]
  refine wpAnyH_take (i := 12) (oi := { dst := some 15, op := Op.move (Operand.tmp 0), type := 177, pos := "run.go:336", after := #[], guard := none }) (v := ?_) rfl (by kernel_rfl) (by kernel_rfl) (by kernel_rfl) (fun _ _ _ h => h) (Or.inl ⟨by rfl, ?_⟩) (by assumption) ?_
  rotate_left
  · intro w' hSw; have k27 := (World.cell?_of_block (w := w) (a := ⟨b, 27, none⟩) hSw).trans c27; have k14 := (World.cell?_of_block (w := w) (a := ⟨b, 14, none⟩) hSw).trans c14; have k9 := (World.cell?_of_block (w := w) (a := ⟨b, 9, none⟩) hSw).trans c9; have k10 := (World.cell?_of_block (w := w) (a := ⟨b, 10, none⟩) hSw).trans c10; have k11 := (World.cell?_of_block (w := w) (a := ⟨b, 11, none⟩) hSw).trans c11; have k12 := (World.cell?_of_block (w := w) (a := ⟨b, 12, none⟩) hSw).trans c12; have k13 := (World.cell?_of_block (w := w) (a := ⟨b, 13, none⟩) hSw).trans c13; go_simp; try with_reducible rfl
  simp only [Act.put, List.setIfInBounds_toArray, List.set_cons_zero, List.set_cons_succ]
  refine wpAnyH_take (i := 13) (oi := { dst := some 16, op := Op.nilCheck (Operand.tmp 15), type := 0, pos := "run.go:336", after := #[{ on := 12, ground := Ground.data }], guard := none }) (v := ?_) rfl (by kernel_rfl) (by kernel_rfl) (by kernel_rfl) (fun _ _ _ h => h) (Or.inl ⟨by rfl, ?_⟩) (by assumption) ?_
  rotate_left
  · intro w' hSw; have k27 := (World.cell?_of_block (w := w) (a := ⟨b, 27, none⟩) hSw).trans c27; have k14 := (World.cell?_of_block (w := w) (a := ⟨b, 14, none⟩) hSw).trans c14; have k9 := (World.cell?_of_block (w := w) (a := ⟨b, 9, none⟩) hSw).trans c9; have k10 := (World.cell?_of_block (w := w) (a := ⟨b, 10, none⟩) hSw).trans c10; have k11 := (World.cell?_of_block (w := w) (a := ⟨b, 11, none⟩) hSw).trans c11; have k12 := (World.cell?_of_block (w := w) (a := ⟨b, 12, none⟩) hSw).trans c12; have k13 := (World.cell?_of_block (w := w) (a := ⟨b, 13, none⟩) hSw).trans c13; go_simp; try with_reducible rfl
  simp only [Act.put, List.setIfInBounds_toArray, List.set_cons_zero, List.set_cons_succ]
  refine wpAnyH_take (i := 14) (oi := { dst := some 17, op := Op.fieldAddr 180 (Operand.tmp 16) 4, type := 0, pos := "run.go:336", after := #[{ on := 13, ground := Ground.data }], guard := none }) (v := ?_) rfl (by kernel_rfl) (by kernel_rfl) (by kernel_rfl) (fun _ _ _ h => h) (Or.inl ⟨by rfl, ?_⟩) (by assumption) ?_
  rotate_left
  · intro w' hSw; have k27 := (World.cell?_of_block (w := w) (a := ⟨b, 27, none⟩) hSw).trans c27; have k14 := (World.cell?_of_block (w := w) (a := ⟨b, 14, none⟩) hSw).trans c14; have k9 := (World.cell?_of_block (w := w) (a := ⟨b, 9, none⟩) hSw).trans c9; have k10 := (World.cell?_of_block (w := w) (a := ⟨b, 10, none⟩) hSw).trans c10; have k11 := (World.cell?_of_block (w := w) (a := ⟨b, 11, none⟩) hSw).trans c11; have k12 := (World.cell?_of_block (w := w) (a := ⟨b, 12, none⟩) hSw).trans c12; have k13 := (World.cell?_of_block (w := w) (a := ⟨b, 13, none⟩) hSw).trans c13; go_simp; try with_reducible rfl
  simp only [Act.put, List.setIfInBounds_toArray, List.set_cons_zero, List.set_cons_succ]
  refine wpAnyH_take (i := 15) (oi := { dst := some 18, op := Op.load 44 (Operand.tmp 17), type := 44, pos := "run.go:336", after := #[{ on := 14, ground := Ground.data }], guard := none }) (v := ?_) rfl (by kernel_rfl) (by kernel_rfl) (by kernel_rfl) (fun _ _ _ h => h) (Or.inl ⟨by rfl, ?_⟩) (by assumption) ?_
  rotate_left
  · intro w' hSw; have k27 := (World.cell?_of_block (w := w) (a := ⟨b, 27, none⟩) hSw).trans c27; have k14 := (World.cell?_of_block (w := w) (a := ⟨b, 14, none⟩) hSw).trans c14; have k9 := (World.cell?_of_block (w := w) (a := ⟨b, 9, none⟩) hSw).trans c9; have k10 := (World.cell?_of_block (w := w) (a := ⟨b, 10, none⟩) hSw).trans c10; have k11 := (World.cell?_of_block (w := w) (a := ⟨b, 11, none⟩) hSw).trans c11; have k12 := (World.cell?_of_block (w := w) (a := ⟨b, 12, none⟩) hSw).trans c12; have k13 := (World.cell?_of_block (w := w) (a := ⟨b, 13, none⟩) hSw).trans c13; go_simp; try with_reducible rfl
  simp only [Act.put, List.setIfInBounds_toArray, List.set_cons_zero, List.set_cons_succ]
  refine wpAnyH_take (i := 16) (oi := { dst := some 19, op := Op.call { callee := Callee.builtin Builtin.len, args := #[Operand.tmp 18], argTypes := #[44] }, type := 3, pos := "run.go:336", after := #[{ on := 15, ground := Ground.data }], guard := none }) (v := ?_) rfl (by kernel_rfl) (by kernel_rfl) (by kernel_rfl) (fun _ _ _ h => h) (Or.inl ⟨by rfl, ?_⟩) (by assumption) ?_
  rotate_left
  · intro w' hSw; have k27 := (World.cell?_of_block (w := w) (a := ⟨b, 27, none⟩) hSw).trans c27; have k14 := (World.cell?_of_block (w := w) (a := ⟨b, 14, none⟩) hSw).trans c14; have k9 := (World.cell?_of_block (w := w) (a := ⟨b, 9, none⟩) hSw).trans c9; have k10 := (World.cell?_of_block (w := w) (a := ⟨b, 10, none⟩) hSw).trans c10; have k11 := (World.cell?_of_block (w := w) (a := ⟨b, 11, none⟩) hSw).trans c11; have k12 := (World.cell?_of_block (w := w) (a := ⟨b, 12, none⟩) hSw).trans c12; have k13 := (World.cell?_of_block (w := w) (a := ⟨b, 13, none⟩) hSw).trans c13; go_simp; try with_reducible rfl
  simp only [Act.put, List.setIfInBounds_toArray, List.set_cons_zero, List.set_cons_succ]
  refine wpAnyH_take (i := 17) (oi := { dst := some 20, op := Op.build 37 #[(0, Operand.tmp 6), (1, Operand.tmp 10), (2, Operand.tmp 14), (3, Operand.tmp 19)], type := 37, pos := "run.go:336", after := #[{ on := 3, ground := Ground.data }, { on := 7, ground := Ground.data }, { on := 11, ground := Ground.data }, { on := 16, ground := Ground.data }], guard := none }) (v := ?_) rfl (by kernel_rfl) (by kernel_rfl) (by kernel_rfl) (fun _ _ _ h => h) (Or.inl ⟨by rfl, ?_⟩) (by assumption) ?_
  rotate_left
  · intro w' hSw; have k27 := (World.cell?_of_block (w := w) (a := ⟨b, 27, none⟩) hSw).trans c27; have k14 := (World.cell?_of_block (w := w) (a := ⟨b, 14, none⟩) hSw).trans c14; have k9 := (World.cell?_of_block (w := w) (a := ⟨b, 9, none⟩) hSw).trans c9; have k10 := (World.cell?_of_block (w := w) (a := ⟨b, 10, none⟩) hSw).trans c10; have k11 := (World.cell?_of_block (w := w) (a := ⟨b, 11, none⟩) hSw).trans c11; have k12 := (World.cell?_of_block (w := w) (a := ⟨b, 12, none⟩) hSw).trans c12; have k13 := (World.cell?_of_block (w := w) (a := ⟨b, 13, none⟩) hSw).trans c13; go_simp; try with_reducible rfl
  simp only [Act.put, List.setIfInBounds_toArray, List.set_cons_zero, List.set_cons_succ]
  refine wpAnyH_ready (rs := [18]) (by kernel_rfl) (by simp) ?_
  refine AllReadyH.cons (o := { dst := none, op := Op.store 37 (Operand.tmp 2) (Operand.tmp 20), type := 0, pos := "run.go:336", after := #[{ on := 17, ground := Ground.data }, { on := 0, ground := Ground.phase }, { on := 1, ground := Ground.phase }, { on := 2, ground := Ground.phase }, { on := 3, ground := Ground.phase }, { on := 4, ground := Ground.phase }, { on := 5, ground := Ground.phase }, { on := 6, ground := Ground.phase }, { on := 7, ground := Ground.phase }, { on := 8, ground := Ground.phase }, { on := 9, ground := Ground.phase }, { on := 10, ground := Ground.phase }, { on := 11, ground := Ground.phase }, { on := 12, ground := Ground.phase }, { on := 13, ground := Ground.phase }, { on := 14, ground := Ground.phase }, { on := 15, ground := Ground.phase }, { on := 16, ground := Ground.phase }, { on := 17, ground := Ground.phase }], guard := none }) rfl (fun K' hK' => ?_) AllReadyH.nil
  go_simp
  refine hK'.out _ _ ?_ (fun hHeld => ?_)
  · exact unhide HS7
  clear hK' K'
  try simp only [Act.put, List.setIfInBounds_toArray, List.set_cons_zero, List.set_cons_succ]
  refine wpAnyH_done (by kernel_rfl) ?_ _
  generalize hV : (((((((W.setCell ⟨w.heap.size, 0, none⟩ (.int .i64 s.fin)).setCell ⟨w.heap.size, 1, none⟩ (.int .i64 (s.reg 0))).setCell ⟨w.heap.size, 2, none⟩ (.int .i64 (s.reg 1))).setCell ⟨w.heap.size, 3, none⟩ (.int .i64 (s.reg 2))).setCell ⟨w.heap.size, 4, none⟩ (.int .i64 (s.reg 3))).setCell ⟨w.heap.size, 5, none⟩ (.int .i64 s.clock)).setCell ⟨w.heap.size, 6, none⟩ (.int .i64 s.heard)).drew = V at *
  clear hV
  have ky := fun j => cell_of_row V _ j _ 37 (0, 0) (unhide HY7)
  go_wp2
  refine bodyPost_ret (v := .agg #[.int .i64 s.fin, .int .i64 (s.reg 0), .int .i64 (s.reg 1), .int .i64 (s.reg 2), .int .i64 (s.reg 3), .int .i64 s.clock, .int .i64 s.heard]) (by simp [results, Tryz.results109, go_sem, ky]) rfl ?_
  exact ⟨rfl, unhide HF7⟩
end
end Go.Proofs.YtfmbebofllgmoaaGreatDoor
namespace Go.Proofs.YtfmbebofllgmoaaGreatDoor
open Go.RowKit

/-- A list of one unit, over and over. -/
def FullU (us : List Value) (w : World) (v : Value) : Prop := ∃ a n c, v = .slice a n c ∧ n ≤ 1000000000 ∧ (n = 0 ∨ ∃ q off, a = some ⟨q, off, none⟩ ∧ ∀ i, i < n → ∀ j u, us[j]? = some u → w.cell? ⟨q, off + i * us.length + j, none⟩ = some u)
def reps (n : Nat) (us : List Value) : List Value := (List.replicate n us).flatten
theorem reps_succ (n : Nat) (us : List Value) : reps (n + 1) us = us ++ reps n us := by unfold reps; rw [List.replicate_succ, List.flatten_cons]
theorem reps_length (n : Nat) (us : List Value) : (reps n us).length = n * us.length := by
  induction n with
  | zero => simp [reps]
  | succ n ih => rw [reps_succ, List.length_append, ih, Nat.succ_mul]; omega
theorem reps_append (n k : Nat) (us : List Value) : reps n us ++ reps k us = reps (n + k) us := by
  unfold reps; rw [← List.flatten_append, List.replicate_append_replicate]
theorem reps_get (us : List Value) {j : Nat} {u : Value} (hj : us[j]? = some u) : ∀ (n i : Nat), i < n → (reps n us)[i * us.length + j]? = some u
  | 0, i, h => by omega
  | n + 1, 0, _ => by
    rw [reps_succ, Nat.zero_mul, Nat.zero_add, List.getElem?_append_left (List.getElem?_eq_some_iff.1 hj).1]
    exact hj
  | n + 1, i + 1, h => by
    rw [reps_succ, List.getElem?_append_right (by rw [Nat.succ_mul]; omega), show (i + 1) * us.length + j - us.length = i * us.length + j by rw [Nat.succ_mul]; omega]
    exact reps_get us hj n i (by omega)
section
variable {w W : World} {v : Value} {us : List Value} {K : Nat → Prop}
theorem FullU.keep (h : FullU us w v) (hl : LiesIn v K) (hk : ∀ q, K q → W.heap[q]? = w.heap[q]?) : FullU us W v := by
  obtain ⟨a, n, c, rfl, hn, hc⟩ := h
  refine ⟨a, n, c, rfl, hn, ?_⟩
  rcases Nat.eq_zero_or_pos n with h0 | h0
  · exact .inl h0
  rcases hc with h1 | ⟨q, off, rfl, hcell⟩
  · omega
  have hq := hk q (hl q off n c rfl h0)
  exact .inr ⟨q, off, rfl, fun i hi j u hj => by rw [cellOf_heap hq]; exact hcell i hi j u hj⟩
theorem FullU.row {B e n : Nat} (_hus : 0 < us.length) (h : w.ownsRow B e us.length v n (reps n us)) (hn : n ≤ 1000000000) : FullU us w v := by
  rcases Nat.eq_zero_or_pos n with h0 | h0
  · obtain ⟨a, c, hv⟩ := row_shape h
    exact ⟨a, n, c, hv, hn, .inl h0⟩
  · obtain ⟨g, c, hv, _, _, hc⟩ := row_cell h h0
    exact ⟨_, n, c, hv, hn, .inr ⟨g, 0, rfl, fun i hi j u hj => by rw [Nat.zero_add]; exact hc _ _ (reps_get us hj n i hi)⟩⟩
theorem FullU.toE {m : Int} (h : FullU [.int .i64 0, .int .i64 m, .int .i64 0] w v) : FullE w v m := by
  obtain ⟨a, n, c, hv, hn, hc⟩ := h
  exact ⟨a, n, c, hv, hn, hc.imp id fun ⟨q, off, e, hcell⟩ => ⟨q, off, e, fun i hi => ⟨hcell i hi 0 _ rfl, hcell i hi 1 _ rfl, hcell i hi 2 _ rfl⟩⟩⟩
end
/-- A list of units that was made of an own list: in its block, or in a block of its own. -/
def MadeU (us : List Value) (e : Nat) (w : World) (lv : Value) (n : Nat) (u : Value) (k : Nat) : Prop :=
  FullU us w u ∧ ((∃ g cp, lv = .slice (some ⟨g, 0, none⟩) n cp ∧ u = .slice (some ⟨g, 0, none⟩) (n + k) cp) ∨ (∀ q, own u q → ¬ own lv q ∧ ∃ cur, w.heap[q]? = some (.cells cur e (0, 0))))
section
variable {us : List Value} {e : Nat}
theorem MadeU.step {w w' : World} {B : Nat} {lv u v' : Value} {n k j : Nat} (_hus : 0 < us.length) (h : MadeU us e w lv n u k) (hk : k ≤ j) (hn : n + j ≤ 1000000000) (hr : w'.ownsRow B e us.length v' (n + j) (reps (n + j) us))
    (hd : (∃ g cp, lv = .slice (some ⟨g, 0, none⟩) n cp ∧ v' = .slice (some ⟨g, 0, none⟩) (n + j) cp ∧ n + j ≤ cp ∧ w.grownBy w' (some g)) ∨ (w.grownBy w' none ∧ ∀ q, own v' q → w.heap.size ≤ q)) : MadeU us e w' lv n u k := by
  obtain ⟨hf, hp⟩ := h
  rcases hd with ⟨g, cp, hlv, hv', hroom, hg⟩ | ⟨hg, _⟩
  · rcases hp with ⟨g2, cp2, hlv2, hu⟩ | hp
    · rw [hlv] at hlv2
      cases hlv2
      refine ⟨?_, .inl ⟨g, cp, hlv, hu⟩⟩
      subst hv'
      rcases Nat.eq_zero_or_pos (n + j) with h0 | h0
      · exact ⟨_, _, _, hu, by omega, .inl (by omega)⟩
      obtain ⟨g3, c3, hv3, _, _, hc3⟩ := row_cell hr h0
      cases hv3
      exact ⟨some ⟨g, 0, none⟩, n + k, cp, hu, by omega, .inr ⟨g, 0, rfl, fun i hi j' u' hj' => by rw [Nat.zero_add]; exact hc3 _ _ (reps_get us hj' (n + j) i (by omega))⟩⟩
    · have hk' : ∀ q, own u q → w'.heap[q]? = w.heap[q]? := fun q hq => hg.block q (by obtain ⟨cur, hcur⟩ := (hp q hq).2; exact (Array.getElem?_eq_some_iff.1 hcur).1) (fun e => (hp q hq).1 (by rw [hlv]; simp only [own, Value.ownBlock]; exact e.symm))
      exact ⟨hf.keep own_lies hk', .inr (fun q hq => ⟨(hp q hq).1, by obtain ⟨cur, hcur⟩ := (hp q hq).2; exact ⟨cur, (hk' q hq).trans hcur⟩⟩)⟩
  · have hall : ∀ q, q < w.heap.size → w'.heap[q]? = w.heap[q]? := fun q hq => hg.block q hq (by simp)
    refine ⟨?_, hp.imp id (fun hp q hq => ⟨(hp q hq).1, by obtain ⟨cur, hcur⟩ := (hp q hq).2; exact ⟨cur, (hall q (Array.getElem?_eq_some_iff.1 hcur).1).trans hcur⟩⟩)⟩
    obtain ⟨a, nn, c, hv, hnn, hc⟩ := hf
    exact ⟨a, nn, c, hv, hnn, hc.imp id fun ⟨q, off, e, hcell⟩ => ⟨q, off, e, fun i hi j' u' hj' => by rw [cellOf_heap (hall q (World.block_lt_of_cell? w _ (hcell i hi j' u' hj')))]; exact hcell i hi j' u' hj'⟩⟩
theorem MadeU.store {w : World} {lv u v : Value} {n k X j : Nat} {cX : Array Value} {t : Nat} (h : MadeU us e w lv n u k) (hX : w.heap[X]? = some (.cells cX t (0, 0))) (he : t ≠ e) (hlv : ¬ own lv X) : MadeU us e (w.setCell ⟨X, j, none⟩ v) lv n u k := by
  obtain ⟨hf, hp⟩ := h
  have hk : ∀ q, q ≠ X → (w.setCell ⟨X, j, none⟩ v).heap[q]? = w.heap[q]? := fun q hq => Below.heap_setCell _ _ _ _ hq
  rcases hp with ⟨g, cp, hl, hu⟩ | hp
  · refine ⟨hf.keep (K := fun q => q = g) (fun q off n' c hv _ => by rw [hu] at hv; cases hv; rfl) (fun q hq => hk q (fun e => hlv (by rw [hl, ← e, hq]; rfl))), .inl ⟨g, cp, hl, hu⟩⟩
  · have hne : ∀ q, own u q → q ≠ X := fun q hq e' => by
      obtain ⟨cur, hcur⟩ := (hp q hq).2
      rw [e'] at hcur
      exact he (ty_one hX hcur)
    exact ⟨hf.keep own_lies (fun q hq => hk q (hne q hq)), .inr (fun q hq => ⟨(hp q hq).1, by obtain ⟨cur, hcur⟩ := (hp q hq).2; exact ⟨cur, (hk q (hne q hq)).trans hcur⟩⟩)⟩
theorem MadeU.fr {w W : World} {lv u : Value} {n k : Nat} (h : MadeU us e w lv n u k) (hf : Fr (fun _ => False) w W (fun _ => False)) : MadeU us e W lv n u k := by
  obtain ⟨⟨a, nn, c, hv, hnn, hc⟩, hp⟩ := h
  have hall : ∀ q, q < w.heap.size → W.heap[q]? = w.heap[q]? := fun q hq => hf.same q hq (fun h => h)
  exact ⟨⟨a, nn, c, hv, hnn, hc.imp id fun ⟨q, off, e, hcell⟩ => ⟨q, off, e, fun i hi j' u' hj' => by rw [cellOf_heap (hall q (World.block_lt_of_cell? w _ (hcell i hi j' u' hj')))]; exact hcell i hi j' u' hj'⟩⟩, hp.imp id fun hp q hq => ⟨(hp q hq).1, by obtain ⟨cur, hcur⟩ := (hp q hq).2; exact ⟨cur, (hall q (Array.getElem?_eq_some_iff.1 hcur).1).trans hcur⟩⟩⟩
theorem MadeU.ty {w : World} {lv u : Value} {B n k size m : Nat} {xs : List Value} (h : MadeU us e w lv n u k) (ho : w.ownsRow B e size lv m xs) {q : Nat} (hq : own u q) : ∃ cur, w.heap[q]? = some (.cells cur e (0, 0)) := by
  rcases h.2 with ⟨g, cp, hl, hu⟩ | hp
  · exact row_d ho (by rw [hl]; rw [hu] at hq; exact hq)
  · exact (hp q hq).2
/-- One append of units to an own list, and the store of what came of it into the entry's block. -/
theorem keep_oneU {U wa : World} {B X t : Nat} {lv va : Value} {n j k : Nat} {cX : Array Value} (hus : 0 < us.length) (hte : t ≠ e) (hn : n + j ≤ 1000000000) (ho : U.ownsRow B e us.length lv n (reps n us)) (hX : U.heap[X]? = some (.cells cX t (0, 0)))
    (ra : wa.ownsRow B e us.length va (n + j) (reps (n + j) us))
    (hd : (∃ g cp, lv = .slice (some ⟨g, 0, none⟩) n cp ∧ va = .slice (some ⟨g, 0, none⟩) (n + j) cp ∧ n + j ≤ cp ∧ U.grownBy wa (some g)) ∨ (U.grownBy wa none ∧ ∀ q, own va q → U.heap.size ≤ q)) :
    (wa.setCell ⟨X, k, none⟩ va).ownsRow B e us.length lv n (reps n us) ∧ (wa.setCell ⟨X, k, none⟩ va).heap[X]? = some (.cells (cX.setIfInBounds k va) t (0, 0)) ∧ MadeU us e (wa.setCell ⟨X, k, none⟩ va) lv n va j ∧ (∀ u i, i ≤ j → MadeU us e U lv n u i → MadeU us e (wa.setCell ⟨X, k, none⟩ va) lv n u i) ∧
      Fr (fun q => own lv q ∨ q = X) U (wa.setCell ⟨X, k, none⟩ va) (fun q => own lv q ∨ q = X) ∧ (∀ q, own va q → own lv q ∨ U.heap.size ≤ q) := by
  have hXl : ¬ own lv X := own_ty ho hX hte
  have old : ∀ q, q < U.heap.size → ¬ own lv q → wa.heap[q]? = U.heap[q]? := fun q hq hn => by
    rcases hd with ⟨g, cp, hl, _, _, hg⟩ | ⟨hg, _⟩
    · exact hg.block q hq (fun e => hn (by rw [hl]; simp only [own, Value.ownBlock]; exact e.symm))
    · exact hg.block q hq (by simp)
  have hXlt := (Array.getElem?_eq_some_iff.1 hX).1
  have hXa : wa.heap[X]? = some (.cells cX t (0, 0)) := (old X hXlt hXl).trans hX
  have hsz : U.heap.size ≤ wa.heap.size := by rcases hd with ⟨_, _, _, _, _, hg⟩ | ⟨hg, _⟩ <;> exact hg.size
  have hol : wa.ownsRow B e us.length lv n (reps n us) := by
    rcases hd with ⟨g, cp, hl, hv, hr, hg⟩ | ⟨hg, _⟩
    · subst hl hv
      rw [← reps_append] at ra
      exact row_prefix ra (reps_length n us)
    · exact ownsRow_of_block ho (fun q hq => hg.block q (World.ownsRow.lt ho q hq).2 (by simp))
  have hmade : MadeU us e wa lv n va j := by
    refine ⟨FullU.row hus ra hn, ?_⟩
    rcases hd with ⟨g, cp, hl, hv, _, _⟩ | ⟨_, hf⟩
    · exact .inl ⟨g, cp, hl, hv⟩
    · exact .inr (fun q hq => ⟨fun h => by have h1 := hf q hq; have h2 := (World.ownsRow.lt ho q h).2; omega, row_d ra hq⟩)
  refine ⟨ownsRow_of_block hol (fun q hq => Below.heap_setCell _ _ _ _ (fun e => hXl (by have e' : q = X := e; rw [← e']; exact hq))), setCell_row wa X k cX t va hXa, hmade.store hXa hte hXl, fun u i hi hu => (hu.step hus hi hn ra hd).store hXa hte hXl, ?_⟩
  have h3 : wa.os = U.os ∧ wa.tape = U.tape ∧ wa.output = U.output := by rcases hd with ⟨_, _, _, _, _, hg⟩ | ⟨hg, _⟩ <;> exact ⟨hg.os, hg.tape, hg.output⟩
  refine ⟨⟨h3.1, h3.2.1, h3.2.2, by simpa [World.setCell] using hsz, fun q hq hn => (Below.heap_setCell _ _ _ _ (fun e => hn (.inr e))).trans (old q hq (fun h => hn (.inl h))), fun _ _ h => h⟩, fun q hq => ?_⟩
  rcases hd with ⟨g, cp, hl, hv, _, _⟩ | ⟨_, hf⟩
  · left; rw [hl]; rw [hv] at hq; exact hq
  · exact .inr (hf q hq)
end
end Go.Proofs.YtfmbebofllgmoaaGreatDoor
namespace Go.Proofs.YtfmbebofllgmoaaGreatDoor
open Go.RowKit
attribute [local go_sem ↓] Go.wp_at_zero Go.wp_at_succ

theorem both_same {U wa : World} {B e s n j : Nat} {lv va : Value} {xs : List Value} (_ho : U.ownsRow B e s lv n xs) (hd : (∃ g cp, lv = .slice (some ⟨g, 0, none⟩) n cp ∧ va = .slice (some ⟨g, 0, none⟩) (n + j) cp ∧ n + j ≤ cp ∧ U.grownBy wa (some g)) ∨ (U.grownBy wa none ∧ ∀ q, own va q → U.heap.size ≤ q)) (q : Nat) (hq : q < U.heap.size) (hn : ¬ own lv q) : wa.heap[q]? = U.heap[q]? := by
  rcases hd with ⟨g, cp, hl, _, _, hg⟩ | ⟨hg, _⟩
  · exact hg.block q hq (fun e => hn (by rw [hl]; simp only [own, Value.ownBlock]; exact e.symm))
  · exact hg.block q hq (by simp)
theorem row_at {w : World} {B e s n c : Nat} {a : Option Addr} {xs : List Value} (h : w.ownsRow B e s (.slice a n c) n xs) (hn : 0 < n) : ∃ g, a = some ⟨g, 0, none⟩ ∧ g < w.heap.size ∧ (∀ k, k < n * s → ∃ v, w.cell? ⟨g, k, none⟩ = some v) ∧ ∀ k, w.frozen? ⟨g, k, none⟩ = false := by
  obtain ⟨h0, h1⟩ := h
  rcases h1 with ⟨hv, h2⟩ | ⟨g, cap, cur, hv, hB, hg, hc1, hc2, hc3, hc4⟩
  · omega
  · cases hv
    refine ⟨g, rfl, (Array.getElem?_eq_some_iff.1 hg).1, fun k hk => ?_, fun k => frozen_rowE hg k⟩
    have hlt : k < cur.size := by rw [hc3]; exact Nat.lt_of_lt_of_le hk (Nat.mul_le_mul_right s hc1)
    exact ⟨cur[k], (cell_of_row w g k cur e (0, 0) hg).trans (Array.getElem?_eq_getElem hlt)⟩
theorem row_set {w : World} {B e s n c g k : Nat} {xs : List Value} (h : w.ownsRow B e s (.slice (some ⟨g, 0, none⟩) n c) n xs) (z : Value) (_hk : k < n * s) : (w.setCell ⟨g, k, none⟩ z).ownsRow B e s (.slice (some ⟨g, 0, none⟩) n c) n (xs.set k z) := by
  obtain ⟨h0, h1⟩ := h
  rcases h1 with ⟨hv, h2⟩ | ⟨g', cap, cur, hv, hB, hg, hc1, hc2, hc3, hc4⟩
  · cases hv
  · cases hv
    refine ⟨by simpa using h0, .inr ⟨g, c, cur.setIfInBounds k z, rfl, hB, setCell_row w g k cur e _ hg, hc1, hc2, by simpa using hc3, ?_⟩⟩
    rw [Array.toList_setIfInBounds, List.take_set, hc4]
theorem reps_one (us : List Value) : reps 1 us = us := by unfold reps; simp
theorem drop_cons {l : List Value} {k : Nat} (h : k < l.length) : ∃ d, l.drop k = d :: l.drop (k + 1) := ⟨_, List.drop_eq_getElem_cons h⟩
theorem set_at (p : List Value) {k i : Nat} (hk : p.length = k) (q : List Value) (z : Value) : (p ++ q).set (k + i) z = p ++ q.set i z := by
  rw [List.set_append_right _ _ (by omega), show k + i - p.length = i by omega]
theorem set_at0 (p : List Value) {k : Nat} (hk : p.length = k) (q : List Value) (z : Value) : (p ++ q).set k z = p ++ q.set 0 z := set_at p hk (i := 0) q z
theorem unit_set3 {w : World} {B e n c g j : Nat} {xs : List Value} {u0 u1 u2 : Value} (h : w.ownsRow B e 3 (.slice (some ⟨g, 0, none⟩) n c) n (reps j [u0, u1, u2] ++ xs.drop (j * 3))) (hj : j < n) (z0 z1 z2 : Value) (e0 : z0 = u0 := by rfl) (e1 : z1 = u1 := by rfl) (e2 : z2 = u2 := by rfl) :
    (((w.setCell ⟨g, j * 3, none⟩ z0).setCell ⟨g, j * 3 + 1, none⟩ z1).setCell ⟨g, j * 3 + 2, none⟩ z2).ownsRow B e 3 (.slice (some ⟨g, 0, none⟩) n c) n (reps (j + 1) [u0, u1, u2] ++ xs.drop ((j + 1) * 3)) := by
  subst e0 e1 e2
  have hr := row_set (row_set (row_set h z0 (k := j * 3) (by omega)) z1 (k := j * 3 + 1) (by omega)) z2 (k := j * 3 + 2) (by omega)
  have hl := h.1
  rw [List.length_append, reps_length, List.length_drop] at hl
  simp only [List.length_cons, List.length_nil] at hl
  have hp : (reps j [z0, z1, z2]).length = j * 3 := reps_length _ _
  obtain ⟨d0, x0⟩ := drop_cons (l := xs) (k := j * 3) (by omega)
  obtain ⟨d1, x1⟩ := drop_cons (l := xs) (k := j * 3 + 1) (by omega)
  obtain ⟨d2, x2⟩ := drop_cons (l := xs) (k := j * 3 + 1 + 1) (by omega)
  rw [x0, x1, x2] at hr
  rw [set_at0 _ hp, set_at _ hp, set_at _ hp] at hr
  rw [← reps_append, reps_one, List.append_assoc, show (j + 1) * 3 = j * 3 + 1 + 1 + 1 by omega]
  exact hr
theorem elem108 : Elem 62 108 5 104 := elem_of _ _ _ _ (.agg #[.slice none 0 0, .slice none 0 0, .slice none 0 0, .slice none 0 0, .int .i64 0]) Tryz.underlying62 (by kernel_rfl) rfl
/-- What comes of keeping a list of kind E. -/
def KeptE (w w' : World) (B bb : Nat) (n : Int) (vI vE vN : Value) (LI LE LN : List Ent) (K : Nat → Prop) (lv : Value) : Prop :=
  ∃ vX' e K', BookK w' B bb n vI vX' vN LI (LE ++ [e]) LN K' ∧ (∀ q, K' q → K q ∨ own lv q ∨ w.heap.size ≤ q) ∧ (∀ q, own vX' q → own vE q ∨ w.heap.size ≤ q) ∧ Fr (fun q => q = bb ∨ own vE q ∨ own lv q ∨ w.heap.size ≤ q) w w' (fun q => q = bb ∨ own vE q ∨ own lv q ∨ w.heap.size ≤ q)
end Go.Proofs.YtfmbebofllgmoaaGreatDoor
namespace Go.Proofs.YtfmbebofllgmoaaGreatDoor
open Go.RowKit
attribute [local go_sem ↓] Go.wp_at_zero Go.wp_at_succ

set_option maxHeartbeats 4000000 in
set_option maxRecDepth 20000 in
theorem keepEvents_any {w2 : World} {B bb : Nat} {n : Int} {vI vE vN : Value} {LI LE LN : List Ent} {K : Nat → Prop} (h : BookK w2 B bb n vI vE vN LI LE LN K) (hBw : B ≤ w2.heap.size) {lv : Value} {nn : Nat} {xs : List Value} (ho : w2.ownsRow B 72 3 lv nn xs) (hk : ∀ q, own lv q → ¬ K q) (hl : nn ≤ 500000000) (hL : LE.length ≤ 900000000000) :
    Calls Tryz.prog 75 #[.pointer (some ⟨bb, 0, none⟩), lv] w2 fun e w' => e = .returned (.tuple #[]) ∧ KeptE w2 w' B bb (wrap64 (n + 1)) vI vE vN LI LE LN K lv := by
  obtain ⟨a, c, rfl⟩ := row_shape ho
  obtain ⟨aX, cX, rfl⟩ := row_shape h.bk.rE
  have hnb : ¬ own (.slice a nn c) bb := own_ty ho h.bk.blk (by decide)
  have close : ∀ w', KeptE w2 w' B bb (wrap64 (n + 1)) vI (.slice aX LE.length cX) vN LI LE LN K (.slice a nn c) → KeptE w2 w' B bb (wrap64 (n + 1)) vI (.slice aX LE.length cX) vN LI LE LN K (.slice a nn c) := fun _ h => h
  have CLOSE := hide close
  clear close
  have HB := hide h
  have HO := hide ho
  have HK := hide hk
  clear h ho hk
  go_enter Tryz.func75, Tryz.ntmps75
  have HNB := hide hnb
  clear hnb
  have y0 := setCell_row w2 bb 0 _ 65 (.int .i64 (wrap64 (n + 1))) (unhide HB).bk.blk
  have cb := fun j => cell_of_row w2 _ j _ 65 (0, 0) (unhide HB).bk.blk
  have zb := fun j => frozen_rowE (unhide HB).bk.blk j
  have hbw : bb < w2.heap.size := (Array.getElem?_eq_some_iff.1 (unhide HB).bk.blk).1
  have Y0 := hide y0
  clear y0
  go_wp2
  obtain ⟨m, hm⟩ : ∃ m, wrap64 (1000 + wrap64 (n + 1)) = m := ⟨_, rfl⟩
  rw [hm]
  have z1 : (w2.setCell ⟨bb, 0, none⟩ (.int .i64 (wrap64 (n + 1)))).heap.size = w2.heap.size := by simp [World.setCell]
  have hf1 : Fr (fun q => q = bb) w2 ((w2.setCell ⟨bb, 0, none⟩ (.int .i64 (wrap64 (n + 1)))).alloc (.cells #[.int .i64 0, .int .i64 m, .int .i64 0] 72)) (fun q => q = bb) := ((Fr.refl (fun q => q = bb) w2).setCell _ _ (.inl rfl)).alloc _
  have y1 : ((w2.setCell ⟨bb, 0, none⟩ (.int .i64 (wrap64 (n + 1)))).alloc (.cells #[.int .i64 0, .int .i64 m, .int .i64 0] 72)).heap[bb]? = some (.cells #[.int .i64 (wrap64 (n + 1)), vI, .slice aX LE.length cX, vN] 65) := (Below.heap_alloc _ _ _ (by rw [z1]; exact hbw)).trans (unhide Y0)
  have p1 : ((w2.setCell ⟨bb, 0, none⟩ (.int .i64 (wrap64 (n + 1)))).alloc (.cells #[.int .i64 0, .int .i64 m, .int .i64 0] 72)).heap[w2.heap.size]? = some (.cells #[.int .i64 0, .int .i64 m, .int .i64 0] 72) := by
    have h := heap_alloc_new (w2.setCell ⟨bb, 0, none⟩ (.int .i64 (wrap64 (n + 1)))) (.cells #[.int .i64 0, .int .i64 m, .int .i64 0] 72)
    rwa [z1] at h
  have z2 : w2.heap.size < ((w2.setCell ⟨bb, 0, none⟩ (.int .i64 (wrap64 (n + 1)))).alloc (.cells #[.int .i64 0, .int .i64 m, .int .i64 0] 72)).heap.size := (Array.getElem?_eq_some_iff.1 p1).1
  have hnP : ¬ own (.slice a nn c) w2.heap.size := fun hq => by have := (World.ownsRow.lt (unhide HO) _ hq).2; omega
  have o1 : ((w2.setCell ⟨bb, 0, none⟩ (.int .i64 (wrap64 (n + 1)))).alloc (.cells #[.int .i64 0, .int .i64 m, .int .i64 0] 72)).ownsRow B 72 3 (.slice a nn c) nn (reps 0 [.int .i64 0, .int .i64 m, .int .i64 0] ++ xs.drop (0 * 3)) := by
    rw [Nat.zero_mul, List.drop_zero]
    exact ownsRow_of_block (unhide HO) (fun q hq => hf1.same q (World.ownsRow.lt (unhide HO) q hq).2 (fun e => unhide HNB (e ▸ hq)))
  generalize hw1 : (w2.setCell ⟨bb, 0, none⟩ (.int .i64 (wrap64 (n + 1)))).alloc (.cells #[.int .i64 0, .int .i64 m, .int .i64 0] 72) = w1 at *
  have HNP := hide hnP
  have O1 := hide o1
  have Y1 := hide y1
  have HF1 := hide hf1
  have P1 := hide p1
  have Z2 := hide z2
  clear o1 y1 hf1 p1 hw1 hm cb zb z1 z2 Y0 hnP
  go_loopw [6] (fun i wr => ∃ j : Nat, j ≤ nn ∧ i = .int .i64 j ∧ Hid (wr.ownsRow B 72 3 (.slice a nn c) nn (reps j [.int .i64 0, .int .i64 m, .int .i64 0] ++ xs.drop (j * 3))) ∧ Fr (own (.slice a nn c)) w1 wr (own (.slice a nn c))) (fun i _ => nn - (intOf i).toNat)
  case atStart => exact ⟨0, Nat.zero_le _, rfl, O1, Fr.refl _ _⟩
  case round =>
    obtain ⟨j, hj, rfl, hoj, hfj⟩ := hrel
    have hpr := (hfj.same w2.heap.size (unhide Z2) (unhide HNP)).trans (unhide P1)
    have cP := fun i => cell_of_row wr _ i _ 72 (0, 0) hpr
    by_cases hlt : j < nn
    · obtain ⟨g, hg, hgl, hcell, hfz⟩ := row_at (unhide hoj) (by omega)
      subst hg
      obtain ⟨c0, k0⟩ := hcell (j * 3) (by omega)
      have f0 := hfz (j * 3)
      obtain ⟨c1, k1⟩ := hcell (j * 3 + 1) (by omega)
      have f1 := hfz (j * 3 + 1)
      obtain ⟨c2, k2⟩ := hcell (j * 3 + 2) (by omega)
      have f2 := hfz (j * 3 + 2)
      have hon := unit_set3 (unhide hoj) hlt (.int .i64 0) (.int .i64 m) (.int .i64 0)
      have HN := hide hon
      have HFJ := hide hfj
      have hk0 : (0 : Int) ≤ (j : Int) := by omega
      have hk1 : (j : Int) < (nn : Int) := by omega
      have hgP' : ¬ w2.heap.size = g := fun e => unhide HNP (by rw [e]; rfl)
      clear hoj hon hfj hcell hfz hpr
      go_wp2
      go_roundw
      case rel =>
        refine ⟨j + 1, by omega, by go_num, HN, ?_⟩
        refine (((unhide HFJ).setCell ⟨g, j * 3, none⟩ (.int .i64 0) (.inl rfl)).setCell ⟨g, j * 3 + 1, none⟩ (.int .i64 m) (.inl rfl)).setCell ⟨g, j * 3 + 2, none⟩ (.int .i64 0) (.inl rfl)
      case measure => simp [intOf]; omega
    · have hjl : j = nn := by omega
      subst hjl
      have hk1 : ¬ (j : Int) < (j : Int) := by omega
      have hoe : wr.ownsRow B 72 3 (.slice a j c) j (reps j [.int .i64 0, .int .i64 m, .int .i64 0]) := by
        have h := unhide hoj
        rw [List.drop_eq_nil_of_le (Nat.le_of_eq (unhide HO).1), List.append_nil] at h
        exact h
      have hpl : w2.heap.size < wr.heap.size := (Array.getElem?_eq_some_iff.1 hpr).1
      have hPX : w2.heap.size ≠ wr.heap.size := by omega
      have hPX' : ¬ wr.heap.size = w2.heap.size := by omega
      have hrB : B ≤ wr.heap.size := by omega
      have C0n := heap_alloc_new wr (.cells #[.slice a j c, .slice none 0 0, .slice none 0 0, .slice none 0 0, .int .i64 m] 108)
      have v0o : ((wr.alloc (.cells #[.slice a j c, .slice none 0 0, .slice none 0 0, .slice none 0 0, .int .i64 m] 108)).alloc (.cells #[.int .i64 0, .int .i64 m, .int .i64 0] 72)).ownsRow B 72 3 (.slice a j c) j (reps j [.int .i64 0, .int .i64 m, .int .i64 0]) := World.ownsRow.alloc (World.ownsRow.alloc hoe _) _
      have v0x : ((wr.alloc (.cells #[.slice a j c, .slice none 0 0, .slice none 0 0, .slice none 0 0, .int .i64 m] 108)).alloc (.cells #[.int .i64 0, .int .i64 m, .int .i64 0] 72)).heap[wr.heap.size]? = some (.cells #[.slice a j c, .slice none 0 0, .slice none 0 0, .slice none 0 0, .int .i64 m] 108) := (Below.heap_alloc _ _ _ (by simp)).trans C0n
      have v0p : ((wr.alloc (.cells #[.slice a j c, .slice none 0 0, .slice none 0 0, .slice none 0 0, .int .i64 m] 108)).alloc (.cells #[.int .i64 0, .int .i64 m, .int .i64 0] 72)).heap[w2.heap.size]? = some (.cells #[.int .i64 0, .int .i64 m, .int .i64 0] 72) := (Below.heap_alloc _ _ _ (by simp; omega)).trans ((Below.heap_alloc _ _ _ hpl).trans hpr)
      have v0n : ((wr.alloc (.cells #[.slice a j c, .slice none 0 0, .slice none 0 0, .slice none 0 0, .int .i64 m] 108)).alloc (.cells #[.int .i64 0, .int .i64 m, .int .i64 0] 72)).heap[wr.heap.size + 1]? = some (.cells #[.int .i64 0, .int .i64 m, .int .i64 0] 72) := by
        have h := heap_alloc_new (wr.alloc (.cells #[.slice a j c, .slice none 0 0, .slice none 0 0, .slice none 0 0, .int .i64 m] 108)) (.cells #[.int .i64 0, .int .i64 m, .int .i64 0] 72)
        rwa [show (wr.alloc (.cells #[.slice a j c, .slice none 0 0, .slice none 0 0, .slice none 0 0, .int .i64 m] 108)).heap.size = wr.heap.size + 1 by simp] at h
      have hB0 : B ≤ ((wr.alloc (.cells #[.slice a j c, .slice none 0 0, .slice none 0 0, .slice none 0 0, .int .i64 m] 108)).alloc (.cells #[.int .i64 0, .int .i64 m, .int .i64 0] 72)).heap.size := by simp; omega
      have V0O := hide v0o
      have V0X := hide v0x
      have V0P := hide v0p
      have V0N := hide v0n
      have HFJ := hide hfj
      clear hoj hoe hfj C0n v0o v0x v0n v0p hpr
      go_wp2_with (at_builtin; first | (refine wpList_both elemE (by omega) (by omega) (B := B) (n := j) (m := 1) (xs := reps j [.int .i64 0, .int .i64 m, .int .i64 0]) (news := [.int .i64 0, .int .i64 m, .int .i64 0]) rfl (.tmp 35) (.tmp 37) rfl (ad := ⟨wr.heap.size + 1, 0, none⟩) (cap := 1) rfl rfl (unhide V0O) rfl (World.news_of_block (unhide V0N)) (by simp [Value.oneCell']) (by omega) (by omega) hB0 ?_; intro va wa sha ra da; obtain ⟨aa, ca, rfl⟩ := sha; have ra' : wa.ownsRow B 72 3 (.slice aa (j + 1) ca) (j + 1) (reps (j + 1) [.int .i64 0, .int .i64 m, .int .i64 0]) := (by rw [← reps_append]; exact ra); have xa := (both_same (unhide V0O) da wr.heap.size (Array.getElem?_eq_some_iff.1 (unhide V0X)).1 (own_ty (unhide V0O) (unhide V0X) (by decide))).trans (unhide V0X); have kca := fun i => cell_of_row wa _ i _ 108 (0, 0) xa; have kza := fun i => frozen_rowE xa i; have pa := (both_same (unhide V0O) da w2.heap.size (Array.getElem?_eq_some_iff.1 (unhide V0P)).1 (unhide HNP)).trans (unhide V0P); have kpa := fun i => cell_of_row wa _ i _ 72 (0, 0) pa; have K1 := hide (keep_oneU (k := 1) (us := [.int .i64 0, .int .i64 m, .int .i64 0]) (by simp) (by decide) (by omega) (unhide V0O) (unhide V0X) ra' da); have PP := hide pa; clear ra ra' da xa pa V0N; have V1O := hide (show ((wa.setCell ⟨wr.heap.size, 1, none⟩ (.slice aa (j + 1) ca)).alloc (.cells #[.int .i64 0, .int .i64 m, .int .i64 0, .int .i64 0, .int .i64 m, .int .i64 0] 72)).ownsRow B 72 3 (.slice a j c) j (reps j [.int .i64 0, .int .i64 m, .int .i64 0]) from World.ownsRow.alloc (unhide K1).1 _); have V1X := hide (show ((wa.setCell ⟨wr.heap.size, 1, none⟩ (.slice aa (j + 1) ca)).alloc (.cells #[.int .i64 0, .int .i64 m, .int .i64 0, .int .i64 0, .int .i64 m, .int .i64 0] 72)).heap[wr.heap.size]? = some (.cells #[.slice a j c, .slice aa (j + 1) ca, .slice none 0 0, .slice none 0 0, .int .i64 m] 108) from (Below.heap_alloc _ _ _ (Array.getElem?_eq_some_iff.1 (unhide K1).2.1).1).trans (unhide K1).2.1); have V1P := hide (show ((wa.setCell ⟨wr.heap.size, 1, none⟩ (.slice aa (j + 1) ca)).alloc (.cells #[.int .i64 0, .int .i64 m, .int .i64 0, .int .i64 0, .int .i64 m, .int .i64 0] 72)).heap[w2.heap.size]? = some (.cells #[.int .i64 0, .int .i64 m, .int .i64 0] 72) from (Below.heap_alloc _ _ _ (by simp [World.setCell]; exact (Array.getElem?_eq_some_iff.1 (unhide PP)).1)).trans ((Below.heap_setCell _ _ _ _ hPX).trans (unhide PP))); have V1N := hide (show ((wa.setCell ⟨wr.heap.size, 1, none⟩ (.slice aa (j + 1) ca)).alloc (.cells #[.int .i64 0, .int .i64 m, .int .i64 0, .int .i64 0, .int .i64 m, .int .i64 0] 72)).heap[wa.heap.size]? = some (.cells #[.int .i64 0, .int .i64 m, .int .i64 0, .int .i64 0, .int .i64 m, .int .i64 0] 72) from (by have h := heap_alloc_new (wa.setCell ⟨wr.heap.size, 1, none⟩ (.slice aa (j + 1) ca)) (.cells #[.int .i64 0, .int .i64 m, .int .i64 0, .int .i64 0, .int .i64 m, .int .i64 0] 72); rwa [show (wa.setCell ⟨wr.heap.size, 1, none⟩ (.slice aa (j + 1) ca)).heap.size = wa.heap.size by simp [World.setCell]] at h)); have hB1 : B ≤ ((wa.setCell ⟨wr.heap.size, 1, none⟩ (.slice aa (j + 1) ca)).alloc (.cells #[.int .i64 0, .int .i64 m, .int .i64 0, .int .i64 0, .int .i64 m, .int .i64 0] 72)).heap.size := (by have h := (unhide K1).2.2.2.2.1.size; have h0 := hB0; simp at h h0 ⊢; omega); clear PP) | (refine wpList_both elemE (by omega) (by omega) (B := B) (n := j) (m := 2) (xs := reps j [.int .i64 0, .int .i64 m, .int .i64 0]) (news := [.int .i64 0, .int .i64 m, .int .i64 0, .int .i64 0, .int .i64 m, .int .i64 0]) rfl (.tmp 40) (.tmp 43) rfl (ad := ⟨wa.heap.size, 0, none⟩) (cap := 2) rfl rfl (unhide V1O) rfl (World.news_of_block (unhide V1N)) (by simp [Value.oneCell']) (by omega) (by omega) hB1 ?_; intro va wb sha ra da; obtain ⟨ab, cb, rfl⟩ := sha; have ra' : wb.ownsRow B 72 3 (.slice ab (j + 2) cb) (j + 2) (reps (j + 2) [.int .i64 0, .int .i64 m, .int .i64 0]) := (by rw [← reps_append]; exact ra); have xa := (both_same (unhide V1O) da wr.heap.size (Array.getElem?_eq_some_iff.1 (unhide V1X)).1 (own_ty (unhide V1O) (unhide V1X) (by decide))).trans (unhide V1X); have kcb := fun i => cell_of_row wb _ i _ 108 (0, 0) xa; have kzb := fun i => frozen_rowE xa i; have pa := (both_same (unhide V1O) da w2.heap.size (Array.getElem?_eq_some_iff.1 (unhide V1P)).1 (unhide HNP)).trans (unhide V1P); have kpb := fun i => cell_of_row wb _ i _ 72 (0, 0) pa; have K2 := hide (keep_oneU (k := 2) (us := [.int .i64 0, .int .i64 m, .int .i64 0]) (by simp) (by decide) (by omega) (unhide V1O) (unhide V1X) ra' da); have PP := hide pa; clear ra ra' da xa pa V1N; have V2O := hide (show ((wb.setCell ⟨wr.heap.size, 2, none⟩ (.slice ab (j + 2) cb)).alloc (.cells #[.int .i64 0, .int .i64 m, .int .i64 0, .int .i64 0, .int .i64 m, .int .i64 0, .int .i64 0, .int .i64 m, .int .i64 0] 72)).ownsRow B 72 3 (.slice a j c) j (reps j [.int .i64 0, .int .i64 m, .int .i64 0]) from World.ownsRow.alloc (unhide K2).1 _); have V2X := hide (show ((wb.setCell ⟨wr.heap.size, 2, none⟩ (.slice ab (j + 2) cb)).alloc (.cells #[.int .i64 0, .int .i64 m, .int .i64 0, .int .i64 0, .int .i64 m, .int .i64 0, .int .i64 0, .int .i64 m, .int .i64 0] 72)).heap[wr.heap.size]? = some (.cells #[.slice a j c, .slice aa (j + 1) ca, .slice ab (j + 2) cb, .slice none 0 0, .int .i64 m] 108) from (Below.heap_alloc _ _ _ (Array.getElem?_eq_some_iff.1 (unhide K2).2.1).1).trans (unhide K2).2.1); have V2P := hide (show ((wb.setCell ⟨wr.heap.size, 2, none⟩ (.slice ab (j + 2) cb)).alloc (.cells #[.int .i64 0, .int .i64 m, .int .i64 0, .int .i64 0, .int .i64 m, .int .i64 0, .int .i64 0, .int .i64 m, .int .i64 0] 72)).heap[w2.heap.size]? = some (.cells #[.int .i64 0, .int .i64 m, .int .i64 0] 72) from (Below.heap_alloc _ _ _ (by simp [World.setCell]; exact (Array.getElem?_eq_some_iff.1 (unhide PP)).1)).trans ((Below.heap_setCell _ _ _ _ hPX).trans (unhide PP))); have V2N := hide (show ((wb.setCell ⟨wr.heap.size, 2, none⟩ (.slice ab (j + 2) cb)).alloc (.cells #[.int .i64 0, .int .i64 m, .int .i64 0, .int .i64 0, .int .i64 m, .int .i64 0, .int .i64 0, .int .i64 m, .int .i64 0] 72)).heap[wb.heap.size]? = some (.cells #[.int .i64 0, .int .i64 m, .int .i64 0, .int .i64 0, .int .i64 m, .int .i64 0, .int .i64 0, .int .i64 m, .int .i64 0] 72) from (by have h := heap_alloc_new (wb.setCell ⟨wr.heap.size, 2, none⟩ (.slice ab (j + 2) cb)) (.cells #[.int .i64 0, .int .i64 m, .int .i64 0, .int .i64 0, .int .i64 m, .int .i64 0, .int .i64 0, .int .i64 m, .int .i64 0] 72); rwa [show (wb.setCell ⟨wr.heap.size, 2, none⟩ (.slice ab (j + 2) cb)).heap.size = wb.heap.size by simp [World.setCell]] at h)); have hB2 : B ≤ ((wb.setCell ⟨wr.heap.size, 2, none⟩ (.slice ab (j + 2) cb)).alloc (.cells #[.int .i64 0, .int .i64 m, .int .i64 0, .int .i64 0, .int .i64 m, .int .i64 0, .int .i64 0, .int .i64 m, .int .i64 0] 72)).heap.size := (by have h := (unhide K2).2.2.2.2.1.size; have h0 := hB1; simp at h h0 ⊢; omega); clear PP) | (refine wpList_both elemE (by omega) (by omega) (B := B) (n := j) (m := 3) (xs := reps j [.int .i64 0, .int .i64 m, .int .i64 0]) (news := [.int .i64 0, .int .i64 m, .int .i64 0, .int .i64 0, .int .i64 m, .int .i64 0, .int .i64 0, .int .i64 m, .int .i64 0]) rfl (.tmp 46) (.tmp 50) rfl (ad := ⟨wb.heap.size, 0, none⟩) (cap := 3) rfl rfl (unhide V2O) rfl (World.news_of_block (unhide V2N)) (by simp [Value.oneCell']) (by omega) (by omega) hB2 ?_; intro va wc sha ra da; obtain ⟨ac, cc, rfl⟩ := sha; have ra' : wc.ownsRow B 72 3 (.slice ac (j + 3) cc) (j + 3) (reps (j + 3) [.int .i64 0, .int .i64 m, .int .i64 0]) := (by rw [← reps_append]; exact ra); have xa := (both_same (unhide V2O) da wr.heap.size (Array.getElem?_eq_some_iff.1 (unhide V2X)).1 (own_ty (unhide V2O) (unhide V2X) (by decide))).trans (unhide V2X); have kcc := fun i => cell_of_row wc _ i _ 108 (0, 0) xa; have kzc := fun i => frozen_rowE xa i; have pa := (both_same (unhide V2O) da w2.heap.size (Array.getElem?_eq_some_iff.1 (unhide V2P)).1 (unhide HNP)).trans (unhide V2P); have kpc := fun i => cell_of_row wc _ i _ 72 (0, 0) pa; have K3 := hide (keep_oneU (k := 3) (us := [.int .i64 0, .int .i64 m, .int .i64 0]) (by simp) (by decide) (by omega) (unhide V2O) (unhide V2X) ra' da); have PP := hide pa; clear ra ra' da xa pa V2N; clear PP))
      have hXB : w2.heap.size ≤ wr.heap.size := by omega
      have f1 : Fr (fun q => own (.slice a j c) q ∨ q = wr.heap.size) w1 (wc.setCell ⟨wr.heap.size, 3, none⟩ (.slice ac (j + 3) cc)) (fun q => own (.slice a j c) q ∨ q = wr.heap.size) :=
        ((unhide HFJ).widen (fun _ h => .inl h)).trans ((((Fr.refl _ wr).alloc _).alloc _).trans ((unhide K1).2.2.2.2.1.trans (((Fr.refl _ _).alloc _).trans ((unhide K2).2.2.2.2.1.trans (((Fr.refl _ _).alloc _).trans (unhide K3).2.2.2.2.1)))))
      have hbl : bb < w1.heap.size := (Array.getElem?_eq_some_iff.1 (unhide Y1)).1
      have hbd : (wc.setCell ⟨wr.heap.size, 3, none⟩ (.slice ac (j + 3) cc)).heap[bb]? = some (.cells #[.int .i64 (wrap64 (n + 1)), vI, .slice aX LE.length cX, vN] 65) := (f1.same bb hbl (fun h => by
        rcases h with h | h
        · exact unhide HNB h
        · omega)).trans (unhide Y1)
      have fT : Fr (fun q => q = bb ∨ own (.slice a j c) q ∨ w2.heap.size ≤ q) w2 (wc.setCell ⟨wr.heap.size, 3, none⟩ (.slice ac (j + 3) cc)) (fun q => q = bb ∨ own (.slice a j c) q ∨ w2.heap.size ≤ q) :=
        ((unhide HF1).widen (fun _ h => .inl h)).trans (f1.widen (fun q h => by
          rcases h with h | h
          · exact .inr (.inl h)
          · exact .inr (.inr (by omega))))
      have bk := (unhide HB).mid fT (fun q hq h => by
        rcases h with h | h | h
        · exact .inl h
        · obtain ⟨cur, hcur⟩ := row_d (unhide HO) h
          exact .inr ⟨unhide HK q h, own_ty (unhide HB).bk.rI hcur (by decide), own_ty (unhide HB).bk.rE hcur (by decide), own_ty (unhide HB).bk.rN hcur (by decide)⟩
        · omega) hbd
      have m1 := (unhide K3).2.2.2.1 _ 1 (by omega) (((unhide K2).2.2.2.1 _ 1 (by omega) ((unhide K1).2.2.1.fr ((Fr.refl _ _).alloc _))).fr ((Fr.refl _ _).alloc _))
      have m2 := (unhide K3).2.2.2.1 _ 2 (by omega) ((unhide K2).2.2.1.fr ((Fr.refl _ _).alloc _))
      have m3 := (unhide K3).2.2.1
      have od := (unhide K3).1
      have xd := (unhide K3).2.1
      have g1 := (unhide K1).2.2.2.2.2
      have g2 := (unhide K2).2.2.2.2.2
      have g3 := (unhide K3).2.2.2.2.2
      have s1 : w2.heap.size ≤ ((wr.alloc (.cells #[.slice a j c, .slice none 0 0, .slice none 0 0, .slice none 0 0, .int .i64 m] 108)).alloc (.cells #[.int .i64 0, .int .i64 m, .int .i64 0] 72)).heap.size := by simp; omega
      have s2 := Nat.le_trans (Nat.le_trans s1 (unhide K1).2.2.2.2.1.size) (Fr.size ((Fr.refl (fun _ => False) _).alloc (.cells #[.int .i64 0, .int .i64 m, .int .i64 0, .int .i64 0, .int .i64 m, .int .i64 0] 72)))
      have s3 := Nat.le_trans (Nat.le_trans s2 (unhide K2).2.2.2.2.1.size) (Fr.size ((Fr.refl (fun _ => False) _).alloc (.cells #[.int .i64 0, .int .i64 m, .int .i64 0, .int .i64 0, .int .i64 m, .int .i64 0, .int .i64 0, .int .i64 m, .int .i64 0] 72)))
      have fresh : ∀ q, (own (.slice a j c) q ∨ own (.slice aa (j + 1) ca) q ∨ own (.slice ab (j + 2) cb) q ∨ own (.slice ac (j + 3) cc) q) → own (.slice a j c) q ∨ w2.heap.size ≤ q := fun q hq => by
        rcases hq with h | h | h | h
        · exact .inl h
        · exact (g1 q h).imp id (fun h => Nat.le_trans s1 h)
        · exact (g2 q h).imp id (fun h => Nat.le_trans s2 h)
        · exact (g3 q h).imp id (fun h => Nat.le_trans s3 h)
      have hXI : ¬ own (.slice aX LE.length cX) wr.heap.size := fun hq => by have := (World.ownsRow.lt (unhide HB).bk.rE _ hq).2; omega
      have hwd : B ≤ (wc.setCell ⟨wr.heap.size, 3, none⟩ (.slice ac (j + 3) cc)).heap.size := Nat.le_trans hBw fT.size
      clear g1 g2 g3 s1 s2 s3 f1 hbd hbl K1 K2 K3 V0O V0X V0P V1O V1X V1P V2O V2X V2P HB HO HK HF1 HFJ Y1 O1 hB0 hB1 hB2 kca kza kpa kcb kzb kpb kcc kzc kpc P1 Z2 cP hpl hPX hPX'
      generalize (wc.setCell ⟨wr.heap.size, 3, none⟩ (.slice ac (j + 3) cc)) = wd at *
      have ty : ∀ q, (own (.slice a j c) q ∨ own (.slice aa (j + 1) ca) q ∨ own (.slice ab (j + 2) cb) q ∨ own (.slice ac (j + 3) cc) q) → ∃ cur, wd.heap[q]? = some (.cells cur 72 (0, 0)) := fun q hq => by
        rcases hq with h | h | h | h
        · exact row_d od h
        · exact m1.ty od h
        · exact m2.ty od h
        · exact m3.ty od h
      have full : FullE wd (.slice a j c) m ∧ FullE wd (.slice aa (j + 1) ca) m ∧ FullE wd (.slice ab (j + 2) cb) m ∧ FullE wd (.slice ac (j + 3) cc) m := ⟨(FullU.row (by simp) od (by omega)).toE, m1.1.toE, m2.1.toE, m3.1.toE⟩
      have cbb := fun i => cell_of_row wd bb i _ 65 (0, 0) bk.bk.blk
      have FT := hide fT
      have BK := hide bk
      have TY := hide ty
      have FULL := hide full
      have FRESH := hide fresh
      have XD := hide xd
      clear fT bk ty full fresh m1 m2 m3 od
      have hE5 : ∀ o, (wd.alloc o).drew.heap[wr.heap.size]? = some (.cells #[.slice a j c, .slice aa (j + 1) ca, .slice ab (j + 2) cb, .slice ac (j + 3) cc, .int .i64 m] 108 (0, 0)) := fun o => (Below.heap_alloc wd o _ (Array.getElem?_eq_some_iff.1 (unhide XD)).1).trans (unhide XD)
      have cbq : ∀ o, (wd.alloc o).drew.cell? ⟨bb, 2, none⟩ = some (.slice aX LE.length cX) := fun o => by
        have h : (wd.alloc o).drew.heap[bb]? = _ := (Below.heap_alloc wd o _ (Array.getElem?_eq_some_iff.1 (unhide BK).bk.blk).1).trans (unhide BK).bk.blk
        exact cell_of_row _ _ 2 _ 65 (0, 0) h
      clear xd
      have hXb : wr.heap.size ≠ bb := fun e => by have h := unhide XD; rw [e] at h; exact absurd (ty_one h (unhide BK).bk.blk) (by decide)
      have fin : ∀ v' w3, w3.ownsRow B 108 5 v' (LE.length + 1) (flat5 LE ++ [.slice a j c, .slice aa (j + 1) ca, .slice ab (j + 2) cb, .slice ac (j + 3) cc, .int .i64 m]) → Fr (own (.slice aX LE.length cX)) (wd.alloc (.cells #[.slice a j c, .slice aa (j + 1) ca, .slice ab (j + 2) cb, .slice ac (j + 3) cc, .int .i64 m] 108)).drew w3 (own v') → KeptE w2 (w3.setCell ⟨bb, 2, none⟩ v') B bb (wrap64 (n + 1)) (vI) (.slice aX LE.length cX) (vN) LI LE LN K (.slice a j c) := fun v' w3 o3 f3 => by
        have fa : Fr (fun _ => False) wd (wd.alloc (.cells #[.slice a j c, .slice aa (j + 1) ca, .slice ab (j + 2) cb, .slice ac (j + 3) cc, .int .i64 m] 108)).drew (fun _ => False) := ((Fr.refl _ _).alloc _).drew
        have hall : ∀ q, q < wd.heap.size → (wd.alloc (.cells #[.slice a j c, .slice aa (j + 1) ca, .slice ab (j + 2) cb, .slice ac (j + 3) cc, .int .i64 m] 108)).drew.heap[q]? = wd.heap[q]? := fun q hq => fa.same q hq (fun h => h)
        have full := unhide FULL
        have hb := ((unhide BK).fr fa).addE (e := ⟨.slice a j c, .slice aa (j + 1) ca, .slice ab (j + 2) cb, .slice ac (j + 3) cc, m⟩) (K2 := fun q => (own (.slice a j c) q ∨ own (.slice aa (j + 1) ca) q ∨ own (.slice ab (j + 2) cb) q ∨ own (.slice ac (j + 3) cc) q)) ⟨full.1.fr fa, full.2.1.fr fa, full.2.2.1.fr fa, full.2.2.2.fr fa⟩ ⟨own_lies.mono (fun _ h => .inl h), own_lies.mono (fun _ h => .inr (.inl h)), own_lies.mono (fun _ h => .inr (.inr (.inl h))), own_lies.mono (fun _ h => .inr (.inr (.inr h)))⟩ (fun q hq => by
          obtain ⟨cur, hcur⟩ := unhide TY q hq
          exact ⟨cur, (hall q (Array.getElem?_eq_some_iff.1 hcur).1).trans hcur⟩) o3 f3
        refine ⟨v', _, _, hb, fun q hq => ?_, fun q hq => ?_, ?_⟩
        · rcases hq with h | h
          · exact .inl h
          · exact .inr (unhide FRESH q h)
        · by_cases hlt : q < w2.heap.size
          · exact .inl (f3.old q (Nat.lt_of_lt_of_le hlt (Nat.le_trans (unhide FT).size fa.size)) hq)
          · exact .inr (by omega)
        · refine Fr.setCell ?_ _ _ (.inl (.inl rfl))
          refine ((unhide FT).widen (fun q h => ?_)).trans ((fa.widen (fun q h => h.elim)).trans (f3.widen (fun q h => .inr (.inl h))))
          rcases h with h | h | h
          · exact .inl h
          · exact .inr (.inr (.inl h))
          · exact .inr (.inr (.inr h))
      refine wp_region_held_drew (S := fun w' => w'.heap[wr.heap.size]? = some (.cells #[.slice a j c, .slice aa (j + 1) ca, .slice ab (j + 2) cb, .slice ac (j + 3) cc, .int .i64 m] 108 (0, 0))) (by kernel_rfl) ?_ (fun hHeld => ?_)
      · exact unhide XD
      refine wpAnyH_take (i := 0) (oi := { dst := some 53, op := Op.move (Operand.tmp 0), type := 60, pos := "law.go:115", after := #[], guard := none }) (v := ?_) rfl (by kernel_rfl) (by kernel_rfl) (by kernel_rfl) (fun _ _ _ h => h) (Or.inl ⟨by rfl, ?_⟩) (by assumption) ?_
      rotate_left
      · intro w hSw; (try dsimp only at hSw); go_simp; try with_reducible rfl
      simp only [Act.put, List.setIfInBounds_toArray, List.set_cons_zero, List.set_cons_succ]
      refine wpAnyH_take (i := 1) (oi := { dst := some 54, op := Op.move (Operand.tmp 0), type := 60, pos := "law.go:115", after := #[], guard := none }) (v := ?_) rfl (by kernel_rfl) (by kernel_rfl) (by kernel_rfl) (fun _ _ _ h => h) (Or.inl ⟨by rfl, ?_⟩) (by assumption) ?_
      rotate_left
      · intro w hSw; (try dsimp only at hSw); go_simp; try with_reducible rfl
      simp only [Act.put, List.setIfInBounds_toArray, List.set_cons_zero, List.set_cons_succ]
      refine wpAnyH_take (i := 2) (oi := { dst := some 55, op := Op.nilCheck (Operand.tmp 54), type := 0, pos := "law.go:115", after := #[{ on := 1, ground := Ground.data }], guard := none }) (v := ?_) rfl (by kernel_rfl) (by kernel_rfl) (by kernel_rfl) (fun _ _ _ h => h) (Or.inl ⟨by rfl, ?_⟩) (by assumption) ?_
      rotate_left
      · intro w hSw; (try dsimp only at hSw); go_simp; try with_reducible rfl
      simp only [Act.put, List.setIfInBounds_toArray, List.set_cons_zero, List.set_cons_succ]
      refine wpAnyH_take (i := 3) (oi := { dst := some 56, op := Op.fieldAddr 65 (Operand.tmp 55) 2, type := 0, pos := "law.go:115", after := #[{ on := 2, ground := Ground.data }], guard := none }) (v := ?_) rfl (by kernel_rfl) (by kernel_rfl) (by kernel_rfl) (fun _ _ _ h => h) (Or.inl ⟨by rfl, ?_⟩) (by assumption) ?_
      rotate_left
      · intro w hSw; (try dsimp only at hSw); go_simp; try with_reducible rfl
      simp only [Act.put, List.setIfInBounds_toArray, List.set_cons_zero, List.set_cons_succ]
      refine wpAnyH_take (i := 5) (oi := { dst := some 58, op := Op.load 108 (Operand.tmp 7), type := 108, pos := "law.go:115", after := #[], guard := none }) (v := ?_) rfl (by kernel_rfl) (by kernel_rfl) (by kernel_rfl) (fun _ _ _ h => h) (Or.inl ⟨by rfl, ?_⟩) (by assumption) ?_
      rotate_left
      · intro w hSw; have c5 := fun j => cell_of_row w _ j _ 108 (0, 0) hSw; go_simp; try with_reducible rfl
      simp only [Act.put, List.setIfInBounds_toArray, List.set_cons_zero, List.set_cons_succ]
      refine wpAnyH_ready (rs := [4, 6]) (by kernel_rfl) (by simp) ?_
      refine AllReadyH.cons (o := { dst := some 57, op := Op.load 62 (Operand.tmp 56), type := 62, pos := "law.go:115", after := #[{ on := 3, ground := Ground.data }], guard := none }) rfl (fun K' hK' => ?_) (AllReadyH.cons (o := { dst := some 59, op := Op.buildSlice 62 1 #[(0, Operand.tmp 58)], type := 62, pos := "law.go:115", after := #[{ on := 5, ground := Ground.data }], guard := none }) rfl (fun K' hK' => ?_) AllReadyH.nil)
      · go_simp
        refine hK'.out _ _ ?_ (fun hHeld => ?_)
        · exact unhide XD
        clear hK' K'
        try simp only [Act.put, List.setIfInBounds_toArray, List.set_cons_zero, List.set_cons_succ]
        refine wpAnyH_ready (rs := [6]) (by kernel_rfl) (by simp) ?_
        refine AllReadyH.cons (o := { dst := some 59, op := Op.buildSlice 62 1 #[(0, Operand.tmp 58)], type := 62, pos := "law.go:115", after := #[{ on := 5, ground := Ground.data }], guard := none }) rfl (fun K' hK' => ?_) AllReadyH.nil
        go_simp
        refine hK'.out _ _ ?_ (fun hHeld => ?_)
        · exact hE5 _
        clear hK' K'
        try simp only [Act.put, List.setIfInBounds_toArray, List.set_cons_zero, List.set_cons_succ]
        refine wpAnyH_ready (rs := [7]) (by kernel_rfl) (by simp) ?_
        refine AllReadyH.cons (o := { dst := some 60, op := Op.call { callee := Callee.builtin Builtin.append, args := #[Operand.tmp 57, Operand.tmp 59], argTypes := #[62, 62] }, type := 62, pos := "law.go:115", after := #[{ on := 4, ground := Ground.data }, { on := 6, ground := Ground.data }], guard := none }) rfl (fun K' hK' => ?_) AllReadyH.nil
        refine step_grown (d := 60) rfl elem108 (by decide) (by decide) (v := (.slice aX LE.length cX)) (n := LE.length) (m := 1) (xs := flat5 LE) (news := [.slice a j c, .slice aa (j + 1) ca, .slice ab (j + 2) cb, .slice ac (j + 3) cc, .int .i64 m]) (B := B) (ad := ⟨wd.heap.size, 0, none⟩) (cap := 1) rfl (.tmp 57) (.tmp 59) rfl rfl rfl ((unhide BK).fr ((Fr.refl _ _).alloc (.cells #[.slice a j c, .slice aa (j + 1) ca, .slice ab (j + 2) cb, .slice ac (j + 3) cc, .int .i64 m] 108)).drew).bk.rE rfl (World.news_of_block (heap_alloc_new wd _)) (by simp [Value.oneCell']) (by omega) (by omega) (by simp; omega) ?_
        intro v3 w3 o3 f3 sh3
        obtain ⟨av, cv, rfl⟩ := sh3
        have pr : w3.heap[bb]? = some (.cells #[.int .i64 (wrap64 (n + 1)), vI, .slice aX LE.length cX, vN] 65) := by
          have hb2 := ((unhide BK).fr ((Fr.refl _ _).alloc (.cells #[.slice a j c, .slice aa (j + 1) ca, .slice ab (j + 2) cb, .slice ac (j + 3) cc, .int .i64 m] 108)).drew)
          exact (f3.same bb (Array.getElem?_eq_some_iff.1 hb2.bk.blk).1 (own_ty hb2.bk.rE hb2.bk.blk (by decide))).trans hb2.bk.blk
        have pc := fun j => cell_of_row w3 bb j _ 65 (0, 0) pr
        have pz := fun j => frozen_rowE pr j
        have gg : w3.heap[wr.heap.size]? = some (.cells #[.slice a j c, .slice aa (j + 1) ca, .slice ab (j + 2) cb, .slice ac (j + 3) cc, .int .i64 m] 108 (0, 0)) := (f3.same _ (Array.getElem?_eq_some_iff.1 (hE5 _)).1 hXI).trans (hE5 (.cells #[.slice a j c, .slice aa (j + 1) ca, .slice ab (j + 2) cb, .slice ac (j + 3) cc, .int .i64 m] 108))
        have O3 := hide o3
        have F3 := hide f3
        clear o3 f3 pr
        refine hK'.out _ _ gg (fun hHeld => ?_)
        clear hK' K'
        simp only [List.setIfInBounds_toArray, List.set_cons_zero, List.set_cons_succ]
        refine wpAnyH_take (i := 8) (oi := { dst := some 61, op := Op.nilCheck (Operand.tmp 53), type := 0, pos := "law.go:115", after := #[{ on := 0, ground := Ground.data }, { on := 0, ground := Ground.phase }, { on := 1, ground := Ground.phase }, { on := 2, ground := Ground.phase }, { on := 3, ground := Ground.phase }, { on := 4, ground := Ground.phase }, { on := 5, ground := Ground.phase }, { on := 6, ground := Ground.phase }, { on := 7, ground := Ground.phase }], guard := none }) (v := ?_) rfl (by kernel_rfl) (by kernel_rfl) (by kernel_rfl) (fun _ _ _ h => h) (Or.inl ⟨by rfl, ?_⟩) (by assumption) ?_
        rotate_left
        · intro w hSw; (try dsimp only at hSw); go_simp; try with_reducible rfl
        simp only [Act.put, List.setIfInBounds_toArray, List.set_cons_zero, List.set_cons_succ]
        refine wpAnyH_take (i := 9) (oi := { dst := some 62, op := Op.fieldAddr 65 (Operand.tmp 61) 2, type := 0, pos := "law.go:115", after := #[{ on := 8, ground := Ground.data }, { on := 0, ground := Ground.phase }, { on := 1, ground := Ground.phase }, { on := 2, ground := Ground.phase }, { on := 3, ground := Ground.phase }, { on := 4, ground := Ground.phase }, { on := 5, ground := Ground.phase }, { on := 6, ground := Ground.phase }, { on := 7, ground := Ground.phase }], guard := none }) (v := ?_) rfl (by kernel_rfl) (by kernel_rfl) (by kernel_rfl) (fun _ _ _ h => h) (Or.inl ⟨by rfl, ?_⟩) (by assumption) ?_
        rotate_left
        · intro w hSw; (try dsimp only at hSw); go_simp; try with_reducible rfl
        simp only [Act.put, List.setIfInBounds_toArray, List.set_cons_zero, List.set_cons_succ]
        refine wpAnyH_ready (rs := [10]) (by kernel_rfl) (by simp) ?_
        refine AllReadyH.cons (o := { dst := none, op := Op.store 62 (Operand.tmp 62) (Operand.tmp 60), type := 0, pos := "law.go:115", after := #[{ on := 9, ground := Ground.data }, { on := 7, ground := Ground.data }, { on := 7, ground := Ground.chain }, { on := 0, ground := Ground.phase }, { on := 1, ground := Ground.phase }, { on := 2, ground := Ground.phase }, { on := 3, ground := Ground.phase }, { on := 4, ground := Ground.phase }, { on := 5, ground := Ground.phase }, { on := 6, ground := Ground.phase }, { on := 7, ground := Ground.phase }], guard := none }) rfl (fun K' hK' => ?_) AllReadyH.nil
        go_simp
        refine hK'.out _ _ ?_ (fun hHeld => ?_)
        · exact (Below.heap_setCell _ _ _ _ hXb).trans gg
        clear hK' K'
        try simp only [Act.put, List.setIfInBounds_toArray, List.set_cons_zero, List.set_cons_succ]
        refine wpAnyH_done (by kernel_rfl) ?_ _
        go_wp2
        go_end0
        exact ⟨rfl, unhide CLOSE _ (fin _ w3 (unhide O3) (unhide F3))⟩
      · go_simp
        refine hK'.out _ _ ?_ (fun hHeld => ?_)
        · exact hE5 _
        clear hK' K'
        try simp only [Act.put, List.setIfInBounds_toArray, List.set_cons_zero, List.set_cons_succ]
        refine wpAnyH_ready (rs := [4]) (by kernel_rfl) (by simp) ?_
        refine AllReadyH.cons (o := { dst := some 57, op := Op.load 62 (Operand.tmp 56), type := 62, pos := "law.go:115", after := #[{ on := 3, ground := Ground.data }], guard := none }) rfl (fun K' hK' => ?_) AllReadyH.nil
        go_simp
        refine hK'.out _ _ ?_ (fun hHeld => ?_)
        · exact hE5 _
        clear hK' K'
        try simp only [Act.put, List.setIfInBounds_toArray, List.set_cons_zero, List.set_cons_succ]
        refine wpAnyH_ready (rs := [7]) (by kernel_rfl) (by simp) ?_
        refine AllReadyH.cons (o := { dst := some 60, op := Op.call { callee := Callee.builtin Builtin.append, args := #[Operand.tmp 57, Operand.tmp 59], argTypes := #[62, 62] }, type := 62, pos := "law.go:115", after := #[{ on := 4, ground := Ground.data }, { on := 6, ground := Ground.data }], guard := none }) rfl (fun K' hK' => ?_) AllReadyH.nil
        refine step_grown (d := 60) rfl elem108 (by decide) (by decide) (v := (.slice aX LE.length cX)) (n := LE.length) (m := 1) (xs := flat5 LE) (news := [.slice a j c, .slice aa (j + 1) ca, .slice ab (j + 2) cb, .slice ac (j + 3) cc, .int .i64 m]) (B := B) (ad := ⟨wd.heap.size, 0, none⟩) (cap := 1) rfl (.tmp 57) (.tmp 59) rfl rfl rfl ((unhide BK).fr ((Fr.refl _ _).alloc (.cells #[.slice a j c, .slice aa (j + 1) ca, .slice ab (j + 2) cb, .slice ac (j + 3) cc, .int .i64 m] 108)).drew).bk.rE rfl (World.news_of_block (heap_alloc_new wd _)) (by simp [Value.oneCell']) (by omega) (by omega) (by simp; omega) ?_
        intro v3 w3 o3 f3 sh3
        obtain ⟨av, cv, rfl⟩ := sh3
        have pr : w3.heap[bb]? = some (.cells #[.int .i64 (wrap64 (n + 1)), vI, .slice aX LE.length cX, vN] 65) := by
          have hb2 := ((unhide BK).fr ((Fr.refl _ _).alloc (.cells #[.slice a j c, .slice aa (j + 1) ca, .slice ab (j + 2) cb, .slice ac (j + 3) cc, .int .i64 m] 108)).drew)
          exact (f3.same bb (Array.getElem?_eq_some_iff.1 hb2.bk.blk).1 (own_ty hb2.bk.rE hb2.bk.blk (by decide))).trans hb2.bk.blk
        have pc := fun j => cell_of_row w3 bb j _ 65 (0, 0) pr
        have pz := fun j => frozen_rowE pr j
        have gg : w3.heap[wr.heap.size]? = some (.cells #[.slice a j c, .slice aa (j + 1) ca, .slice ab (j + 2) cb, .slice ac (j + 3) cc, .int .i64 m] 108 (0, 0)) := (f3.same _ (Array.getElem?_eq_some_iff.1 (hE5 _)).1 hXI).trans (hE5 (.cells #[.slice a j c, .slice aa (j + 1) ca, .slice ab (j + 2) cb, .slice ac (j + 3) cc, .int .i64 m] 108))
        have O3 := hide o3
        have F3 := hide f3
        clear o3 f3 pr
        refine hK'.out _ _ gg (fun hHeld => ?_)
        clear hK' K'
        simp only [List.setIfInBounds_toArray, List.set_cons_zero, List.set_cons_succ]
        refine wpAnyH_take (i := 8) (oi := { dst := some 61, op := Op.nilCheck (Operand.tmp 53), type := 0, pos := "law.go:115", after := #[{ on := 0, ground := Ground.data }, { on := 0, ground := Ground.phase }, { on := 1, ground := Ground.phase }, { on := 2, ground := Ground.phase }, { on := 3, ground := Ground.phase }, { on := 4, ground := Ground.phase }, { on := 5, ground := Ground.phase }, { on := 6, ground := Ground.phase }, { on := 7, ground := Ground.phase }], guard := none }) (v := ?_) rfl (by kernel_rfl) (by kernel_rfl) (by kernel_rfl) (fun _ _ _ h => h) (Or.inl ⟨by rfl, ?_⟩) (by assumption) ?_
        rotate_left
        · intro w hSw; (try dsimp only at hSw); go_simp; try with_reducible rfl
        simp only [Act.put, List.setIfInBounds_toArray, List.set_cons_zero, List.set_cons_succ]
        refine wpAnyH_take (i := 9) (oi := { dst := some 62, op := Op.fieldAddr 65 (Operand.tmp 61) 2, type := 0, pos := "law.go:115", after := #[{ on := 8, ground := Ground.data }, { on := 0, ground := Ground.phase }, { on := 1, ground := Ground.phase }, { on := 2, ground := Ground.phase }, { on := 3, ground := Ground.phase }, { on := 4, ground := Ground.phase }, { on := 5, ground := Ground.phase }, { on := 6, ground := Ground.phase }, { on := 7, ground := Ground.phase }], guard := none }) (v := ?_) rfl (by kernel_rfl) (by kernel_rfl) (by kernel_rfl) (fun _ _ _ h => h) (Or.inl ⟨by rfl, ?_⟩) (by assumption) ?_
        rotate_left
        · intro w hSw; (try dsimp only at hSw); go_simp; try with_reducible rfl
        simp only [Act.put, List.setIfInBounds_toArray, List.set_cons_zero, List.set_cons_succ]
        refine wpAnyH_ready (rs := [10]) (by kernel_rfl) (by simp) ?_
        refine AllReadyH.cons (o := { dst := none, op := Op.store 62 (Operand.tmp 62) (Operand.tmp 60), type := 0, pos := "law.go:115", after := #[{ on := 9, ground := Ground.data }, { on := 7, ground := Ground.data }, { on := 7, ground := Ground.chain }, { on := 0, ground := Ground.phase }, { on := 1, ground := Ground.phase }, { on := 2, ground := Ground.phase }, { on := 3, ground := Ground.phase }, { on := 4, ground := Ground.phase }, { on := 5, ground := Ground.phase }, { on := 6, ground := Ground.phase }, { on := 7, ground := Ground.phase }], guard := none }) rfl (fun K' hK' => ?_) AllReadyH.nil
        go_simp
        refine hK'.out _ _ ?_ (fun hHeld => ?_)
        · exact (Below.heap_setCell _ _ _ _ hXb).trans gg
        clear hK' K'
        try simp only [Act.put, List.setIfInBounds_toArray, List.set_cons_zero, List.set_cons_succ]
        refine wpAnyH_done (by kernel_rfl) ?_ _
        go_wp2
        go_end0
        exact ⟨rfl, unhide CLOSE _ (fin _ w3 (unhide O3) (unhide F3))⟩
end Go.Proofs.YtfmbebofllgmoaaGreatDoor
namespace Go.Proofs.YtfmbebofllgmoaaGreatDoor
open Go.RowKit
attribute [local go_sem ↓] Go.wp_at_zero Go.wp_at_succ

theorem rcL_two (l : List Nat) (x : Inp) (k : Nat) (h : rcL l = .inr (x, k)) : 2 ≤ k := by
  cases l with
  | nil => simp [rcL] at h
  | cons n t =>
    simp only [rcL] at h
    split at h
    · cases h
    split at h
    · cases h
    split at h
    · cases h
    split at h
    · cases h
    split at h
    · cases h
    · injection h with h
      injection h with _ h
      omega
theorem rdL_half : ∀ (f : Nat) (l : List Nat) (a : Nat), 2 * (rdL f l a).1.length ≤ l.length
  | 0, l, a => by simp [rdL]
  | f + 1, l, a => by
    simp only [rdL]
    cases h : rcL l with
    | inl w => simp
    | inr q =>
      obtain ⟨x, k⟩ := q
      have h1 := rcL_two l x k h
      have h2 := rcL_size l x k h
      simp only
      split
      · simp; omega
      · have ih := rdL_half f (l.drop k) (a + k)
        rw [List.length_drop] at ih
        simp only [List.length_cons]
        omega
theorem readL_half (l : List Nat) : 2 * (readL l).1.length ≤ l.length := by
  unfold readL
  split
  · have h := rdL_half (l.length + 1) (l.drop 3) 3
    rw [List.length_drop] at h
    omega
  · split <;> simp
end Go.Proofs.YtfmbebofllgmoaaGreatDoor
namespace Go.Proofs.YtfmbebofllgmoaaGreatDoor
open Go.RowKit
attribute [local go_sem ↓] Go.wp_at_zero Go.wp_at_succ

/-- Inputs in memory, in a block of P, with a capacity that is one. -/
structure InpsC (w : World) (v : Value) (ps : List (Inp × Value)) (P : Nat → Prop) : Prop where
  at_ : ∃ a c, v = .slice a ps.length c ∧ ps.length ≤ c ∧ (ps = [] ∨ ∃ q off, a = some ⟨q, off, none⟩ ∧ P q ∧ ∀ i y, ps[i]? = some y →
    w.cell? ⟨q, off + i * 4, none⟩ = some (.int .i64 (y.1.1 : Nat)) ∧ w.cell? ⟨q, off + i * 4 + 1, none⟩ = some (.int .i64 (y.1.2.1 : Nat)) ∧ w.cell? ⟨q, off + i * 4 + 2, none⟩ = some (.int .i64 (y.1.2.2.1 : Nat)) ∧ w.cell? ⟨q, off + i * 4 + 3, none⟩ = some y.2)
  fl : ∀ y, y ∈ ps → IntsIn w y.2 (zs y.1.2.2.2) P
theorem InpsC.keep {w w' : World} {v : Value} {ps : List (Inp × Value)} {P : Nat → Prop} (h : InpsC w v ps P) (hk : ∀ q, P q → w'.heap[q]? = w.heap[q]?) : InpsC w' v ps P := by
  obtain ⟨⟨a, c, hv, hc, hl⟩, hf⟩ := h
  refine ⟨⟨a, c, hv, hc, hl.imp id ?_⟩, fun y hy => intsIn_kept (hf y hy) hk (fun _ h => h)⟩
  rintro ⟨q, off, ha, hq, hcc⟩
  exact ⟨q, off, ha, hq, fun i y hy => ⟨(World.cell?_of_block (w := w) (a := ⟨q, _, none⟩) (hk q hq)).trans (hcc i y hy).1, (World.cell?_of_block (w := w) (a := ⟨q, _, none⟩) (hk q hq)).trans (hcc i y hy).2.1,
    (World.cell?_of_block (w := w) (a := ⟨q, _, none⟩) (hk q hq)).trans (hcc i y hy).2.2.1, (World.cell?_of_block (w := w) (a := ⟨q, _, none⟩) (hk q hq)).trans (hcc i y hy).2.2.2⟩⟩
/-- The first, and the rest. -/
theorem InpsC.cons {w : World} {v : Value} {y : Inp × Value} {r : List (Inp × Value)} {P : Nat → Prop} (h : InpsC w v (y :: r) P) : ∃ q off c, v = .slice (some ⟨q, off, none⟩) (r.length + 1) c ∧ r.length + 1 ≤ c ∧ P q ∧
    (w.cell? ⟨q, off, none⟩ = some (.int .i64 (y.1.1 : Nat)) ∧ w.cell? ⟨q, off + 1, none⟩ = some (.int .i64 (y.1.2.1 : Nat)) ∧ w.cell? ⟨q, off + 2, none⟩ = some (.int .i64 (y.1.2.2.1 : Nat)) ∧ w.cell? ⟨q, off + 3, none⟩ = some y.2) ∧ IntsIn w y.2 (zs y.1.2.2.2) P ∧
    InpsC w (.slice (if c = 1 then some ⟨q, off, none⟩ else some ⟨q, off + 4, none⟩) r.length (c - 1)) r P := by
  obtain ⟨⟨a, c, hv, hc, hl⟩, hf⟩ := h
  rcases hl with h0 | ⟨q, off, rfl, hq, hcc⟩
  · cases h0
  simp only [List.length_cons] at hv hc
  have h0 := hcc 0 y rfl
  rw [Nat.zero_mul, Nat.add_zero] at h0
  refine ⟨q, off, c, hv, hc, hq, h0, hf y (by simp), ⟨_, c - 1, rfl, by omega, ?_⟩, fun z hz => hf z (List.mem_cons_of_mem _ hz)⟩
  by_cases h1 : c = 1
  · left
    exact List.eq_nil_of_length_eq_zero (by omega)
  · right
    refine ⟨q, off + 4, by rw [if_neg h1], hq, fun i z hz => ?_⟩
    have := hcc (i + 1) z hz
    rw [show off + (i + 1) * 4 = off + 4 + i * 4 by omega] at this
    exact this
theorem DIns.inps {w : World} {B : Nat} {v : Value} {ps : List (Inp × Value)} (h : DIns w B v ps) : InpsC w v ps (fun q => q < w.heap.size) := by
  refine ⟨?_, fun y hy => intsIn_kept (h.fl y hy) (fun _ _ => rfl) (fun _ hq => hq.2.1)⟩
  rcases h.row.2 with ⟨hv, h0⟩ | ⟨g, cap, cur, hv, hB, hg, h1, h2, h3, h4⟩
  · exact ⟨none, 0, by rw [hv, h0], by omega, .inl (List.eq_nil_of_length_eq_zero h0)⟩
  · refine ⟨_, cap, hv, h1, ?_⟩
    by_cases h0 : ps.length = 0
    · exact .inl (List.eq_nil_of_length_eq_zero h0)
    right
    refine ⟨g, 0, rfl, (Array.getElem?_eq_some_iff.1 hg).1, fun i y hy => ?_⟩
    have hi : i < ps.length := (List.getElem?_eq_some_iff.1 hy).1
    obtain ⟨g', c', x, fv, e1, _, e2, k0, k1, k2, k3, _⟩ := h.cells hi
    rw [hy] at e2
    obtain rfl : y = (x, fv) := Option.some.inj e2
    rw [hv] at e1
    injection e1 with e1
    injection e1 with e1
    injection e1 with e1
    subst e1
    rw [Nat.zero_add]
    exact ⟨k0, k1, k2, k3⟩

/-- The document's source: an input stays where it ends the run. -/
def repAskQ (y : VL) (k o : Int) : Rep × VL := (repR y.1 k o, if (repR y.1 k o).e = 0 then y.tail else y)
theorem repAskQ_ok : SrcOk repAskQ (fun y => y.1.length) := by
  have h := repAsk_ok
  refine ⟨fun y k o => ?_, fun y he => ?_, h.clock, h.pick, h.files, h.most⟩
  · show (if (repR y.1 k o).e = 0 then y.tail else y).1.length ≤ y.1.length
    split
    · exact h.le y k o
    · exact Nat.le_refl _
  · show (if (repR y.1 1 0).e = 0 then y.tail else y).1.length < y.1.length
    have he' : (repR y.1 1 0).e = 0 := he
    rw [if_pos he']
    exact h.lt y he
theorem repQ_alike (may : Int → Int → Prop) : Alike repAskQ repAsk may (fun _ => True) (fun _ x y => x = y) (fun e _ _ _ => e = 5 ∨ e = 6) (fun _ _ => False) := by
  refine ⟨fun _ _ _ _ => trivial, fun h x y k o _ hxy _ => ?_, fun _ _ _ hp _ _ => hp.elim⟩
  subst hxy
  refine .inl ⟨rfl, fun he => ?_, fun he => ?_⟩
  · have he' : (repR x.1 k o).e = 0 := he
    show (if (repR x.1 k o).e = 0 then x.tail else x) = x.tail
    rw [if_pos he']
  · rcases repR_end x.1 k o with h0 | h0 | h0
    · exact absurd h0 he
    · left; show (repR x.1 k o).e = 5; rw [h0]; rfl
    · right; show (repR x.1 k o).e = 6; rw [h0]; rfl
/-- The document's run is the program's. -/
theorem repQ_run {p : Pg} (ok : PgOk p) (f : Int) (y : VL) : (runM repAskQ p (y.1.length + 1) f y).1 = (repM p f y).1 ∧ endR (repM p f y).1.fin (runM repAskQ p (y.1.length + 1) f y).2.1 = endR (repM p f y).1.fin (repM p f y).2.1 := by
  have h := runM_sim (repQ_alike mayR) mayR_ok repAskQ_ok.most ok (y.1.length + 1) f (x := y) (y := y) rfl trivial
  rcases h with ⟨e, q⟩ | ⟨_, h⟩
  · refine ⟨e, ?_⟩
    rcases q with q | ⟨_, q⟩
    · show endR _ (runM repAskQ p (y.1.length + 1) f y).2.1 = endR _ (runM repAsk p (y.1.length + 1) f y).2.1
      rw [q]
    · rw [e] at q
      change (repM p f y).1.fin = 5 ∨ (repM p f y).1.fin = 6 at q
      unfold endR
      rw [if_pos q, if_pos q]
  · exact h.elim

/-- The document's source in memory: a list of inputs, and how many were heard. -/
structure SQP (B : Nat) (pv : Nat → Value) (T : Nat → Prop) (w : World) (y : VL) : Prop where
  rep : pv 7 = .bool true
  ins : ∃ ps, InpsC w (pv 8) ps (fun q => q < B) ∧ ps.map (·.1) = y.1
  hd : ∃ H : List (Inp × Value), w.ownsRow B 49 4 (pv 9) H.length (flatP H) ∧ (∀ q, own (pv 9) q → T q) ∧ H.length + y.1.length ≤ 20000000
theorem SQP.law (B : Nat) : SQLaw (SQP B) B := ⟨fun h hk hb _ =>
  ⟨h.rep, by obtain ⟨ps, h1, h2⟩ := h.ins; exact ⟨ps, h1.keep hb, h2⟩, by
    obtain ⟨H, h1, h2, h3⟩ := h.hd
    exact ⟨H, ownsRow_of_block h1 (fun q hq => hk q (h2 q hq)), h2, h3⟩⟩⟩
end Go.Proofs.YtfmbebofllgmoaaGreatDoor
namespace Go.Proofs.YtfmbebofllgmoaaGreatDoor
open Go.RowKit
attribute [local go_sem ↓] Go.wp_at_zero Go.wp_at_succ

section
variable {B : Nat} {S T : Nat → Prop} {w : World} {b : Nat} {pv : Nat → Value} {vt va : Value} {s : PS} {A : List AT} {tn sq : Int} {y : VL}
set_option maxHeartbeats 400000 in
set_option maxRecDepth 20000 in
/-- There is no more to be heard. -/
theorem hearP_end (h : LQ (SQP B) B S w b pv vt va T s A tn sq y) (k o : Int) (he : y.1 = [] ∨ ∃ x r, y.1 = x :: r ∧ x.1 = 5 ∧ x.2.2.1 = 5) :
    Calls Tryz.prog 141 #[.pointer (some ⟨b, 0, none⟩), .int .i64 k, .int .i64 o] w fun e w' => e = .returned (.agg #[.int .i64 0, .int .i64 0, .int .i64 0, .slice none 0 0]) ∧ LPostS (SQP B) B S w b pv vt va A tn sq { s with fin := 5 } y w' := by
  have hb := h.blt
  have k7 := (h.cell 7 (by omega)).trans (by rw [limg_pv _ _ _ _ _ _ (by omega), h.src.rep])
  have k8 := (h.cell 8 (by omega)).trans (by rw [limg_pv _ _ _ _ _ _ (by omega)])
  have c27 := h.cell 27 (by omega)
  have z27 := h.free 27 (by omega)
  generalize limg pv vt va s tn 27 = o27 at c27
  obtain ⟨ps, hin, hps⟩ := h.src.ins
  have hB6 := h.below
  have hfin : LPostS (SQP B) B S w b pv vt va A tn sq { s with fin := 5 } y (((w.setCell ⟨b, 27, none⟩ (.int .i64 5)).alloc (.cells #[.int .i64 0, .int .i64 0, .int .i64 0, .slice none 0 0] 49)).alloc (.cells #[.int .i64 0, .int .i64 0, .int .i64 0, .slice none 0 0] 49)) := by
    refine ⟨S, pv, T, ?_, fun _ _ => rfl, ?_⟩
    · exact ((h.set (SQP.law B) 27 (.int .i64 5) { s with fin := 5 } (by omega) (lset_fin 5) rfl (h.rel.of rfl rfl) rfl).alloc (SQP.law B) _).alloc (SQP.law B) _
    · exact (((Fr.refl S w).setCell ⟨b, 27, none⟩ _ (.inl h.inB)).alloc _).alloc _
  have HFIN := hide hfin
  clear hfin h
  rcases he with he | ⟨x, r, he, h5, hn5⟩
  · obtain rfl : ps = [] := by rw [he] at hps; exact List.map_eq_nil_iff.1 hps
    obtain ⟨⟨a, c, hv, _⟩, _⟩ := hin
    rw [hv] at k8
    clear hv he hps
    go_enter Tryz.func141, Tryz.ntmps141
    go_wp2
    exact bodyPost_ret (v := .agg #[.int .i64 0, .int .i64 0, .int .i64 0, .slice none 0 0]) (by simp [results, Tryz.results141, go_sem]) rfl ⟨rfl, unhide HFIN⟩
  · obtain ⟨⟨i, fv⟩, rs, rfl⟩ : ∃ y rs, ps = y :: rs := by
      cases ps with
      | nil => rw [he] at hps; cases hps
      | cons y rs => exact ⟨y, rs, rfl⟩
    rw [he] at hps
    obtain rfl : i = x := (List.cons.inj hps).1
    obtain ⟨q, off, c, hv, hc, hq, ⟨q0, _, q2, _⟩, _, _⟩ := hin.cons
    rw [hv] at k8
    have g0 : w.cell? ⟨q, off, none⟩ = some (.int .i64 5) := by rw [q0, h5]; rfl
    have g2 : w.cell? ⟨q, off + 2, none⟩ = some (.int .i64 5) := by rw [q2, hn5]; rfl
    have hqw : q < w.heap.size := by omega
    obtain ⟨m, hm⟩ : ∃ m, m = rs.length := ⟨_, rfl⟩
    rw [← hm] at k8
    clear hv he hps hin q0 q2 hm hc h5 hn5
    go_enter Tryz.func141, Tryz.ntmps141
    go_wp2
    exact bodyPost_ret (v := .agg #[.int .i64 0, .int .i64 0, .int .i64 0, .slice none 0 0]) (by simp [results, Tryz.results141, go_sem]) rfl ⟨rfl, unhide HFIN⟩
end
end Go.Proofs.YtfmbebofllgmoaaGreatDoor
namespace Go.Proofs.YtfmbebofllgmoaaGreatDoor
open Go.RowKit
attribute [local go_sem ↓] Go.wp_at_zero Go.wp_at_succ

section
variable {B : Nat} {S T : Nat → Prop} {w : World} {b : Nat} {pv : Nat → Value} {vt va : Value} {s : PS} {A : List AT} {tn sq : Int} {y : VL}
set_option maxHeartbeats 400000 in
set_option maxRecDepth 20000 in
/-- Another is to be heard. -/
theorem hearP_div (h : LQ (SQP B) B S w b pv vt va T s A tn sq y) (k o : Int) {x : Inp} {r : List Inp} (he : y.1 = x :: r) (h5 : ¬ (x.1 = 5 ∧ x.2.2.1 = 5)) (hk5 : k ≠ 5) (hd : (x.1 : Int) ≠ k ∨ (x.2.1 : Int) ≠ o) :
    Calls Tryz.prog 141 #[.pointer (some ⟨b, 0, none⟩), .int .i64 k, .int .i64 o] w fun e w' => e = .returned (.agg #[.int .i64 0, .int .i64 0, .int .i64 0, .slice none 0 0]) ∧ LPostS (SQP B) B S w b pv vt va A tn sq { s with fin := 6 } y w' := by
  have hb := h.blt
  have k7 := (h.cell 7 (by omega)).trans (by rw [limg_pv _ _ _ _ _ _ (by omega), h.src.rep])
  have k8 := (h.cell 8 (by omega)).trans (by rw [limg_pv _ _ _ _ _ _ (by omega)])
  have c27 := h.cell 27 (by omega)
  have z27 := h.free 27 (by omega)
  generalize limg pv vt va s tn 27 = o27 at c27
  obtain ⟨ps, hin, hps⟩ := h.src.ins
  obtain ⟨⟨i, fv⟩, rs, rfl⟩ : ∃ y rs, ps = y :: rs := by
    cases ps with
    | nil => rw [he] at hps; cases hps
    | cons y rs => exact ⟨y, rs, rfl⟩
  rw [he] at hps
  obtain rfl : i = x := (List.cons.inj hps).1
  obtain ⟨q, off, c, hv, hc, hq, ⟨g0, g1, g2, g3⟩, hfi, _⟩ := hin.cons
  rw [hv] at k8
  obtain ⟨fa, fc, hfe, _⟩ := hfi
  dsimp only at g0 g1 g2 g3 hfe
  rw [hfe] at g3
  obtain ⟨kx, hkx⟩ : ∃ kx : Int, kx = (i.1 : Nat) := ⟨_, rfl⟩
  obtain ⟨ox, hox⟩ : ∃ ox : Int, ox = (i.2.1 : Nat) := ⟨_, rfl⟩
  obtain ⟨nx, hnx⟩ : ∃ nx : Int, nx = (i.2.2.1 : Nat) := ⟨_, rfl⟩
  obtain ⟨fn, hfn⟩ : ∃ fn : Nat, fn = (zs i.2.2.2).length := ⟨_, rfl⟩
  obtain ⟨m, hm⟩ : ∃ m, m = rs.length := ⟨_, rfl⟩
  rw [← hm] at k8
  rw [← hkx] at g0 hd
  rw [← hox] at g1 hd
  rw [← hnx] at g2
  rw [← hfn] at g3
  have hc5 : (kx = 5 ∧ ¬ nx = 5) ∨ ¬ kx = 5 := by omega
  have hB6 := h.below
  have hqw : q < w.heap.size := by omega
  have hqb : ¬ q = b := by have := (h.bound b h.inB).1; omega
  have hfin : LPostS (SQP B) B S w b pv vt va A tn sq { s with fin := 6 } y (((w.setCell ⟨b, 27, none⟩ (.int .i64 6)).alloc (.cells #[.int .i64 0, .int .i64 0, .int .i64 0, .slice none 0 0] 49)).alloc (.cells #[.int .i64 kx, .int .i64 ox, .int .i64 nx, .slice fa fn fc] 49)) := by
    refine ⟨S, pv, T, ?_, fun _ _ => rfl, ?_⟩
    · exact ((h.set (SQP.law B) 27 (.int .i64 6) { s with fin := 6 } (by omega) (lset_fin 6) rfl (h.rel.of rfl rfl) rfl).alloc (SQP.law B) _).alloc (SQP.law B) _
    · exact (((Fr.refl S w).setCell ⟨b, 27, none⟩ _ (.inl h.inB)).alloc _).alloc _
  have HFIN := hide hfin
  clear hfin h hv he hps hin h5 hkx hox hnx hfn hfe hm hc
  rcases hc5 with ⟨rfl, hn5⟩ | h5
  · have hdk : ¬ (5 : Int) = k := fun e => hk5 e.symm
    have hnb : (nx == 5) = false := by simpa using hn5
    clear hd hk5
    go_enter Tryz.func141, Tryz.ntmps141
    go_wp2
    exact bodyPost_ret (v := .agg #[.int .i64 0, .int .i64 0, .int .i64 0, .slice none 0 0]) (by simp [results, Tryz.results141, go_sem]) rfl ⟨rfl, unhide HFIN⟩
  · by_cases hdk : kx = k
    · have hdo : ¬ ox = o := by omega
      clear hd
      subst hdk
      go_enter Tryz.func141, Tryz.ntmps141
      go_wp2
      exact bodyPost_ret (v := .agg #[.int .i64 0, .int .i64 0, .int .i64 0, .slice none 0 0]) (by simp [results, Tryz.results141, go_sem]) rfl ⟨rfl, unhide HFIN⟩
    · clear hd
      go_enter Tryz.func141, Tryz.ntmps141
      go_wp2
      exact bodyPost_ret (v := .agg #[.int .i64 0, .int .i64 0, .int .i64 0, .slice none 0 0]) (by simp [results, Tryz.results141, go_sem]) rfl ⟨rfl, unhide HFIN⟩
end
end Go.Proofs.YtfmbebofllgmoaaGreatDoor
namespace Go.Proofs.YtfmbebofllgmoaaGreatDoor
open Go.RowKit
attribute [local go_sem ↓] Go.wp_at_zero Go.wp_at_succ

section
variable {B : Nat} {S T : Nat → Prop} {w : World} {b : Nat} {pv : Nat → Value} {vt va : Value} {s : PS} {A : List AT} {tn sq : Int} {y : VL}
set_option maxHeartbeats 4000000 in
/-- What was heard is laid behind the rest. -/
theorem hear_finP {W4 w5 : World} {ob : Obj} {v8 v9 fv vh : Value} {H : List (Inp × Value)} {i : Inp} {ps : List (Inp × Value)} {y' : VL} (h : LQ (SQP B) B S w b pv vt va T s A tn sq y) (hin : InpsC w v8 ps (fun q => q < B)) (hps : ps.map (·.1) = y'.1) (hleft : y'.1.length + 1 = y.1.length)
    (hrow : w.ownsRow B 49 4 vh H.length (flatP H)) (hown : ∀ q, own vh q → T q) (hcnt : H.length + y.1.length ≤ 20000000) (hnh : (H.length : Int) = s.heard) (hfl : IntsIn w fv (zs i.2.2.2) (fun q => q < B))
    (c4 : LAt W4 b (setC (limg pv vt va s tn) 8 v8)) (f04 : Fr (fun q => q = b) w W4 (fun q => q = b)) (hz4 : w.heap.size + 2 ≤ W4.heap.size) (o5 : w5.ownsRow B 49 4 v9 (H.length + 1) (flatP H ++ [.int .i64 (i.1 : Nat), .int .i64 (i.2.1 : Nat), .int .i64 (i.2.2.1 : Nat), fv])) (hv9 : ∃ a c, v9 = .slice a (H.length + 1) c) (f5 : Fr (own vh) (W4.alloc ob).drew w5 (own v9)) (u0 u1 u2 u3 : Value) :
    LPostS (SQP B) B S w b pv vt va A tn sq { s with heard := wrap64 (s.heard + 1) } y' (((((w5.setCell ⟨b, 9, none⟩ v9).setCell ⟨w.heap.size, 0, none⟩ u0).setCell ⟨w.heap.size, 1, none⟩ u1).setCell ⟨w.heap.size, 2, none⟩ u2).setCell ⟨w.heap.size, 3, none⟩ u3) ∧ IntsIn (((((w5.setCell ⟨b, 9, none⟩ v9).setCell ⟨w.heap.size, 0, none⟩ u0).setCell ⟨w.heap.size, 1, none⟩ u1).setCell ⟨w.heap.size, 2, none⟩ u2).setCell ⟨w.heap.size, 3, none⟩ u3) fv (zs i.2.2.2) (fun q => q < (((((w5.setCell ⟨b, 9, none⟩ v9).setCell ⟨w.heap.size, 0, none⟩ u0).setCell ⟨w.heap.size, 1, none⟩ u1).setCell ⟨w.heap.size, 2, none⟩ u2).setCell ⟨w.heap.size, 3, none⟩ u3).heap.size) := by
  have hb := h.blt
  have hBw := h.below
  have hbB := (h.bound b h.inB).1
  have hbT : ¬ T b := fun e => (h.inT b e).2 rfl
  have hTl : ∀ q, T q → B ≤ q ∧ q < w.heap.size := fun q hq => h.bound q (h.inT q hq).1
  generalize hW : (((((w5.setCell ⟨b, 9, none⟩ v9).setCell ⟨w.heap.size, 0, none⟩ u0).setCell ⟨w.heap.size, 1, none⟩ u1).setCell ⟨w.heap.size, 2, none⟩ u2).setCell ⟨w.heap.size, 3, none⟩ u3) = W
  have hWz : W.heap.size = w5.heap.size := by subst hW; simp [World.setCell]
  have hz4a : (W4.alloc ob).drew.heap.size = W4.heap.size + 1 := by show (W4.alloc ob).heap.size = _; simp
  have hz5 : W4.heap.size + 1 ≤ w5.heap.size := by have h1 := f5.size; omega
  have keep5 : ∀ q, q ≠ b → q ≠ w.heap.size → W.heap[q]? = w5.heap[q]? := fun q h1 h2 => by
    subst hW
    exact (Below.heap_setCell _ _ _ _ h2).trans ((Below.heap_setCell _ _ _ _ h2).trans ((Below.heap_setCell _ _ _ _ h2).trans ((Below.heap_setCell _ _ _ _ h2).trans (Below.heap_setCell _ _ _ _ h1))))
  have keep45 : ∀ q, q < W4.heap.size → ¬ own vh q → w5.heap[q]? = W4.heap[q]? := fun q h1 h2 => (f5.same q (by show q < (W4.alloc ob).heap.size; simp; omega) h2).trans (Below.heap_alloc W4 ob q h1)
  have keepw : ∀ q, q < w.heap.size → q ≠ b → ¬ own vh q → W.heap[q]? = w.heap[q]? := fun q h1 h2 h3 => (keep5 q h2 (by omega)).trans ((keep45 q (by omega) h3).trans (f04.same q h1 h2))
  have hvb : ¬ own vh b := fun e => hbT (hown b e)
  have hvl : ∀ q, own vh q → q < w.heap.size := fun q e => (World.ownsRow.lt hrow q e).2
  have hv9o : ∀ q, own v9 q → own vh q ∨ W4.heap.size ≤ q := fun q hq => by
    by_cases hl : q < W4.heap.size
    · exact .inl (f5.old q (by show q < (W4.alloc ob).heap.size; simp; omega) hq)
    · exact .inr (by omega)
  have hcells : LAt W b (limg (setC (setC pv 8 v8) 9 v9) vt va { s with heard := wrap64 (s.heard + 1) } tn) := by
    have e5 : LAt w5 b (setC (limg pv vt va s tn) 8 v8) := c4.block (keep45 b (by omega) hvb)
    have e6 := e5.set 9 v9 (by omega)
    have e7 : LAt W b (setC (setC (limg pv vt va s tn) 8 v8) 9 v9) := by
      subst hW
      exact (((e6.other (show ¬ b = w.heap.size by omega)).other (show ¬ b = w.heap.size by omega)).other (show ¬ b = w.heap.size by omega)).other (show ¬ b = w.heap.size by omega)
    refine e7.congr (fun k _ => ?_)
    rw [limg_setpv (by omega)]
    unfold setC
    by_cases e9 : k = 9
    · rw [if_pos e9, if_pos e9]
    · rw [if_neg e9, if_neg e9]
      have := limg_setpv (pv := pv) (vt := vt) (va := va) (s := { s with heard := wrap64 (s.heard + 1) }) (tn := tn) (j := 8) (v := v8) (by omega) k
      unfold setC at this
      rw [this]
      rfl
  have hrow' : W.ownsRow B 49 4 v9 (H ++ [(i, fv)]).length (flatP (H ++ [(i, fv)])) := by
    rw [List.length_append, flatP_append]
    refine ownsRow_of_block o5 (fun q hq => keep5 q (fun e => ?_) (fun e => ?_))
    · rcases hv9o q hq with h1 | h1
      · exact hvb (e ▸ h1)
      · omega
    · rcases hv9o q hq with h1 | h1
      · have := hvl q h1; omega
      · omega
  have hT' : ∀ q, (own v9 q ∨ (T q ∧ ¬ own vh q)) → q < W.heap.size ∧ q ≠ b := fun q hq => by
    rw [hWz]
    rcases hq with h1 | ⟨h1, _⟩
    · refine ⟨(World.ownsRow.lt o5 q h1).2, fun e => ?_⟩
      rcases hv9o q h1 with h2 | h2
      · exact hvb (e ▸ h2)
      · omega
    · have := hTl q h1
      exact ⟨by omega, fun e => hbT (e ▸ h1)⟩
  have hf : Fr (fun q => q = b ∨ T q) w W (fun q => q = b ∨ (own v9 q ∨ (T q ∧ ¬ own vh q))) := by
    have g1 : W.os = w.os ∧ W.tape = w.tape ∧ W.output = w.output := by
      have g0 := (((((Fr.refl (fun _ => True) w5).setCell ⟨b, 9, none⟩ v9 (.inl trivial)).setCell ⟨w.heap.size, 0, none⟩ u0 (.inl trivial)).setCell ⟨w.heap.size, 1, none⟩ u1 (.inl trivial)).setCell ⟨w.heap.size, 2, none⟩ u2 (.inl trivial)).setCell ⟨w.heap.size, 3, none⟩ u3 (.inl trivial)
      rw [hW] at g0
      exact ⟨g0.os.trans (f5.os.trans f04.os), g0.tape.trans (f5.tape.trans f04.tape), g0.output.trans (f5.output.trans f04.output)⟩
    refine ⟨g1.1, g1.2.1, g1.2.2, by rw [hWz]; omega, fun k hk hn => keepw k hk (fun e => hn (.inl e)) (fun e => hn (.inr (hown k e))), fun k hk hq => ?_⟩
    rcases hq with h1 | h1 | ⟨h1, _⟩
    · exact .inl h1
    · rcases hv9o k h1 with h2 | h2
      · exact .inr (hown k h2)
      · omega
    · exact .inr h1
  have hbelow : ∀ q, q < B → W.heap[q]? = w.heap[q]? := fun q hq => keepw q (by omega) (by omega) (fun e => by have := (World.ownsRow.lt hrow q e).1; omega)
  have hpv : ∀ k, k ≠ 9 → setC (setC pv 8 v8) 9 v9 k = setC pv 8 v8 k := fun k hk => by show (if k = 9 then v9 else setC pv 8 v8 k) = _; rw [if_neg hk]
  have h9 : setC (setC pv 8 v8) 9 v9 9 = v9 := by show (if 9 = 9 then v9 else setC pv 8 v8 9) = v9; rw [if_pos rfl]
  have h8 : setC (setC pv 8 v8) 9 v9 8 = v8 := by rw [hpv 8 (by omega)]; show (if 8 = 8 then v8 else pv 8) = v8; rw [if_pos rfl]
  have hsrc : SQP B (setC (setC pv 8 v8) 9 v9) (fun q => own v9 q ∨ (T q ∧ ¬ own vh q)) W y' := by
    refine ⟨?_, ⟨ps, by rw [h8]; exact hin.keep hbelow, hps⟩, H ++ [(i, fv)], ?_, ?_, ?_⟩
    · rw [hpv 7 (by omega)]
      show (if 7 = 8 then v8 else pv 7) = _
      rw [if_neg (by omega)]
      exact h.src.rep
    · rw [h9]; exact hrow'
    · rw [h9]; exact fun q hq => .inl hq
    · rw [List.length_append]; simp only [List.length_cons, List.length_nil]; omega
  obtain ⟨a9, c9, e9⟩ := hv9
  have hreb := h.rebuild (s' := { s with heard := wrap64 (s.heard + 1) }) hf hcells hsrc hT' rfl (h.rel.of rfl rfl) ⟨a9, H.length + 1, c9, by rw [h9]; exact e9, by show _ = wrap64 (s.heard + 1); rw [← hnh]; unfold wrap64; omega⟩
  refine ⟨⟨_, _, _, hreb.1, fun k hk => ?_, hreb.2⟩, ?_⟩
  · rw [hpv k (by omega)]
    show (if k = 8 then v8 else pv k) = _
    rw [if_neg (by omega)]
  · exact intsIn_kept hfl hbelow (fun q hq => by rw [hWz]; omega)
end
end Go.Proofs.YtfmbebofllgmoaaGreatDoor
namespace Go.Proofs.YtfmbebofllgmoaaGreatDoor
open Go.RowKit
attribute [local go_sem ↓] Go.wp_at_zero Go.wp_at_succ

section
variable {B : Nat} {S T : Nat → Prop} {w : World} {b : Nat} {pv : Nat → Value} {vt va : Value} {s : PS} {A : List AT} {tn sq : Int} {y : VL}
set_option maxHeartbeats 1000000 in
set_option maxRecDepth 20000 in
/-- The next input is heard. -/
theorem hearP_ok (h : LQ (SQP B) B S w b pv vt va T s A tn sq y) (i : Inp) {r : List Inp} (he : y.1 = i :: r) (h5 : i.1 ≠ 5) :
    Calls Tryz.prog 141 #[.pointer (some ⟨b, 0, none⟩), .int .i64 (i.1 : Nat), .int .i64 (i.2.1 : Nat)] w fun e w' => ∃ fa fc, e = .returned (.agg #[.int .i64 (i.1 : Nat), .int .i64 (i.2.1 : Nat), .int .i64 (i.2.2.1 : Nat), .slice fa (zs i.2.2.2).length fc]) ∧ LPostS (SQP B) B S w b pv vt va A tn sq { s with heard := wrap64 (s.heard + 1) } y.tail w' ∧ IntsIn w' (.slice fa (zs i.2.2.2).length fc) (zs i.2.2.2) (fun q => q < w'.heap.size) := by
  have hb := h.blt
  have hB6 : B ≤ w.heap.size := h.below
  obtain ⟨hB, hbB⟩ := h.bound b h.inB
  have k7 := (h.cell 7 (by omega)).trans (by rw [limg_pv _ _ _ _ _ _ (by omega), h.src.rep])
  have k8 := (h.cell 8 (by omega)).trans (by rw [limg_pv _ _ _ _ _ _ (by omega)])
  have z8 := h.free 8 (by omega)
  obtain ⟨ps, hin, hps⟩ := h.src.ins
  obtain ⟨⟨j, fv⟩, rs, rfl⟩ : ∃ y rs, ps = y :: rs := by
    cases ps with
    | nil => rw [he] at hps; cases hps
    | cons y rs => exact ⟨y, rs, rfl⟩
  rw [he] at hps
  obtain rfl : j = i := (List.cons.inj hps).1
  have hrs : rs.map (·.1) = y.tail.1 := by show _ = y.1.tail; rw [he]; exact (List.cons.inj hps).2
  have hleft : y.tail.1.length + 1 = y.1.length := by show y.1.tail.length + 1 = _; rw [he]; simp
  obtain ⟨q, off, c, hv, hc, hq, ⟨g0, g1, g2, g3⟩, hfi, hin8⟩ := hin.cons
  rw [hv] at k8
  obtain ⟨fa, fc, hfe, _⟩ := id hfi
  dsimp only at g0 g1 g2 g3 hfe hfi
  rw [hfe] at g3 hfi
  obtain ⟨ik, io, in_, ifl⟩ := j
  dsimp only at g0 g1 g2 g3 hfi h5 ⊢
  have h5i : ¬ ((ik : Nat) : Int) = 5 := by omega
  have hqw : q < w.heap.size := by omega
  have hqb : ¬ q = b := by omega
  obtain ⟨H, hrow, hown, hcnt⟩ := h.src.hd
  obtain ⟨ha, hn, hcp, hp9, hnh⟩ := h.hc
  have hHn : H.length = hn := by
    obtain ⟨a1, c1, e1⟩ := row_shape hrow
    rw [hp9] at e1
    injection e1 with _ e1
    exact e1.symm
  subst hHn
  rw [hp9] at hrow hown
  have k9 := (h.cell 9 (by omega)).trans (by rw [limg_pv _ _ _ _ _ _ (by omega), hp9])
  have z9 := h.free 9 (by omega)
  obtain ⟨m, hm⟩ : ∃ m, m = rs.length := ⟨_, rfl⟩
  rw [← hm] at k8 hin8 hc
  have e9 := limg_pv pv vt va s tn 9 (by omega)
  rw [hp9] at e9
  have HH := hide h
  have HIN := hide hin8
  have HRS := hide hrs
  have HLEFT := hide hleft
  have HFI := hide hfi
  have HOWN := hide hown
  have HROW := hide hrow
  have HCNT := hide hcnt
  have HNH := hide hnh
  have E9 := hide e9
  have hci : (m : Int) + 1 ≤ (c : Int) := by omega
  clear h hin hin8 hrs hleft hfi hown hrow hcnt hnh he hps hv hp9 hfe h5 e9 hm
  have gen : ∀ v8, InpsC w v8 rs (fun q => q < B) → Hid (
      (((w.setCell ⟨b, 8, none⟩ v8).alloc (.cells #[.int .i64 0, .int .i64 0, .int .i64 0, .slice none 0 0] 49)).alloc (.cells #[.int .i64 (ik : Nat), .int .i64 (io : Nat), .int .i64 (in_ : Nat), .slice fa (zs ifl).length fc] 49)).heap[w.heap.size + 1]? = some (.cells #[.int .i64 (ik : Nat), .int .i64 (io : Nat), .int .i64 (in_ : Nat), .slice fa (zs ifl).length fc] 49) ∧ (((w.setCell ⟨b, 8, none⟩ v8).alloc (.cells #[.int .i64 0, .int .i64 0, .int .i64 0, .slice none 0 0] 49)).alloc (.cells #[.int .i64 (ik : Nat), .int .i64 (io : Nat), .int .i64 (in_ : Nat), .slice fa (zs ifl).length fc] 49)).heap[w.heap.size]? = some (.cells #[.int .i64 0, .int .i64 0, .int .i64 0, .slice none 0 0] 49) ∧ LAt (((w.setCell ⟨b, 8, none⟩ v8).alloc (.cells #[.int .i64 0, .int .i64 0, .int .i64 0, .slice none 0 0] 49)).alloc (.cells #[.int .i64 (ik : Nat), .int .i64 (io : Nat), .int .i64 (in_ : Nat), .slice fa (zs ifl).length fc] 49)) b (setC (limg pv vt va s tn) 8 v8) ∧ Fr (fun q => q = b) w (((w.setCell ⟨b, 8, none⟩ v8).alloc (.cells #[.int .i64 0, .int .i64 0, .int .i64 0, .slice none 0 0] 49)).alloc (.cells #[.int .i64 (ik : Nat), .int .i64 (io : Nat), .int .i64 (in_ : Nat), .slice fa (zs ifl).length fc] 49)) (fun q => q = b) ∧
      w.heap.size + 2 ≤ (((w.setCell ⟨b, 8, none⟩ v8).alloc (.cells #[.int .i64 0, .int .i64 0, .int .i64 0, .slice none 0 0] 49)).alloc (.cells #[.int .i64 (ik : Nat), .int .i64 (io : Nat), .int .i64 (in_ : Nat), .slice fa (zs ifl).length fc] 49)).heap.size ∧ (((w.setCell ⟨b, 8, none⟩ v8).alloc (.cells #[.int .i64 0, .int .i64 0, .int .i64 0, .slice none 0 0] 49)).alloc (.cells #[.int .i64 (ik : Nat), .int .i64 (io : Nat), .int .i64 (in_ : Nat), .slice fa (zs ifl).length fc] 49)).ownsRow B 49 4 (.slice ha H.length hcp) H.length (flatP H) ∧ (((w.setCell ⟨b, 8, none⟩ v8).alloc (.cells #[.int .i64 0, .int .i64 0, .int .i64 0, .slice none 0 0] 49)).alloc (.cells #[.int .i64 (ik : Nat), .int .i64 (io : Nat), .int .i64 (in_ : Nat), .slice fa (zs ifl).length fc] 49)).cell? ⟨b, 9, none⟩ = some (.slice ha H.length hcp) ∧ (((w.setCell ⟨b, 8, none⟩ v8).alloc (.cells #[.int .i64 0, .int .i64 0, .int .i64 0, .slice none 0 0] 49)).alloc (.cells #[.int .i64 (ik : Nat), .int .i64 (io : Nat), .int .i64 (in_ : Nat), .slice fa (zs ifl).length fc] 49)).frozen? ⟨b, 9, none⟩ = false) := by
    intro v8 _
    have zW : (w.setCell ⟨b, 8, none⟩ v8).heap.size = w.heap.size := by simp [World.setCell]
    have zW1 : ((w.setCell ⟨b, 8, none⟩ v8).alloc (.cells #[.int .i64 0, .int .i64 0, .int .i64 0, .slice none 0 0] 49)).heap.size = w.heap.size + 1 := by simp [World.setCell]
    have c4 : LAt (((w.setCell ⟨b, 8, none⟩ v8).alloc (.cells #[.int .i64 0, .int .i64 0, .int .i64 0, .slice none 0 0] 49)).alloc (.cells #[.int .i64 (ik : Nat), .int .i64 (io : Nat), .int .i64 (in_ : Nat), .slice fa (zs ifl).length fc] 49)) b (setC (limg pv vt va s tn) 8 v8) := (((unhide HH).cells.set 8 v8 (by omega))).block ((Below.heap_alloc _ _ _ (by rw [zW1]; omega)).trans (Below.heap_alloc _ _ _ (by rw [zW]; omega)))
    have f4 : Fr (fun q => q = b) w (((w.setCell ⟨b, 8, none⟩ v8).alloc (.cells #[.int .i64 0, .int .i64 0, .int .i64 0, .slice none 0 0] 49)).alloc (.cells #[.int .i64 (ik : Nat), .int .i64 (io : Nat), .int .i64 (in_ : Nat), .slice fa (zs ifl).length fc] 49)) (fun q => q = b) := (((Fr.refl (fun q => q = b) w).setCell ⟨b, 8, none⟩ v8 (.inl rfl)).alloc _).alloc _
    refine ⟨?_, ?_, c4, f4, by simp [World.setCell], ownsRow_of_block (unhide HROW) (fun q hq => f4.same q (World.ownsRow.lt (unhide HROW) q hq).2 (fun e => ((unhide HH).inT q (unhide HOWN q hq)).2 e)), ?_, (c4 9 (by omega)).2⟩
    · have h := heap_alloc_new ((w.setCell ⟨b, 8, none⟩ v8).alloc (.cells #[.int .i64 0, .int .i64 0, .int .i64 0, .slice none 0 0] 49)) (.cells #[.int .i64 (ik : Nat), .int .i64 (io : Nat), .int .i64 (in_ : Nat), .slice fa (zs ifl).length fc] 49)
      rwa [zW1] at h
    · refine (Below.heap_alloc _ _ _ (by rw [zW1]; omega)).trans ?_
      have h := heap_alloc_new (w.setCell ⟨b, 8, none⟩ v8) (.cells #[.int .i64 0, .int .i64 0, .int .i64 0, .slice none 0 0] 49)
      rwa [zW] at h
    · rw [(c4 9 (by omega)).1]
      unfold setC
      rw [if_neg (by omega), unhide E9]
  have hbz : ¬ w.heap.size = b := by omega
  have hbz1 : ¬ w.heap.size + 1 = b := by omega
  by_cases hc1 : c = 1
  · subst hc1
    obtain rfl : m = 0 := by omega
    have hi8 : InpsC w (.slice (some ⟨q, off, none⟩) 0 0) rs (fun q => q < B) := by have := unhide HIN; simpa using this
    have G4 := gen _ hi8
    have HI8 := hide hi8
    clear hi8
    clear HIN gen hci hc
    go_enter Tryz.func141, Tryz.ntmps141
    go_wp2
    generalize (Value.slice (some { block := q, off := off }) 0 0) = v8 at HI8 G4 ⊢
    generalize hW4 : ((w.setCell ⟨b, 8, none⟩ v8).alloc (.cells #[.int .i64 0, .int .i64 0, .int .i64 0, .slice none 0 0] 49)).alloc (.cells #[.int .i64 (ik : Nat), .int .i64 (io : Nat), .int .i64 (in_ : Nat), .slice fa (zs ifl).length fc] 49) = W4 at G4 ⊢
    clear hW4
    obtain ⟨y7, y6, cells4, f04, hz4, hrow4, c9, z9'⟩ := unhide G4
    have l6 := (Array.getElem?_eq_some_iff.1 y6).1
    have l7 := (Array.getElem?_eq_some_iff.1 y7).1
    have Y7 := hide y7
    have Y6 := hide y6
    have R4 := hide hrow4
    have C4 := hide cells4
    have F04 := hide f04
    have hBW4 : B ≤ W4.heap.size := by omega
    have hb4 : b < W4.heap.size := by omega
    clear hrow4 cells4 f04 y6 y7 G4 k7 k8 k9 z8 z9 g0 g1 g2 g3 E9
    have hq7 : ∀ o, (W4.alloc o).drew.heap[w.heap.size + 1]? = some (.cells #[.int .i64 (ik : Nat), .int .i64 (io : Nat), .int .i64 (in_ : Nat), .slice fa (zs ifl).length fc] 49) := fun o => (Below.heap_alloc W4 o _ l7).trans (unhide Y7)
    have cq9 : ∀ o, (W4.alloc o).drew.cell? ⟨b, 9, none⟩ = some (.slice ha H.length hcp) := fun o => (World.cell?_of_block (w := W4) (a := ⟨b, 9, none⟩) (Below.heap_alloc W4 o _ hb4)).trans c9
    refine wp_region_held_drew (S := fun w' => w'.heap[w.heap.size + 1]? = some (.cells #[.int .i64 (ik : Nat), .int .i64 (io : Nat), .int .i64 (in_ : Nat), .slice fa (zs ifl).length fc] 49)) (by kernel_rfl) ?_ (fun hHeld => ?_)
    · exact unhide Y7
    refine wpAnyH_take (i := 0) (oi := { dst := some 87, op := Op.move (Operand.tmp 0), type := 177, pos := "run.go:167", after := #[], guard := none }) (v := ?_) rfl (by kernel_rfl) (by kernel_rfl) (by kernel_rfl) (fun _ _ _ h => h) (Or.inl ⟨by rfl, ?_⟩) (by assumption) ?_
    rotate_left
    · intro w hSw; have c7 := fun j => cell_of_row w _ j _ 49 (0, 0) hSw; go_simp; try with_reducible rfl
    simp only [Act.put, List.setIfInBounds_toArray, List.set_cons_zero, List.set_cons_succ]
    refine wpAnyH_take (i := 1) (oi := { dst := some 88, op := Op.move (Operand.tmp 0), type := 177, pos := "run.go:167", after := #[], guard := none }) (v := ?_) rfl (by kernel_rfl) (by kernel_rfl) (by kernel_rfl) (fun _ _ _ h => h) (Or.inl ⟨by rfl, ?_⟩) (by assumption) ?_
    rotate_left
    · intro w hSw; have c7 := fun j => cell_of_row w _ j _ 49 (0, 0) hSw; go_simp; try with_reducible rfl
    simp only [Act.put, List.setIfInBounds_toArray, List.set_cons_zero, List.set_cons_succ]
    refine wpAnyH_take (i := 2) (oi := { dst := some 89, op := Op.nilCheck (Operand.tmp 88), type := 0, pos := "run.go:167", after := #[{ on := 1, ground := Ground.data }], guard := none }) (v := ?_) rfl (by kernel_rfl) (by kernel_rfl) (by kernel_rfl) (fun _ _ _ h => h) (Or.inl ⟨by rfl, ?_⟩) (by assumption) ?_
    rotate_left
    · intro w hSw; have c7 := fun j => cell_of_row w _ j _ 49 (0, 0) hSw; go_simp; try with_reducible rfl
    simp only [Act.put, List.setIfInBounds_toArray, List.set_cons_zero, List.set_cons_succ]
    refine wpAnyH_take (i := 3) (oi := { dst := some 90, op := Op.fieldAddr 180 (Operand.tmp 89) 4, type := 0, pos := "run.go:167", after := #[{ on := 2, ground := Ground.data }], guard := none }) (v := ?_) rfl (by kernel_rfl) (by kernel_rfl) (by kernel_rfl) (fun _ _ _ h => h) (Or.inl ⟨by rfl, ?_⟩) (by assumption) ?_
    rotate_left
    · intro w hSw; have c7 := fun j => cell_of_row w _ j _ 49 (0, 0) hSw; go_simp; try with_reducible rfl
    simp only [Act.put, List.setIfInBounds_toArray, List.set_cons_zero, List.set_cons_succ]
    refine wpAnyH_take (i := 5) (oi := { dst := some 92, op := Op.load 49 (Operand.tmp 7), type := 49, pos := "run.go:167", after := #[], guard := none }) (v := ?_) rfl (by kernel_rfl) (by kernel_rfl) (by kernel_rfl) (fun _ _ _ h => h) (Or.inl ⟨by rfl, ?_⟩) (by assumption) ?_
    rotate_left
    · intro w hSw; have c7 := fun j => cell_of_row w _ j _ 49 (0, 0) hSw; go_simp; try with_reducible rfl
    simp only [Act.put, List.setIfInBounds_toArray, List.set_cons_zero, List.set_cons_succ]
    refine wpAnyH_ready (rs := [4, 6]) (by kernel_rfl) (by simp) ?_
    refine AllReadyH.cons (o := { dst := some 91, op := Op.load 44 (Operand.tmp 90), type := 44, pos := "run.go:167", after := #[{ on := 3, ground := Ground.data }], guard := none }) rfl (fun K' hK' => ?_) (AllReadyH.cons (o := { dst := some 93, op := Op.buildSlice 44 1 #[(0, Operand.tmp 92)], type := 44, pos := "run.go:167", after := #[{ on := 5, ground := Ground.data }], guard := none }) rfl (fun K' hK' => ?_) AllReadyH.nil)
    · go_simp
      refine hK'.out _ _ ?_ (fun hHeld => ?_)
      · exact unhide Y7
      clear hK' K'
      try simp only [Act.put, List.setIfInBounds_toArray, List.set_cons_zero, List.set_cons_succ]
      refine wpAnyH_ready (rs := [6]) (by kernel_rfl) (by simp) ?_
      refine AllReadyH.cons (o := { dst := some 93, op := Op.buildSlice 44 1 #[(0, Operand.tmp 92)], type := 44, pos := "run.go:167", after := #[{ on := 5, ground := Ground.data }], guard := none }) rfl (fun K' hK' => ?_) AllReadyH.nil
      go_simp
      refine hK'.out _ _ ?_ (fun hHeld => ?_)
      · exact hq7 _
      clear hK' K'
      try simp only [Act.put, List.setIfInBounds_toArray, List.set_cons_zero, List.set_cons_succ]
      refine wpAnyH_ready (rs := [7]) (by kernel_rfl) (by simp) ?_
      refine AllReadyH.cons (o := { dst := some 94, op := Op.call { callee := Callee.builtin Builtin.append, args := #[Operand.tmp 91, Operand.tmp 93], argTypes := #[44, 44] }, type := 44, pos := "run.go:167", after := #[{ on := 4, ground := Ground.data }, { on := 6, ground := Ground.data }], guard := none }) rfl (fun K' hK' => ?_) AllReadyH.nil
      refine step_grown (d := 94) rfl elemIn (by decide) (by decide) (v := .slice ha H.length hcp) (n := H.length) (m := 1) (xs := flatP H) (news := [.int .i64 (ik : Nat), .int .i64 (io : Nat), .int .i64 (in_ : Nat), .slice fa (zs ifl).length fc]) (B := B) (ad := ⟨W4.heap.size, 0, none⟩) (cap := 1) rfl (.tmp 91) (.tmp 93) rfl rfl rfl (World.ownsRow.alloc (unhide R4) (.cells #[.int .i64 (ik : Nat), .int .i64 (io : Nat), .int .i64 (in_ : Nat), .slice fa (zs ifl).length fc] 49)) rfl (World.news_of_block (heap_alloc_new W4 _)) (by simp [Value.oneCell']) (by omega) (by have := unhide HCNT; omega) (by show B ≤ (W4.alloc _).heap.size; simp; omega) ?_
      intro v5 w5 o5 f5 sh5
      obtain ⟨av, cv, rfl⟩ := sh5
      have hb5 : w5.heap[b]? = W4.heap[b]? := (f5.same b (by show b < (W4.alloc _).heap.size; simp; omega) (fun e => ((unhide HH).inT b (unhide HOWN b e)).2 rfl)).trans (Below.heap_alloc W4 _ _ hb4)
      have p9 := (World.cell?_of_block (w := W4) (a := ⟨b, 9, none⟩) hb5).trans c9
      have pz9 := (World.frozen?_of_block (w := W4) (a := ⟨b, 9, none⟩) hb5).trans z9'
      have nown : ∀ q, w.heap.size ≤ q → ¬ own (.slice ha H.length hcp) q := fun q hq e => by have := (World.ownsRow.lt (unhide HROW) q e).2; omega
      have g7 : w5.heap[w.heap.size + 1]? = some (.cells #[.int .i64 (ik : Nat), .int .i64 (io : Nat), .int .i64 (in_ : Nat), .slice fa (zs ifl).length fc] 49) := (f5.same _ (by show _ < (W4.alloc _).heap.size; simp; omega) (nown _ (by omega))).trans (hq7 _)
      have g6 : w5.heap[w.heap.size]? = _ := (f5.same _ (by show _ < (W4.alloc _).heap.size; simp; omega) (nown _ (Nat.le_refl _))).trans ((Below.heap_alloc W4 _ _ l6).trans (unhide Y6))
      have O5 := hide o5
      have F5 := hide f5
      have G6 := hide g6
      have G7 := hide g7
      have k6 := fun j => cell_of_row w5 _ j _ 49 (0, 0) g6
      have t6 := fun j => frozen_rowE g6 j
      have k7 := fun j => cell_of_row w5 _ j _ 49 (0, 0) g7
      have l6' := (Array.getElem?_eq_some_iff.1 g6).1
      have l7' := (Array.getElem?_eq_some_iff.1 g7).1
      clear o5 f5 nown hb5
      refine hK'.out _ _ g7 (fun hHeld => ?_)
      clear hK' K'
      simp only [List.setIfInBounds_toArray, List.set_cons_zero, List.set_cons_succ]
      refine wpAnyH_take (i := 8) (oi := { dst := some 95, op := Op.nilCheck (Operand.tmp 87), type := 0, pos := "run.go:167", after := #[{ on := 0, ground := Ground.data }, { on := 0, ground := Ground.phase }, { on := 1, ground := Ground.phase }, { on := 2, ground := Ground.phase }, { on := 3, ground := Ground.phase }, { on := 4, ground := Ground.phase }, { on := 5, ground := Ground.phase }, { on := 6, ground := Ground.phase }, { on := 7, ground := Ground.phase }], guard := none }) (v := ?_) rfl (by kernel_rfl) (by kernel_rfl) (by kernel_rfl) (fun _ _ _ h => h) (Or.inl ⟨by rfl, ?_⟩) (by assumption) ?_
      rotate_left
      · intro w hSw; have c7 := fun j => cell_of_row w _ j _ 49 (0, 0) hSw; go_simp; try with_reducible rfl
      simp only [Act.put, List.setIfInBounds_toArray, List.set_cons_zero, List.set_cons_succ]
      refine wpAnyH_take (i := 9) (oi := { dst := some 96, op := Op.fieldAddr 180 (Operand.tmp 95) 4, type := 0, pos := "run.go:167", after := #[{ on := 8, ground := Ground.data }, { on := 0, ground := Ground.phase }, { on := 1, ground := Ground.phase }, { on := 2, ground := Ground.phase }, { on := 3, ground := Ground.phase }, { on := 4, ground := Ground.phase }, { on := 5, ground := Ground.phase }, { on := 6, ground := Ground.phase }, { on := 7, ground := Ground.phase }], guard := none }) (v := ?_) rfl (by kernel_rfl) (by kernel_rfl) (by kernel_rfl) (fun _ _ _ h => h) (Or.inl ⟨by rfl, ?_⟩) (by assumption) ?_
      rotate_left
      · intro w hSw; have c7 := fun j => cell_of_row w _ j _ 49 (0, 0) hSw; go_simp; try with_reducible rfl
      simp only [Act.put, List.setIfInBounds_toArray, List.set_cons_zero, List.set_cons_succ]
      refine wpAnyH_ready (rs := [10]) (by kernel_rfl) (by simp) ?_
      refine AllReadyH.cons (o := { dst := none, op := Op.store 44 (Operand.tmp 96) (Operand.tmp 94), type := 0, pos := "run.go:167", after := #[{ on := 9, ground := Ground.data }, { on := 7, ground := Ground.data }, { on := 7, ground := Ground.chain }, { on := 0, ground := Ground.phase }, { on := 1, ground := Ground.phase }, { on := 2, ground := Ground.phase }, { on := 3, ground := Ground.phase }, { on := 4, ground := Ground.phase }, { on := 5, ground := Ground.phase }, { on := 6, ground := Ground.phase }, { on := 7, ground := Ground.phase }], guard := none }) rfl (fun K' hK' => ?_) AllReadyH.nil
      go_simp
      refine hK'.out _ _ ?_ (fun hHeld => ?_)
      · exact (Below.heap_setCell _ _ _ _ hbz1).trans g7
      clear hK' K'
      try simp only [Act.put, List.setIfInBounds_toArray, List.set_cons_zero, List.set_cons_succ]
      refine wpAnyH_done (by kernel_rfl) ?_ _
      clear g6 g7
      go_wp2
      have y6 : (((((w5.setCell ⟨b, 9, none⟩ (.slice av (H.length + 1) cv)).setCell ⟨w.heap.size, 0, none⟩ (.int .i64 (ik : Nat))).setCell ⟨w.heap.size, 1, none⟩ (.int .i64 (io : Nat))).setCell ⟨w.heap.size, 2, none⟩ (.int .i64 (in_ : Nat))).setCell ⟨w.heap.size, 3, none⟩ (.slice fa (zs ifl).length fc)).heap[w.heap.size]? = some (.cells #[.int .i64 (ik : Nat), .int .i64 (io : Nat), .int .i64 (in_ : Nat), .slice fa (zs ifl).length fc] 49) := setCell_row _ _ 3 _ 49 _ (setCell_row _ _ 2 _ 49 _ (setCell_row _ _ 1 _ 49 _ (setCell_row _ _ 0 _ 49 _ ((Below.heap_setCell _ _ _ _ hbz).trans (unhide G6)))))
      have ky := fun j => cell_of_row _ _ j _ 49 (0, 0) y6
      have hfin := hear_finP (ob := (.cells #[.int .i64 (ik : Nat), .int .i64 (io : Nat), .int .i64 (in_ : Nat), .slice fa (zs ifl).length fc] 49)) (i := (ik, io, in_, ifl)) (unhide HH) (unhide HI8) (unhide HRS) (unhide HLEFT) (unhide HROW) (unhide HOWN) (unhide HCNT) (unhide HNH) (unhide HFI) (unhide C4) (unhide F04) hz4 (unhide O5) ⟨av, cv, rfl⟩ (unhide F5) (.int .i64 (ik : Nat)) (.int .i64 (io : Nat)) (.int .i64 (in_ : Nat)) (.slice fa (zs ifl).length fc)
      have HFIN := hide hfin
      clear hfin
      refine bodyPost_ret (v := .agg #[.int .i64 (ik : Nat), .int .i64 (io : Nat), .int .i64 (in_ : Nat), .slice fa (zs ifl).length fc]) (by simp [results, Tryz.results141, go_sem, ky]) rfl ?_
      exact ⟨fa, fc, rfl, (unhide HFIN).1, (unhide HFIN).2⟩
    · go_simp
      refine hK'.out _ _ ?_ (fun hHeld => ?_)
      · exact hq7 _
      clear hK' K'
      try simp only [Act.put, List.setIfInBounds_toArray, List.set_cons_zero, List.set_cons_succ]
      refine wpAnyH_ready (rs := [4]) (by kernel_rfl) (by simp) ?_
      refine AllReadyH.cons (o := { dst := some 91, op := Op.load 44 (Operand.tmp 90), type := 44, pos := "run.go:167", after := #[{ on := 3, ground := Ground.data }], guard := none }) rfl (fun K' hK' => ?_) AllReadyH.nil
      go_simp
      refine hK'.out _ _ ?_ (fun hHeld => ?_)
      · exact hq7 _
      clear hK' K'
      try simp only [Act.put, List.setIfInBounds_toArray, List.set_cons_zero, List.set_cons_succ]
      refine wpAnyH_ready (rs := [7]) (by kernel_rfl) (by simp) ?_
      refine AllReadyH.cons (o := { dst := some 94, op := Op.call { callee := Callee.builtin Builtin.append, args := #[Operand.tmp 91, Operand.tmp 93], argTypes := #[44, 44] }, type := 44, pos := "run.go:167", after := #[{ on := 4, ground := Ground.data }, { on := 6, ground := Ground.data }], guard := none }) rfl (fun K' hK' => ?_) AllReadyH.nil
      refine step_grown (d := 94) rfl elemIn (by decide) (by decide) (v := .slice ha H.length hcp) (n := H.length) (m := 1) (xs := flatP H) (news := [.int .i64 (ik : Nat), .int .i64 (io : Nat), .int .i64 (in_ : Nat), .slice fa (zs ifl).length fc]) (B := B) (ad := ⟨W4.heap.size, 0, none⟩) (cap := 1) rfl (.tmp 91) (.tmp 93) rfl rfl rfl (World.ownsRow.alloc (unhide R4) (.cells #[.int .i64 (ik : Nat), .int .i64 (io : Nat), .int .i64 (in_ : Nat), .slice fa (zs ifl).length fc] 49)) rfl (World.news_of_block (heap_alloc_new W4 _)) (by simp [Value.oneCell']) (by omega) (by have := unhide HCNT; omega) (by show B ≤ (W4.alloc _).heap.size; simp; omega) ?_
      intro v5 w5 o5 f5 sh5
      obtain ⟨av, cv, rfl⟩ := sh5
      have hb5 : w5.heap[b]? = W4.heap[b]? := (f5.same b (by show b < (W4.alloc _).heap.size; simp; omega) (fun e => ((unhide HH).inT b (unhide HOWN b e)).2 rfl)).trans (Below.heap_alloc W4 _ _ hb4)
      have p9 := (World.cell?_of_block (w := W4) (a := ⟨b, 9, none⟩) hb5).trans c9
      have pz9 := (World.frozen?_of_block (w := W4) (a := ⟨b, 9, none⟩) hb5).trans z9'
      have nown : ∀ q, w.heap.size ≤ q → ¬ own (.slice ha H.length hcp) q := fun q hq e => by have := (World.ownsRow.lt (unhide HROW) q e).2; omega
      have g7 : w5.heap[w.heap.size + 1]? = some (.cells #[.int .i64 (ik : Nat), .int .i64 (io : Nat), .int .i64 (in_ : Nat), .slice fa (zs ifl).length fc] 49) := (f5.same _ (by show _ < (W4.alloc _).heap.size; simp; omega) (nown _ (by omega))).trans (hq7 _)
      have g6 : w5.heap[w.heap.size]? = _ := (f5.same _ (by show _ < (W4.alloc _).heap.size; simp; omega) (nown _ (Nat.le_refl _))).trans ((Below.heap_alloc W4 _ _ l6).trans (unhide Y6))
      have O5 := hide o5
      have F5 := hide f5
      have G6 := hide g6
      have G7 := hide g7
      have k6 := fun j => cell_of_row w5 _ j _ 49 (0, 0) g6
      have t6 := fun j => frozen_rowE g6 j
      have k7 := fun j => cell_of_row w5 _ j _ 49 (0, 0) g7
      have l6' := (Array.getElem?_eq_some_iff.1 g6).1
      have l7' := (Array.getElem?_eq_some_iff.1 g7).1
      clear o5 f5 nown hb5
      refine hK'.out _ _ g7 (fun hHeld => ?_)
      clear hK' K'
      simp only [List.setIfInBounds_toArray, List.set_cons_zero, List.set_cons_succ]
      refine wpAnyH_take (i := 8) (oi := { dst := some 95, op := Op.nilCheck (Operand.tmp 87), type := 0, pos := "run.go:167", after := #[{ on := 0, ground := Ground.data }, { on := 0, ground := Ground.phase }, { on := 1, ground := Ground.phase }, { on := 2, ground := Ground.phase }, { on := 3, ground := Ground.phase }, { on := 4, ground := Ground.phase }, { on := 5, ground := Ground.phase }, { on := 6, ground := Ground.phase }, { on := 7, ground := Ground.phase }], guard := none }) (v := ?_) rfl (by kernel_rfl) (by kernel_rfl) (by kernel_rfl) (fun _ _ _ h => h) (Or.inl ⟨by rfl, ?_⟩) (by assumption) ?_
      rotate_left
      · intro w hSw; have c7 := fun j => cell_of_row w _ j _ 49 (0, 0) hSw; go_simp; try with_reducible rfl
      simp only [Act.put, List.setIfInBounds_toArray, List.set_cons_zero, List.set_cons_succ]
      refine wpAnyH_take (i := 9) (oi := { dst := some 96, op := Op.fieldAddr 180 (Operand.tmp 95) 4, type := 0, pos := "run.go:167", after := #[{ on := 8, ground := Ground.data }, { on := 0, ground := Ground.phase }, { on := 1, ground := Ground.phase }, { on := 2, ground := Ground.phase }, { on := 3, ground := Ground.phase }, { on := 4, ground := Ground.phase }, { on := 5, ground := Ground.phase }, { on := 6, ground := Ground.phase }, { on := 7, ground := Ground.phase }], guard := none }) (v := ?_) rfl (by kernel_rfl) (by kernel_rfl) (by kernel_rfl) (fun _ _ _ h => h) (Or.inl ⟨by rfl, ?_⟩) (by assumption) ?_
      rotate_left
      · intro w hSw; have c7 := fun j => cell_of_row w _ j _ 49 (0, 0) hSw; go_simp; try with_reducible rfl
      simp only [Act.put, List.setIfInBounds_toArray, List.set_cons_zero, List.set_cons_succ]
      refine wpAnyH_ready (rs := [10]) (by kernel_rfl) (by simp) ?_
      refine AllReadyH.cons (o := { dst := none, op := Op.store 44 (Operand.tmp 96) (Operand.tmp 94), type := 0, pos := "run.go:167", after := #[{ on := 9, ground := Ground.data }, { on := 7, ground := Ground.data }, { on := 7, ground := Ground.chain }, { on := 0, ground := Ground.phase }, { on := 1, ground := Ground.phase }, { on := 2, ground := Ground.phase }, { on := 3, ground := Ground.phase }, { on := 4, ground := Ground.phase }, { on := 5, ground := Ground.phase }, { on := 6, ground := Ground.phase }, { on := 7, ground := Ground.phase }], guard := none }) rfl (fun K' hK' => ?_) AllReadyH.nil
      go_simp
      refine hK'.out _ _ ?_ (fun hHeld => ?_)
      · exact (Below.heap_setCell _ _ _ _ hbz1).trans g7
      clear hK' K'
      try simp only [Act.put, List.setIfInBounds_toArray, List.set_cons_zero, List.set_cons_succ]
      refine wpAnyH_done (by kernel_rfl) ?_ _
      clear g6 g7
      go_wp2
      have y6 : (((((w5.setCell ⟨b, 9, none⟩ (.slice av (H.length + 1) cv)).setCell ⟨w.heap.size, 0, none⟩ (.int .i64 (ik : Nat))).setCell ⟨w.heap.size, 1, none⟩ (.int .i64 (io : Nat))).setCell ⟨w.heap.size, 2, none⟩ (.int .i64 (in_ : Nat))).setCell ⟨w.heap.size, 3, none⟩ (.slice fa (zs ifl).length fc)).heap[w.heap.size]? = some (.cells #[.int .i64 (ik : Nat), .int .i64 (io : Nat), .int .i64 (in_ : Nat), .slice fa (zs ifl).length fc] 49) := setCell_row _ _ 3 _ 49 _ (setCell_row _ _ 2 _ 49 _ (setCell_row _ _ 1 _ 49 _ (setCell_row _ _ 0 _ 49 _ ((Below.heap_setCell _ _ _ _ hbz).trans (unhide G6)))))
      have ky := fun j => cell_of_row _ _ j _ 49 (0, 0) y6
      have hfin := hear_finP (ob := (.cells #[.int .i64 (ik : Nat), .int .i64 (io : Nat), .int .i64 (in_ : Nat), .slice fa (zs ifl).length fc] 49)) (i := (ik, io, in_, ifl)) (unhide HH) (unhide HI8) (unhide HRS) (unhide HLEFT) (unhide HROW) (unhide HOWN) (unhide HCNT) (unhide HNH) (unhide HFI) (unhide C4) (unhide F04) hz4 (unhide O5) ⟨av, cv, rfl⟩ (unhide F5) (.int .i64 (ik : Nat)) (.int .i64 (io : Nat)) (.int .i64 (in_ : Nat)) (.slice fa (zs ifl).length fc)
      have HFIN := hide hfin
      clear hfin
      refine bodyPost_ret (v := .agg #[.int .i64 (ik : Nat), .int .i64 (io : Nat), .int .i64 (in_ : Nat), .slice fa (zs ifl).length fc]) (by simp [results, Tryz.results141, go_sem, ky]) rfl ?_
      exact ⟨fa, fc, rfl, (unhide HFIN).1, (unhide HFIN).2⟩
  · have hi8 : InpsC w (.slice (some ⟨q, off + 4, none⟩) m (c - 1)) rs (fun q => q < B) := by have := unhide HIN; simpa [hc1] using this
    have G4 := gen _ hi8
    have HI8 := hide hi8
    clear hi8
    clear HIN gen
    go_enter Tryz.func141, Tryz.ntmps141
    go_wp2
    generalize (Value.slice (some { block := q, off := off + 4 }) m (c - 1)) = v8 at HI8 G4 ⊢
    generalize hW4 : ((w.setCell ⟨b, 8, none⟩ v8).alloc (.cells #[.int .i64 0, .int .i64 0, .int .i64 0, .slice none 0 0] 49)).alloc (.cells #[.int .i64 (ik : Nat), .int .i64 (io : Nat), .int .i64 (in_ : Nat), .slice fa (zs ifl).length fc] 49) = W4 at G4 ⊢
    clear hW4
    obtain ⟨y7, y6, cells4, f04, hz4, hrow4, c9, z9'⟩ := unhide G4
    have l6 := (Array.getElem?_eq_some_iff.1 y6).1
    have l7 := (Array.getElem?_eq_some_iff.1 y7).1
    have Y7 := hide y7
    have Y6 := hide y6
    have R4 := hide hrow4
    have C4 := hide cells4
    have F04 := hide f04
    have hBW4 : B ≤ W4.heap.size := by omega
    have hb4 : b < W4.heap.size := by omega
    clear hrow4 cells4 f04 y6 y7 G4 k7 k8 k9 z8 z9 g0 g1 g2 g3 E9
    have hq7 : ∀ o, (W4.alloc o).drew.heap[w.heap.size + 1]? = some (.cells #[.int .i64 (ik : Nat), .int .i64 (io : Nat), .int .i64 (in_ : Nat), .slice fa (zs ifl).length fc] 49) := fun o => (Below.heap_alloc W4 o _ l7).trans (unhide Y7)
    have cq9 : ∀ o, (W4.alloc o).drew.cell? ⟨b, 9, none⟩ = some (.slice ha H.length hcp) := fun o => (World.cell?_of_block (w := W4) (a := ⟨b, 9, none⟩) (Below.heap_alloc W4 o _ hb4)).trans c9
    refine wp_region_held_drew (S := fun w' => w'.heap[w.heap.size + 1]? = some (.cells #[.int .i64 (ik : Nat), .int .i64 (io : Nat), .int .i64 (in_ : Nat), .slice fa (zs ifl).length fc] 49)) (by kernel_rfl) ?_ (fun hHeld => ?_)
    · exact unhide Y7
    refine wpAnyH_take (i := 0) (oi := { dst := some 87, op := Op.move (Operand.tmp 0), type := 177, pos := "run.go:167", after := #[], guard := none }) (v := ?_) rfl (by kernel_rfl) (by kernel_rfl) (by kernel_rfl) (fun _ _ _ h => h) (Or.inl ⟨by rfl, ?_⟩) (by assumption) ?_
    rotate_left
    · intro w hSw; have c7 := fun j => cell_of_row w _ j _ 49 (0, 0) hSw; go_simp; try with_reducible rfl
    simp only [Act.put, List.setIfInBounds_toArray, List.set_cons_zero, List.set_cons_succ]
    refine wpAnyH_take (i := 1) (oi := { dst := some 88, op := Op.move (Operand.tmp 0), type := 177, pos := "run.go:167", after := #[], guard := none }) (v := ?_) rfl (by kernel_rfl) (by kernel_rfl) (by kernel_rfl) (fun _ _ _ h => h) (Or.inl ⟨by rfl, ?_⟩) (by assumption) ?_
    rotate_left
    · intro w hSw; have c7 := fun j => cell_of_row w _ j _ 49 (0, 0) hSw; go_simp; try with_reducible rfl
    simp only [Act.put, List.setIfInBounds_toArray, List.set_cons_zero, List.set_cons_succ]
    refine wpAnyH_take (i := 2) (oi := { dst := some 89, op := Op.nilCheck (Operand.tmp 88), type := 0, pos := "run.go:167", after := #[{ on := 1, ground := Ground.data }], guard := none }) (v := ?_) rfl (by kernel_rfl) (by kernel_rfl) (by kernel_rfl) (fun _ _ _ h => h) (Or.inl ⟨by rfl, ?_⟩) (by assumption) ?_
    rotate_left
    · intro w hSw; have c7 := fun j => cell_of_row w _ j _ 49 (0, 0) hSw; go_simp; try with_reducible rfl
    simp only [Act.put, List.setIfInBounds_toArray, List.set_cons_zero, List.set_cons_succ]
    refine wpAnyH_take (i := 3) (oi := { dst := some 90, op := Op.fieldAddr 180 (Operand.tmp 89) 4, type := 0, pos := "run.go:167", after := #[{ on := 2, ground := Ground.data }], guard := none }) (v := ?_) rfl (by kernel_rfl) (by kernel_rfl) (by kernel_rfl) (fun _ _ _ h => h) (Or.inl ⟨by rfl, ?_⟩) (by assumption) ?_
    rotate_left
    · intro w hSw; have c7 := fun j => cell_of_row w _ j _ 49 (0, 0) hSw; go_simp; try with_reducible rfl
    simp only [Act.put, List.setIfInBounds_toArray, List.set_cons_zero, List.set_cons_succ]
    refine wpAnyH_take (i := 5) (oi := { dst := some 92, op := Op.load 49 (Operand.tmp 7), type := 49, pos := "run.go:167", after := #[], guard := none }) (v := ?_) rfl (by kernel_rfl) (by kernel_rfl) (by kernel_rfl) (fun _ _ _ h => h) (Or.inl ⟨by rfl, ?_⟩) (by assumption) ?_
    rotate_left
    · intro w hSw; have c7 := fun j => cell_of_row w _ j _ 49 (0, 0) hSw; go_simp; try with_reducible rfl
    simp only [Act.put, List.setIfInBounds_toArray, List.set_cons_zero, List.set_cons_succ]
    refine wpAnyH_ready (rs := [4, 6]) (by kernel_rfl) (by simp) ?_
    refine AllReadyH.cons (o := { dst := some 91, op := Op.load 44 (Operand.tmp 90), type := 44, pos := "run.go:167", after := #[{ on := 3, ground := Ground.data }], guard := none }) rfl (fun K' hK' => ?_) (AllReadyH.cons (o := { dst := some 93, op := Op.buildSlice 44 1 #[(0, Operand.tmp 92)], type := 44, pos := "run.go:167", after := #[{ on := 5, ground := Ground.data }], guard := none }) rfl (fun K' hK' => ?_) AllReadyH.nil)
    · go_simp
      refine hK'.out _ _ ?_ (fun hHeld => ?_)
      · exact unhide Y7
      clear hK' K'
      try simp only [Act.put, List.setIfInBounds_toArray, List.set_cons_zero, List.set_cons_succ]
      refine wpAnyH_ready (rs := [6]) (by kernel_rfl) (by simp) ?_
      refine AllReadyH.cons (o := { dst := some 93, op := Op.buildSlice 44 1 #[(0, Operand.tmp 92)], type := 44, pos := "run.go:167", after := #[{ on := 5, ground := Ground.data }], guard := none }) rfl (fun K' hK' => ?_) AllReadyH.nil
      go_simp
      refine hK'.out _ _ ?_ (fun hHeld => ?_)
      · exact hq7 _
      clear hK' K'
      try simp only [Act.put, List.setIfInBounds_toArray, List.set_cons_zero, List.set_cons_succ]
      refine wpAnyH_ready (rs := [7]) (by kernel_rfl) (by simp) ?_
      refine AllReadyH.cons (o := { dst := some 94, op := Op.call { callee := Callee.builtin Builtin.append, args := #[Operand.tmp 91, Operand.tmp 93], argTypes := #[44, 44] }, type := 44, pos := "run.go:167", after := #[{ on := 4, ground := Ground.data }, { on := 6, ground := Ground.data }], guard := none }) rfl (fun K' hK' => ?_) AllReadyH.nil
      refine step_grown (d := 94) rfl elemIn (by decide) (by decide) (v := .slice ha H.length hcp) (n := H.length) (m := 1) (xs := flatP H) (news := [.int .i64 (ik : Nat), .int .i64 (io : Nat), .int .i64 (in_ : Nat), .slice fa (zs ifl).length fc]) (B := B) (ad := ⟨W4.heap.size, 0, none⟩) (cap := 1) rfl (.tmp 91) (.tmp 93) rfl rfl rfl (World.ownsRow.alloc (unhide R4) (.cells #[.int .i64 (ik : Nat), .int .i64 (io : Nat), .int .i64 (in_ : Nat), .slice fa (zs ifl).length fc] 49)) rfl (World.news_of_block (heap_alloc_new W4 _)) (by simp [Value.oneCell']) (by omega) (by have := unhide HCNT; omega) (by show B ≤ (W4.alloc _).heap.size; simp; omega) ?_
      intro v5 w5 o5 f5 sh5
      obtain ⟨av, cv, rfl⟩ := sh5
      have hb5 : w5.heap[b]? = W4.heap[b]? := (f5.same b (by show b < (W4.alloc _).heap.size; simp; omega) (fun e => ((unhide HH).inT b (unhide HOWN b e)).2 rfl)).trans (Below.heap_alloc W4 _ _ hb4)
      have p9 := (World.cell?_of_block (w := W4) (a := ⟨b, 9, none⟩) hb5).trans c9
      have pz9 := (World.frozen?_of_block (w := W4) (a := ⟨b, 9, none⟩) hb5).trans z9'
      have nown : ∀ q, w.heap.size ≤ q → ¬ own (.slice ha H.length hcp) q := fun q hq e => by have := (World.ownsRow.lt (unhide HROW) q e).2; omega
      have g7 : w5.heap[w.heap.size + 1]? = some (.cells #[.int .i64 (ik : Nat), .int .i64 (io : Nat), .int .i64 (in_ : Nat), .slice fa (zs ifl).length fc] 49) := (f5.same _ (by show _ < (W4.alloc _).heap.size; simp; omega) (nown _ (by omega))).trans (hq7 _)
      have g6 : w5.heap[w.heap.size]? = _ := (f5.same _ (by show _ < (W4.alloc _).heap.size; simp; omega) (nown _ (Nat.le_refl _))).trans ((Below.heap_alloc W4 _ _ l6).trans (unhide Y6))
      have O5 := hide o5
      have F5 := hide f5
      have G6 := hide g6
      have G7 := hide g7
      have k6 := fun j => cell_of_row w5 _ j _ 49 (0, 0) g6
      have t6 := fun j => frozen_rowE g6 j
      have k7 := fun j => cell_of_row w5 _ j _ 49 (0, 0) g7
      have l6' := (Array.getElem?_eq_some_iff.1 g6).1
      have l7' := (Array.getElem?_eq_some_iff.1 g7).1
      clear o5 f5 nown hb5
      refine hK'.out _ _ g7 (fun hHeld => ?_)
      clear hK' K'
      simp only [List.setIfInBounds_toArray, List.set_cons_zero, List.set_cons_succ]
      refine wpAnyH_take (i := 8) (oi := { dst := some 95, op := Op.nilCheck (Operand.tmp 87), type := 0, pos := "run.go:167", after := #[{ on := 0, ground := Ground.data }, { on := 0, ground := Ground.phase }, { on := 1, ground := Ground.phase }, { on := 2, ground := Ground.phase }, { on := 3, ground := Ground.phase }, { on := 4, ground := Ground.phase }, { on := 5, ground := Ground.phase }, { on := 6, ground := Ground.phase }, { on := 7, ground := Ground.phase }], guard := none }) (v := ?_) rfl (by kernel_rfl) (by kernel_rfl) (by kernel_rfl) (fun _ _ _ h => h) (Or.inl ⟨by rfl, ?_⟩) (by assumption) ?_
      rotate_left
      · intro w hSw; have c7 := fun j => cell_of_row w _ j _ 49 (0, 0) hSw; go_simp; try with_reducible rfl
      simp only [Act.put, List.setIfInBounds_toArray, List.set_cons_zero, List.set_cons_succ]
      refine wpAnyH_take (i := 9) (oi := { dst := some 96, op := Op.fieldAddr 180 (Operand.tmp 95) 4, type := 0, pos := "run.go:167", after := #[{ on := 8, ground := Ground.data }, { on := 0, ground := Ground.phase }, { on := 1, ground := Ground.phase }, { on := 2, ground := Ground.phase }, { on := 3, ground := Ground.phase }, { on := 4, ground := Ground.phase }, { on := 5, ground := Ground.phase }, { on := 6, ground := Ground.phase }, { on := 7, ground := Ground.phase }], guard := none }) (v := ?_) rfl (by kernel_rfl) (by kernel_rfl) (by kernel_rfl) (fun _ _ _ h => h) (Or.inl ⟨by rfl, ?_⟩) (by assumption) ?_
      rotate_left
      · intro w hSw; have c7 := fun j => cell_of_row w _ j _ 49 (0, 0) hSw; go_simp; try with_reducible rfl
      simp only [Act.put, List.setIfInBounds_toArray, List.set_cons_zero, List.set_cons_succ]
      refine wpAnyH_ready (rs := [10]) (by kernel_rfl) (by simp) ?_
      refine AllReadyH.cons (o := { dst := none, op := Op.store 44 (Operand.tmp 96) (Operand.tmp 94), type := 0, pos := "run.go:167", after := #[{ on := 9, ground := Ground.data }, { on := 7, ground := Ground.data }, { on := 7, ground := Ground.chain }, { on := 0, ground := Ground.phase }, { on := 1, ground := Ground.phase }, { on := 2, ground := Ground.phase }, { on := 3, ground := Ground.phase }, { on := 4, ground := Ground.phase }, { on := 5, ground := Ground.phase }, { on := 6, ground := Ground.phase }, { on := 7, ground := Ground.phase }], guard := none }) rfl (fun K' hK' => ?_) AllReadyH.nil
      go_simp
      refine hK'.out _ _ ?_ (fun hHeld => ?_)
      · exact (Below.heap_setCell _ _ _ _ hbz1).trans g7
      clear hK' K'
      try simp only [Act.put, List.setIfInBounds_toArray, List.set_cons_zero, List.set_cons_succ]
      refine wpAnyH_done (by kernel_rfl) ?_ _
      clear g6 g7
      go_wp2
      have y6 : (((((w5.setCell ⟨b, 9, none⟩ (.slice av (H.length + 1) cv)).setCell ⟨w.heap.size, 0, none⟩ (.int .i64 (ik : Nat))).setCell ⟨w.heap.size, 1, none⟩ (.int .i64 (io : Nat))).setCell ⟨w.heap.size, 2, none⟩ (.int .i64 (in_ : Nat))).setCell ⟨w.heap.size, 3, none⟩ (.slice fa (zs ifl).length fc)).heap[w.heap.size]? = some (.cells #[.int .i64 (ik : Nat), .int .i64 (io : Nat), .int .i64 (in_ : Nat), .slice fa (zs ifl).length fc] 49) := setCell_row _ _ 3 _ 49 _ (setCell_row _ _ 2 _ 49 _ (setCell_row _ _ 1 _ 49 _ (setCell_row _ _ 0 _ 49 _ ((Below.heap_setCell _ _ _ _ hbz).trans (unhide G6)))))
      have ky := fun j => cell_of_row _ _ j _ 49 (0, 0) y6
      have hfin := hear_finP (ob := (.cells #[.int .i64 (ik : Nat), .int .i64 (io : Nat), .int .i64 (in_ : Nat), .slice fa (zs ifl).length fc] 49)) (i := (ik, io, in_, ifl)) (unhide HH) (unhide HI8) (unhide HRS) (unhide HLEFT) (unhide HROW) (unhide HOWN) (unhide HCNT) (unhide HNH) (unhide HFI) (unhide C4) (unhide F04) hz4 (unhide O5) ⟨av, cv, rfl⟩ (unhide F5) (.int .i64 (ik : Nat)) (.int .i64 (io : Nat)) (.int .i64 (in_ : Nat)) (.slice fa (zs ifl).length fc)
      have HFIN := hide hfin
      clear hfin
      refine bodyPost_ret (v := .agg #[.int .i64 (ik : Nat), .int .i64 (io : Nat), .int .i64 (in_ : Nat), .slice fa (zs ifl).length fc]) (by simp [results, Tryz.results141, go_sem, ky]) rfl ?_
      exact ⟨fa, fc, rfl, (unhide HFIN).1, (unhide HFIN).2⟩
    · go_simp
      refine hK'.out _ _ ?_ (fun hHeld => ?_)
      · exact hq7 _
      clear hK' K'
      try simp only [Act.put, List.setIfInBounds_toArray, List.set_cons_zero, List.set_cons_succ]
      refine wpAnyH_ready (rs := [4]) (by kernel_rfl) (by simp) ?_
      refine AllReadyH.cons (o := { dst := some 91, op := Op.load 44 (Operand.tmp 90), type := 44, pos := "run.go:167", after := #[{ on := 3, ground := Ground.data }], guard := none }) rfl (fun K' hK' => ?_) AllReadyH.nil
      go_simp
      refine hK'.out _ _ ?_ (fun hHeld => ?_)
      · exact hq7 _
      clear hK' K'
      try simp only [Act.put, List.setIfInBounds_toArray, List.set_cons_zero, List.set_cons_succ]
      refine wpAnyH_ready (rs := [7]) (by kernel_rfl) (by simp) ?_
      refine AllReadyH.cons (o := { dst := some 94, op := Op.call { callee := Callee.builtin Builtin.append, args := #[Operand.tmp 91, Operand.tmp 93], argTypes := #[44, 44] }, type := 44, pos := "run.go:167", after := #[{ on := 4, ground := Ground.data }, { on := 6, ground := Ground.data }], guard := none }) rfl (fun K' hK' => ?_) AllReadyH.nil
      refine step_grown (d := 94) rfl elemIn (by decide) (by decide) (v := .slice ha H.length hcp) (n := H.length) (m := 1) (xs := flatP H) (news := [.int .i64 (ik : Nat), .int .i64 (io : Nat), .int .i64 (in_ : Nat), .slice fa (zs ifl).length fc]) (B := B) (ad := ⟨W4.heap.size, 0, none⟩) (cap := 1) rfl (.tmp 91) (.tmp 93) rfl rfl rfl (World.ownsRow.alloc (unhide R4) (.cells #[.int .i64 (ik : Nat), .int .i64 (io : Nat), .int .i64 (in_ : Nat), .slice fa (zs ifl).length fc] 49)) rfl (World.news_of_block (heap_alloc_new W4 _)) (by simp [Value.oneCell']) (by omega) (by have := unhide HCNT; omega) (by show B ≤ (W4.alloc _).heap.size; simp; omega) ?_
      intro v5 w5 o5 f5 sh5
      obtain ⟨av, cv, rfl⟩ := sh5
      have hb5 : w5.heap[b]? = W4.heap[b]? := (f5.same b (by show b < (W4.alloc _).heap.size; simp; omega) (fun e => ((unhide HH).inT b (unhide HOWN b e)).2 rfl)).trans (Below.heap_alloc W4 _ _ hb4)
      have p9 := (World.cell?_of_block (w := W4) (a := ⟨b, 9, none⟩) hb5).trans c9
      have pz9 := (World.frozen?_of_block (w := W4) (a := ⟨b, 9, none⟩) hb5).trans z9'
      have nown : ∀ q, w.heap.size ≤ q → ¬ own (.slice ha H.length hcp) q := fun q hq e => by have := (World.ownsRow.lt (unhide HROW) q e).2; omega
      have g7 : w5.heap[w.heap.size + 1]? = some (.cells #[.int .i64 (ik : Nat), .int .i64 (io : Nat), .int .i64 (in_ : Nat), .slice fa (zs ifl).length fc] 49) := (f5.same _ (by show _ < (W4.alloc _).heap.size; simp; omega) (nown _ (by omega))).trans (hq7 _)
      have g6 : w5.heap[w.heap.size]? = _ := (f5.same _ (by show _ < (W4.alloc _).heap.size; simp; omega) (nown _ (Nat.le_refl _))).trans ((Below.heap_alloc W4 _ _ l6).trans (unhide Y6))
      have O5 := hide o5
      have F5 := hide f5
      have G6 := hide g6
      have G7 := hide g7
      have k6 := fun j => cell_of_row w5 _ j _ 49 (0, 0) g6
      have t6 := fun j => frozen_rowE g6 j
      have k7 := fun j => cell_of_row w5 _ j _ 49 (0, 0) g7
      have l6' := (Array.getElem?_eq_some_iff.1 g6).1
      have l7' := (Array.getElem?_eq_some_iff.1 g7).1
      clear o5 f5 nown hb5
      refine hK'.out _ _ g7 (fun hHeld => ?_)
      clear hK' K'
      simp only [List.setIfInBounds_toArray, List.set_cons_zero, List.set_cons_succ]
      refine wpAnyH_take (i := 8) (oi := { dst := some 95, op := Op.nilCheck (Operand.tmp 87), type := 0, pos := "run.go:167", after := #[{ on := 0, ground := Ground.data }, { on := 0, ground := Ground.phase }, { on := 1, ground := Ground.phase }, { on := 2, ground := Ground.phase }, { on := 3, ground := Ground.phase }, { on := 4, ground := Ground.phase }, { on := 5, ground := Ground.phase }, { on := 6, ground := Ground.phase }, { on := 7, ground := Ground.phase }], guard := none }) (v := ?_) rfl (by kernel_rfl) (by kernel_rfl) (by kernel_rfl) (fun _ _ _ h => h) (Or.inl ⟨by rfl, ?_⟩) (by assumption) ?_
      rotate_left
      · intro w hSw; have c7 := fun j => cell_of_row w _ j _ 49 (0, 0) hSw; go_simp; try with_reducible rfl
      simp only [Act.put, List.setIfInBounds_toArray, List.set_cons_zero, List.set_cons_succ]
      refine wpAnyH_take (i := 9) (oi := { dst := some 96, op := Op.fieldAddr 180 (Operand.tmp 95) 4, type := 0, pos := "run.go:167", after := #[{ on := 8, ground := Ground.data }, { on := 0, ground := Ground.phase }, { on := 1, ground := Ground.phase }, { on := 2, ground := Ground.phase }, { on := 3, ground := Ground.phase }, { on := 4, ground := Ground.phase }, { on := 5, ground := Ground.phase }, { on := 6, ground := Ground.phase }, { on := 7, ground := Ground.phase }], guard := none }) (v := ?_) rfl (by kernel_rfl) (by kernel_rfl) (by kernel_rfl) (fun _ _ _ h => h) (Or.inl ⟨by rfl, ?_⟩) (by assumption) ?_
      rotate_left
      · intro w hSw; have c7 := fun j => cell_of_row w _ j _ 49 (0, 0) hSw; go_simp; try with_reducible rfl
      simp only [Act.put, List.setIfInBounds_toArray, List.set_cons_zero, List.set_cons_succ]
      refine wpAnyH_ready (rs := [10]) (by kernel_rfl) (by simp) ?_
      refine AllReadyH.cons (o := { dst := none, op := Op.store 44 (Operand.tmp 96) (Operand.tmp 94), type := 0, pos := "run.go:167", after := #[{ on := 9, ground := Ground.data }, { on := 7, ground := Ground.data }, { on := 7, ground := Ground.chain }, { on := 0, ground := Ground.phase }, { on := 1, ground := Ground.phase }, { on := 2, ground := Ground.phase }, { on := 3, ground := Ground.phase }, { on := 4, ground := Ground.phase }, { on := 5, ground := Ground.phase }, { on := 6, ground := Ground.phase }, { on := 7, ground := Ground.phase }], guard := none }) rfl (fun K' hK' => ?_) AllReadyH.nil
      go_simp
      refine hK'.out _ _ ?_ (fun hHeld => ?_)
      · exact (Below.heap_setCell _ _ _ _ hbz1).trans g7
      clear hK' K'
      try simp only [Act.put, List.setIfInBounds_toArray, List.set_cons_zero, List.set_cons_succ]
      refine wpAnyH_done (by kernel_rfl) ?_ _
      clear g6 g7
      go_wp2
      have y6 : (((((w5.setCell ⟨b, 9, none⟩ (.slice av (H.length + 1) cv)).setCell ⟨w.heap.size, 0, none⟩ (.int .i64 (ik : Nat))).setCell ⟨w.heap.size, 1, none⟩ (.int .i64 (io : Nat))).setCell ⟨w.heap.size, 2, none⟩ (.int .i64 (in_ : Nat))).setCell ⟨w.heap.size, 3, none⟩ (.slice fa (zs ifl).length fc)).heap[w.heap.size]? = some (.cells #[.int .i64 (ik : Nat), .int .i64 (io : Nat), .int .i64 (in_ : Nat), .slice fa (zs ifl).length fc] 49) := setCell_row _ _ 3 _ 49 _ (setCell_row _ _ 2 _ 49 _ (setCell_row _ _ 1 _ 49 _ (setCell_row _ _ 0 _ 49 _ ((Below.heap_setCell _ _ _ _ hbz).trans (unhide G6)))))
      have ky := fun j => cell_of_row _ _ j _ 49 (0, 0) y6
      have hfin := hear_finP (ob := (.cells #[.int .i64 (ik : Nat), .int .i64 (io : Nat), .int .i64 (in_ : Nat), .slice fa (zs ifl).length fc] 49)) (i := (ik, io, in_, ifl)) (unhide HH) (unhide HI8) (unhide HRS) (unhide HLEFT) (unhide HROW) (unhide HOWN) (unhide HCNT) (unhide HNH) (unhide HFI) (unhide C4) (unhide F04) hz4 (unhide O5) ⟨av, cv, rfl⟩ (unhide F5) (.int .i64 (ik : Nat)) (.int .i64 (io : Nat)) (.int .i64 (in_ : Nat)) (.slice fa (zs ifl).length fc)
      have HFIN := hide hfin
      clear hfin
      refine bodyPost_ret (v := .agg #[.int .i64 (ik : Nat), .int .i64 (io : Nat), .int .i64 (in_ : Nat), .slice fa (zs ifl).length fc]) (by simp [results, Tryz.results141, go_sem, ky]) rfl ?_
      exact ⟨fa, fc, rfl, (unhide HFIN).1, (unhide HFIN).2⟩
end
end Go.Proofs.YtfmbebofllgmoaaGreatDoor
namespace Go.Proofs.YtfmbebofllgmoaaGreatDoor
open Go.RowKit

theorem repQ_hear (B : Nat) : HearQ (SQP B) repAskQ mayR B := ⟨fun {S T w b pv vt va s A tn sq y k o} h hf hm => by
  have hk5 : k ≠ 5 := by
    rcases hm with ⟨rfl, _⟩ | ⟨rfl, _⟩ | ⟨rfl, _⟩ | ⟨rfl, _⟩ <;> omega
  have hno : (repR y.1 k o = noRep) → (y.1 = [] ∨ ∃ x r, y.1 = x :: r ∧ x.1 = 5 ∧ x.2.2.1 = 5) → Calls Tryz.prog 141 #[.pointer (some ⟨b, 0, none⟩), .int .i64 k, .int .i64 o] w fun e w' => ∃ kd of_ n fa fl fc, e = .returned (.agg #[.int .i64 kd, .int .i64 of_, .int .i64 n, .slice fa fl fc]) ∧ LPostS (SQP B) B S w b pv vt va A tn sq (hearS s (repAskQ y k o).1) (repAskQ y k o).2 w' ∧
      ((repAskQ y k o).1.e = 0 → n = (repAskQ y k o).1.n ∧ IntsIn w' (.slice fa fl fc) (repAskQ y k o).1.files (fun q => q < w'.heap.size)) := by
    intro hR he
    refine (hearP_end h k o he).mono ?_
    rintro e w' ⟨rfl, hl⟩
    have e1 : repAskQ y k o = (noRep, y) := by unfold repAskQ; rw [hR]; rfl
    rw [e1]
    exact ⟨0, 0, 0, none, 0, 0, rfl, hl, fun h => absurd h (by simp [noRep])⟩
  cases hy : y.1 with
  | nil => exact hno (by rw [hy]; rfl) (.inl hy)
  | cons x r =>
    by_cases h5 : x.1 = 5 ∧ x.2.2.1 = 5
    · exact hno (by rw [hy]; simp only [repR]; rw [if_pos h5]) (.inr ⟨x, r, hy, h5.1, h5.2⟩)
    by_cases hd : (x.1 : Int) ≠ k ∨ (x.2.1 : Int) ≠ o
    · refine (hearP_div h k o hy h5 hk5 hd).mono ?_
      rintro e w' ⟨rfl, hl⟩
      have hR : repR y.1 k o = divRep := by rw [hy]; simp only [repR]; rw [if_neg h5, if_pos hd]
      have e1 : repAskQ y k o = (divRep, y) := by unfold repAskQ; rw [hR]; rfl
      rw [e1]
      exact ⟨0, 0, 0, none, 0, 0, rfl, hl, fun h => absurd h (by simp [divRep])⟩
    · have hR : repR y.1 k o = inpR x := by rw [hy]; simp only [repR]; rw [if_neg h5, if_neg hd]
      have e1 : repAskQ y k o = (inpR x, y.tail) := by unfold repAskQ; rw [hR]; rfl
      rw [e1]
      obtain rfl : (x.1 : Int) = k := by omega
      obtain rfl : (x.2.1 : Int) = o := by omega
      refine (hearP_ok h x hy (by omega)).mono ?_
      rintro e w' ⟨fa, fc, rfl, hl, hi⟩
      exact ⟨_, _, _, fa, _, fc, rfl, hl, fun _ => ⟨rfl, hi⟩⟩⟩
end Go.Proofs.YtfmbebofllgmoaaGreatDoor
