/-
  PROVED HERE: the document's final, and its fuel. lists of one unit over and over: what an append to an own one leaves. writing units over an own list. keepEvents writes its marks and keeps the Book.
-/
import Derived.Test.YtfmbebofllgmoaaGreatDoorProg
import Derived.WalkKit
import Derived.WalkSpells
import Derived.WalkLawsBesides
import Derived.Deep.QuietTactic
import Derived.BigQuiet
import Derived.Deep.RegionHeld3
import Derived.Deep.AppendLies
import Derived.Laws.EntriesVeiled
import Derived.Deep.DrawnRows
import Derived.BigRegion
import Derived.Deep.LoopGhost
import Derived.Deep.MidRow
import Derived.Shelf.SlSortCmp.SmallK
import Derived.Shelf.SlicesG.Cmp
import Derived.Shelf.Small.Bits
import Derived.Deep.RegionLaw
import Derived.Lib.SliceRun
import Derived.Laws.StructEq
import Derived.Laws.BytesString
import Derived.ArgAppend
import Derived.Deep.DeepCutAuto
import Derived.Conc.LoneCalls
import Derived.Calls
import Derived.Tactics
import Derived.KernelRfl
import Derived.Laws.Rows
import Derived.Lib.SlBytesConst
import Derived.Laws.BitsAllLaws
import Derived.RangeFuncOwn
import Derived.Laws.IdiomStrings
import Derived.RangeFuncNested
import Derived.RangeFuncBound
import Derived.RangeFuncCalls
import Derived.RangeFuncLeaves
import Derived.Shelf.RegionOpen
import Derived.OwnWalkIn
import Derived.TacticsInMore
import Derived.Maps.OwnIn
import Derived.Maps.AppendAt
import Derived.LoopNIn
import Derived.LoopIn
import Derived.ChangeKeysEq
import Derived.Deep.DeepAppendRoom
import Derived.Test.YtfmbebofllgmoaaGreatDoorSrecordsba
namespace Go.Proofs.YtfmbebofllgmoaaGreatDoor
open Go.RowKit
attribute [local go_sem ↓] Go.wp_at_zero Go.wp_at_succ

theorem fuelledQ_any (f : Int) (w : World) : Calls Tryz.prog 106 #[.int .i64 f] w fun e w' => e = .returned (.int .i64 (min (max f 0) 5000)) ∧ w' = w := by
  go_enter Tryz.func106, Tryz.ntmps106
  go_wp2
  go_ret
  exact ⟨rfl, rfl⟩
section
variable {σ : Type} {SQ : (Nat → Value) → (Nat → Prop) → World → σ → Prop} {B : Nat} {S T : Nat → Prop} {w : World} {b : Nat} {pv : Nat → Value} {vt va : Value} {s : PS} {A : List AT} {tn sq : Int} {x : σ}
set_option maxHeartbeats 4000000 in
set_option maxRecDepth 20000 in
theorem finalQ_any (h : LQ SQ B S w b pv vt va T s A tn sq x) : Calls Tryz.prog 109 #[.pointer (some ⟨b, 0, none⟩)] w fun e w' => e = .returned (finV s) ∧ Fr (fun _ => False) w w' (fun _ => False) := by
  have hb := h.blt
  obtain ⟨ha, hn, hc, hp9, hnh⟩ := h.hc
  have c27 := (h.cell 27 (by omega)).trans (by rw [limg_fin])
  have c14 := (h.cell 14 (by omega)).trans (by rw [limg_clock])
  have c9 := (h.cell 9 (by omega)).trans (by rw [limg_pv _ _ _ _ _ _ (by omega), hp9])
  have cr : ∀ i, i < 4 → w.cell? ⟨b, 10 + i, none⟩ = some (.int .i64 (s.reg i)) := fun i hi => (h.cell (10 + i) (by omega)).trans (by rw [limg_reg _ _ _ _ _ _ hi])
  have c10 := cr 0 (by omega)
  have c11 := cr 1 (by omega)
  have c12 := cr 2 (by omega)
  have c13 := cr 3 (by omega)
  have nb := heap_alloc_new w (.cells #[.int .i64 0, .int .i64 0, .int .i64 0, .int .i64 0, .int .i64 0, .int .i64 0, .int .i64 0] 37)
  have kb := Below.heap_alloc w (.cells #[.int .i64 0, .int .i64 0, .int .i64 0, .int .i64 0, .int .i64 0, .int .i64 0, .int .i64 0] 37) b hb
  have fr := (Fr.refl (fun _ => False) w).alloc (.cells #[.int .i64 0, .int .i64 0, .int .i64 0, .int .i64 0, .int .i64 0, .int .i64 0, .int .i64 0] 37)
  have hne : b ≠ w.heap.size := by omega
  have hne' : ¬ w.heap.size = b := by omega
  have NB := hide nb
  have KB := hide kb
  have FR := hide fr
  clear h cr nb kb fr
  go_enter Tryz.func109, Tryz.ntmps109
  go_wp2
  generalize hW : w.alloc (.cells #[.int .i64 0, .int .i64 0, .int .i64 0, .int .i64 0, .int .i64 0, .int .i64 0, .int .i64 0] 37) = W at *
  clear hW
  have nz := fun j => frozen_rowE (unhide NB) j
  have nk := fun j => cell_of_row W _ j _ 37 (0, 0) (unhide NB)
  have hwl := (Array.getElem?_eq_some_iff.1 (unhide NB)).1
  have st : ∀ (V : World) (j : Nat) (u : Value), V.heap[b]? = w.heap[b]? → (V.setCell ⟨w.heap.size, j, none⟩ u).heap[b]? = w.heap[b]? := fun V j u hv => (Below.heap_setCell _ _ _ _ hne).trans hv
  have dr : ∀ (V : World), V.heap[b]? = w.heap[b]? → V.drew.heap[b]? = w.heap[b]? := fun V hv => hv
  have dy : ∀ (V : World) (o : Obj), V.heap[w.heap.size]? = some o → V.drew.heap[w.heap.size]? = some o := fun V o hv => hv
  have hs7 : (((((((W.setCell ⟨w.heap.size, 0, none⟩ (.int .i64 s.fin)).setCell ⟨w.heap.size, 1, none⟩ (.int .i64 (s.reg 0))).setCell ⟨w.heap.size, 2, none⟩ (.int .i64 (s.reg 1))).setCell ⟨w.heap.size, 3, none⟩ (.int .i64 (s.reg 2))).setCell ⟨w.heap.size, 4, none⟩ (.int .i64 (s.reg 3))).setCell ⟨w.heap.size, 5, none⟩ (.int .i64 s.clock)).setCell ⟨w.heap.size, 6, none⟩ (.int .i64 s.heard)).drew.heap[b]? = w.heap[b]? := dr _ (st _ _ _ (st _ _ _ (st _ _ _ (st _ _ _ (st _ _ _ (st _ _ _ (st _ _ _ (unhide KB))))))))
  have hy7 : (((((((W.setCell ⟨w.heap.size, 0, none⟩ (.int .i64 s.fin)).setCell ⟨w.heap.size, 1, none⟩ (.int .i64 (s.reg 0))).setCell ⟨w.heap.size, 2, none⟩ (.int .i64 (s.reg 1))).setCell ⟨w.heap.size, 3, none⟩ (.int .i64 (s.reg 2))).setCell ⟨w.heap.size, 4, none⟩ (.int .i64 (s.reg 3))).setCell ⟨w.heap.size, 5, none⟩ (.int .i64 s.clock)).setCell ⟨w.heap.size, 6, none⟩ (.int .i64 s.heard)).drew.heap[w.heap.size]? = some (.cells #[.int .i64 s.fin, .int .i64 (s.reg 0), .int .i64 (s.reg 1), .int .i64 (s.reg 2), .int .i64 (s.reg 3), .int .i64 s.clock, .int .i64 s.heard] 37) := dy _ _ (out7 (unhide NB) _ _ _ _ _ _ _)
  have hf7 : Fr (fun _ => False) w (((((((W.setCell ⟨w.heap.size, 0, none⟩ (.int .i64 s.fin)).setCell ⟨w.heap.size, 1, none⟩ (.int .i64 (s.reg 0))).setCell ⟨w.heap.size, 2, none⟩ (.int .i64 (s.reg 1))).setCell ⟨w.heap.size, 3, none⟩ (.int .i64 (s.reg 2))).setCell ⟨w.heap.size, 4, none⟩ (.int .i64 (s.reg 3))).setCell ⟨w.heap.size, 5, none⟩ (.int .i64 s.clock)).setCell ⟨w.heap.size, 6, none⟩ (.int .i64 s.heard)).drew (fun _ => False) := ((((((((unhide FR).setCell ⟨w.heap.size, 0, none⟩ (.int .i64 s.fin) (.inr (Nat.le_refl _))).setCell ⟨w.heap.size, 1, none⟩ (.int .i64 (s.reg 0)) (.inr (Nat.le_refl _))).setCell ⟨w.heap.size, 2, none⟩ (.int .i64 (s.reg 1)) (.inr (Nat.le_refl _))).setCell ⟨w.heap.size, 3, none⟩ (.int .i64 (s.reg 2)) (.inr (Nat.le_refl _))).setCell ⟨w.heap.size, 4, none⟩ (.int .i64 (s.reg 3)) (.inr (Nat.le_refl _))).setCell ⟨w.heap.size, 5, none⟩ (.int .i64 s.clock) (.inr (Nat.le_refl _))).setCell ⟨w.heap.size, 6, none⟩ (.int .i64 s.heard) (.inr (Nat.le_refl _))).drew
  have HS7 := hide hs7
  have HY7 := hide hy7
  have HF7 := hide hf7
  clear st dr dy hs7 hy7 hf7
  refine wp_region_held_drew (S := fun w' => w'.heap[b]? = w.heap[b]?) (by kernel_rfl) ?_ (fun hHeld => ?_)
  · exact unhide KB
  refine wpAnyH_take (i := 0) (oi := { dst := some 3, op := Op.move (Operand.tmp 0), type := 177, pos := "run.go:336", after := #[], guard := none }) (v := ?_) rfl (by kernel_rfl) (by kernel_rfl) (by kernel_rfl) (fun _ _ _ h => h) (Or.inl ⟨by rfl, ?_⟩) (by assumption) ?_
  rotate_left
  · intro w' hSw; have k27 := (World.cell?_of_block (w := w) (a := ⟨b, 27, none⟩) hSw).trans c27; have k14 := (World.cell?_of_block (w := w) (a := ⟨b, 14, none⟩) hSw).trans c14; have k9 := (World.cell?_of_block (w := w) (a := ⟨b, 9, none⟩) hSw).trans c9; have k10 := (World.cell?_of_block (w := w) (a := ⟨b, 10, none⟩) hSw).trans c10; have k11 := (World.cell?_of_block (w := w) (a := ⟨b, 11, none⟩) hSw).trans c11; have k12 := (World.cell?_of_block (w := w) (a := ⟨b, 12, none⟩) hSw).trans c12; have k13 := (World.cell?_of_block (w := w) (a := ⟨b, 13, none⟩) hSw).trans c13; go_simp; try with_reducible rfl
  simp only [Act.put, List.setIfInBounds_toArray, List.set_cons_zero, List.set_cons_succ]
  refine wpAnyH_take (i := 1) (oi := { dst := some 4, op := Op.nilCheck (Operand.tmp 3), type := 0, pos := "run.go:336", after := #[{ on := 0, ground := Ground.data }], guard := none }) (v := ?_) rfl (by kernel_rfl) (by kernel_rfl) (by kernel_rfl) (fun _ _ _ h => h) (Or.inl ⟨by rfl, ?_⟩) (by assumption) ?_
  rotate_left
  · intro w' hSw; have k27 := (World.cell?_of_block (w := w) (a := ⟨b, 27, none⟩) hSw).trans c27; have k14 := (World.cell?_of_block (w := w) (a := ⟨b, 14, none⟩) hSw).trans c14; have k9 := (World.cell?_of_block (w := w) (a := ⟨b, 9, none⟩) hSw).trans c9; have k10 := (World.cell?_of_block (w := w) (a := ⟨b, 10, none⟩) hSw).trans c10; have k11 := (World.cell?_of_block (w := w) (a := ⟨b, 11, none⟩) hSw).trans c11; have k12 := (World.cell?_of_block (w := w) (a := ⟨b, 12, none⟩) hSw).trans c12; have k13 := (World.cell?_of_block (w := w) (a := ⟨b, 13, none⟩) hSw).trans c13; go_simp; try with_reducible rfl
  simp only [Act.put, List.setIfInBounds_toArray, List.set_cons_zero, List.set_cons_succ]
  refine wpAnyH_take (i := 2) (oi := { dst := some 5, op := Op.fieldAddr 180 (Operand.tmp 4) 12, type := 0, pos := "run.go:336", after := #[{ on := 1, ground := Ground.data }], guard := none }) (v := ?_) rfl (by kernel_rfl) (by kernel_rfl) (by kernel_rfl) (fun _ _ _ h => h) (Or.inl ⟨by rfl, ?_⟩) (by assumption) ?_
  rotate_left
  · intro w' hSw; have k27 := (World.cell?_of_block (w := w) (a := ⟨b, 27, none⟩) hSw).trans c27; have k14 := (World.cell?_of_block (w := w) (a := ⟨b, 14, none⟩) hSw).trans c14; have k9 := (World.cell?_of_block (w := w) (a := ⟨b, 9, none⟩) hSw).trans c9; have k10 := (World.cell?_of_block (w := w) (a := ⟨b, 10, none⟩) hSw).trans c10; have k11 := (World.cell?_of_block (w := w) (a := ⟨b, 11, none⟩) hSw).trans c11; have k12 := (World.cell?_of_block (w := w) (a := ⟨b, 12, none⟩) hSw).trans c12; have k13 := (World.cell?_of_block (w := w) (a := ⟨b, 13, none⟩) hSw).trans c13; go_simp; try with_reducible rfl
  simp only [Act.put, List.setIfInBounds_toArray, List.set_cons_zero, List.set_cons_succ]
  refine wpAnyH_take (i := 3) (oi := { dst := some 6, op := Op.load 3 (Operand.tmp 5), type := 3, pos := "run.go:336", after := #[{ on := 2, ground := Ground.data }], guard := none }) (v := ?_) rfl (by kernel_rfl) (by kernel_rfl) (by kernel_rfl) (fun _ _ _ h => h) (Or.inl ⟨by rfl, ?_⟩) (by assumption) ?_
  rotate_left
  · intro w' hSw; have k27 := (World.cell?_of_block (w := w) (a := ⟨b, 27, none⟩) hSw).trans c27; have k14 := (World.cell?_of_block (w := w) (a := ⟨b, 14, none⟩) hSw).trans c14; have k9 := (World.cell?_of_block (w := w) (a := ⟨b, 9, none⟩) hSw).trans c9; have k10 := (World.cell?_of_block (w := w) (a := ⟨b, 10, none⟩) hSw).trans c10; have k11 := (World.cell?_of_block (w := w) (a := ⟨b, 11, none⟩) hSw).trans c11; have k12 := (World.cell?_of_block (w := w) (a := ⟨b, 12, none⟩) hSw).trans c12; have k13 := (World.cell?_of_block (w := w) (a := ⟨b, 13, none⟩) hSw).trans c13; go_simp; try with_reducible rfl
  simp only [Act.put, List.setIfInBounds_toArray, List.set_cons_zero, List.set_cons_succ]
  refine wpAnyH_take (i := 4) (oi := { dst := some 7, op := Op.move (Operand.tmp 0), type := 177, pos := "run.go:336", after := #[], guard := none }) (v := ?_) rfl (by kernel_rfl) (by kernel_rfl) (by kernel_rfl) (fun _ _ _ h => h) (Or.inl ⟨by rfl, ?_⟩) (by assumption) ?_
  rotate_left
  · intro w' hSw; have k27 := (World.cell?_of_block (w := w) (a := ⟨b, 27, none⟩) hSw).trans c27; have k14 := (World.cell?_of_block (w := w) (a := ⟨b, 14, none⟩) hSw).trans c14; have k9 := (World.cell?_of_block (w := w) (a := ⟨b, 9, none⟩) hSw).trans c9; have k10 := (World.cell?_of_block (w := w) (a := ⟨b, 10, none⟩) hSw).trans c10; have k11 := (World.cell?_of_block (w := w) (a := ⟨b, 11, none⟩) hSw).trans c11; have k12 := (World.cell?_of_block (w := w) (a := ⟨b, 12, none⟩) hSw).trans c12; have k13 := (World.cell?_of_block (w := w) (a := ⟨b, 13, none⟩) hSw).trans c13; go_simp; try with_reducible rfl
  simp only [Act.put, List.setIfInBounds_toArray, List.set_cons_zero, List.set_cons_succ]
  refine wpAnyH_take (i := 5) (oi := { dst := some 8, op := Op.nilCheck (Operand.tmp 7), type := 0, pos := "run.go:336", after := #[{ on := 4, ground := Ground.data }], guard := none }) (v := ?_) rfl (by kernel_rfl) (by kernel_rfl) (by kernel_rfl) (fun _ _ _ h => h) (Or.inl ⟨by rfl, ?_⟩) (by assumption) ?_
  rotate_left
  · intro w' hSw; have k27 := (World.cell?_of_block (w := w) (a := ⟨b, 27, none⟩) hSw).trans c27; have k14 := (World.cell?_of_block (w := w) (a := ⟨b, 14, none⟩) hSw).trans c14; have k9 := (World.cell?_of_block (w := w) (a := ⟨b, 9, none⟩) hSw).trans c9; have k10 := (World.cell?_of_block (w := w) (a := ⟨b, 10, none⟩) hSw).trans c10; have k11 := (World.cell?_of_block (w := w) (a := ⟨b, 11, none⟩) hSw).trans c11; have k12 := (World.cell?_of_block (w := w) (a := ⟨b, 12, none⟩) hSw).trans c12; have k13 := (World.cell?_of_block (w := w) (a := ⟨b, 13, none⟩) hSw).trans c13; go_simp; try with_reducible rfl
  simp only [Act.put, List.setIfInBounds_toArray, List.set_cons_zero, List.set_cons_succ]
  refine wpAnyH_take (i := 6) (oi := { dst := some 9, op := Op.fieldAddr 180 (Operand.tmp 8) 5, type := 0, pos := "run.go:336", after := #[{ on := 5, ground := Ground.data }], guard := none }) (v := ?_) rfl (by kernel_rfl) (by kernel_rfl) (by kernel_rfl) (fun _ _ _ h => h) (Or.inl ⟨by rfl, ?_⟩) (by assumption) ?_
  rotate_left
  · intro w' hSw; have k27 := (World.cell?_of_block (w := w) (a := ⟨b, 27, none⟩) hSw).trans c27; have k14 := (World.cell?_of_block (w := w) (a := ⟨b, 14, none⟩) hSw).trans c14; have k9 := (World.cell?_of_block (w := w) (a := ⟨b, 9, none⟩) hSw).trans c9; have k10 := (World.cell?_of_block (w := w) (a := ⟨b, 10, none⟩) hSw).trans c10; have k11 := (World.cell?_of_block (w := w) (a := ⟨b, 11, none⟩) hSw).trans c11; have k12 := (World.cell?_of_block (w := w) (a := ⟨b, 12, none⟩) hSw).trans c12; have k13 := (World.cell?_of_block (w := w) (a := ⟨b, 13, none⟩) hSw).trans c13; go_simp; try with_reducible rfl
  simp only [Act.put, List.setIfInBounds_toArray, List.set_cons_zero, List.set_cons_succ]
  refine wpAnyH_take (i := 7) (oi := { dst := some 10, op := Op.load 35 (Operand.tmp 9), type := 35, pos := "run.go:336", after := #[{ on := 6, ground := Ground.data }], guard := none }) (v := ?_) rfl (by kernel_rfl) (by kernel_rfl) (by kernel_rfl) (fun _ _ _ h => h) (Or.inl ⟨by rfl, ?_⟩) (by assumption) ?_
  rotate_left
  · intro w' hSw; have k27 := (World.cell?_of_block (w := w) (a := ⟨b, 27, none⟩) hSw).trans c27; have k14 := (World.cell?_of_block (w := w) (a := ⟨b, 14, none⟩) hSw).trans c14; have k9 := (World.cell?_of_block (w := w) (a := ⟨b, 9, none⟩) hSw).trans c9; have k10 := (World.cell?_of_block (w := w) (a := ⟨b, 10, none⟩) hSw).trans c10; have k11 := (World.cell?_of_block (w := w) (a := ⟨b, 11, none⟩) hSw).trans c11; have k12 := (World.cell?_of_block (w := w) (a := ⟨b, 12, none⟩) hSw).trans c12; have k13 := (World.cell?_of_block (w := w) (a := ⟨b, 13, none⟩) hSw).trans c13; go_simp; try with_reducible rfl
  simp only [Act.put, List.setIfInBounds_toArray, List.set_cons_zero, List.set_cons_succ]
  refine wpAnyH_take (i := 8) (oi := { dst := some 11, op := Op.move (Operand.tmp 0), type := 177, pos := "run.go:336", after := #[], guard := none }) (v := ?_) rfl (by kernel_rfl) (by kernel_rfl) (by kernel_rfl) (fun _ _ _ h => h) (Or.inl ⟨by rfl, ?_⟩) (by assumption) ?_
  rotate_left
  · intro w' hSw; have k27 := (World.cell?_of_block (w := w) (a := ⟨b, 27, none⟩) hSw).trans c27; have k14 := (World.cell?_of_block (w := w) (a := ⟨b, 14, none⟩) hSw).trans c14; have k9 := (World.cell?_of_block (w := w) (a := ⟨b, 9, none⟩) hSw).trans c9; have k10 := (World.cell?_of_block (w := w) (a := ⟨b, 10, none⟩) hSw).trans c10; have k11 := (World.cell?_of_block (w := w) (a := ⟨b, 11, none⟩) hSw).trans c11; have k12 := (World.cell?_of_block (w := w) (a := ⟨b, 12, none⟩) hSw).trans c12; have k13 := (World.cell?_of_block (w := w) (a := ⟨b, 13, none⟩) hSw).trans c13; go_simp; try with_reducible rfl
  simp only [Act.put, List.setIfInBounds_toArray, List.set_cons_zero, List.set_cons_succ]
  refine wpAnyH_take (i := 9) (oi := { dst := some 12, op := Op.nilCheck (Operand.tmp 11), type := 0, pos := "run.go:336", after := #[{ on := 8, ground := Ground.data }], guard := none }) (v := ?_) rfl (by kernel_rfl) (by kernel_rfl) (by kernel_rfl) (fun _ _ _ h => h) (Or.inl ⟨by rfl, ?_⟩) (by assumption) ?_
  rotate_left
  · intro w' hSw; have k27 := (World.cell?_of_block (w := w) (a := ⟨b, 27, none⟩) hSw).trans c27; have k14 := (World.cell?_of_block (w := w) (a := ⟨b, 14, none⟩) hSw).trans c14; have k9 := (World.cell?_of_block (w := w) (a := ⟨b, 9, none⟩) hSw).trans c9; have k10 := (World.cell?_of_block (w := w) (a := ⟨b, 10, none⟩) hSw).trans c10; have k11 := (World.cell?_of_block (w := w) (a := ⟨b, 11, none⟩) hSw).trans c11; have k12 := (World.cell?_of_block (w := w) (a := ⟨b, 12, none⟩) hSw).trans c12; have k13 := (World.cell?_of_block (w := w) (a := ⟨b, 13, none⟩) hSw).trans c13; go_simp; try with_reducible rfl
  simp only [Act.put, List.setIfInBounds_toArray, List.set_cons_zero, List.set_cons_succ]
  refine wpAnyH_take (i := 10) (oi := { dst := some 13, op := Op.fieldAddr 180 (Operand.tmp 12) 6, type := 0, pos := "run.go:336", after := #[{ on := 9, ground := Ground.data }], guard := none }) (v := ?_) rfl (by kernel_rfl) (by kernel_rfl) (by kernel_rfl) (fun _ _ _ h => h) (Or.inl ⟨by rfl, ?_⟩) (by assumption) ?_
  rotate_left
  · intro w' hSw; have k27 := (World.cell?_of_block (w := w) (a := ⟨b, 27, none⟩) hSw).trans c27; have k14 := (World.cell?_of_block (w := w) (a := ⟨b, 14, none⟩) hSw).trans c14; have k9 := (World.cell?_of_block (w := w) (a := ⟨b, 9, none⟩) hSw).trans c9; have k10 := (World.cell?_of_block (w := w) (a := ⟨b, 10, none⟩) hSw).trans c10; have k11 := (World.cell?_of_block (w := w) (a := ⟨b, 11, none⟩) hSw).trans c11; have k12 := (World.cell?_of_block (w := w) (a := ⟨b, 12, none⟩) hSw).trans c12; have k13 := (World.cell?_of_block (w := w) (a := ⟨b, 13, none⟩) hSw).trans c13; go_simp; try with_reducible rfl
  simp only [Act.put, List.setIfInBounds_toArray, List.set_cons_zero, List.set_cons_succ]
  refine wpAnyH_take (i := 11) (oi := { dst := some 14, op := Op.load 3 (Operand.tmp 13), type := 3, pos := "run.go:336", after := #[{ on := 10, ground := Ground.data }], guard := none }) (v := ?_) rfl (by kernel_rfl) (by kernel_rfl) (by kernel_rfl) (fun _ _ _ h => h) (Or.inl ⟨by rfl, ?_⟩) (by assumption) ?_
  rotate_left
  · intro w' hSw; have k27 := (World.cell?_of_block (w := w) (a := ⟨b, 27, none⟩) hSw).trans c27; have k14 := (World.cell?_of_block (w := w) (a := ⟨b, 14, none⟩) hSw).trans c14; have k9 := (World.cell?_of_block (w := w) (a := ⟨b, 9, none⟩) hSw).trans c9; have k10 := (World.cell?_of_block (w := w) (a := ⟨b, 10, none⟩) hSw).trans c10; have k11 := (World.cell?_of_block (w := w) (a := ⟨b, 11, none⟩) hSw).trans c11; have k12 := (World.cell?_of_block (w := w) (a := ⟨b, 12, none⟩) hSw).trans c12; have k13 := (World.cell?_of_block (w := w) (a := ⟨b, 13, none⟩) hSw).trans c13; go_simp; try with_reducible rfl
  simp only [Act.put, List.setIfInBounds_toArray, List.set_cons_zero, List.set_cons_succ]
  refine wpAnyH_take (i := 12) (oi := { dst := some 15, op := Op.move (Operand.tmp 0), type := 177, pos := "run.go:336", after := #[], guard := none }) (v := ?_) rfl (by kernel_rfl) (by kernel_rfl) (by kernel_rfl) (fun _ _ _ h => h) (Or.inl ⟨by rfl, ?_⟩) (by assumption) ?_
  rotate_left
  · intro w' hSw; have k27 := (World.cell?_of_block (w := w) (a := ⟨b, 27, none⟩) hSw).trans c27; have k14 := (World.cell?_of_block (w := w) (a := ⟨b, 14, none⟩) hSw).trans c14; have k9 := (World.cell?_of_block (w := w) (a := ⟨b, 9, none⟩) hSw).trans c9; have k10 := (World.cell?_of_block (w := w) (a := ⟨b, 10, none⟩) hSw).trans c10; have k11 := (World.cell?_of_block (w := w) (a := ⟨b, 11, none⟩) hSw).trans c11; have k12 := (World.cell?_of_block (w := w) (a := ⟨b, 12, none⟩) hSw).trans c12; have k13 := (World.cell?_of_block (w := w) (a := ⟨b, 13, none⟩) hSw).trans c13; go_simp; try with_reducible rfl
  simp only [Act.put, List.setIfInBounds_toArray, List.set_cons_zero, List.set_cons_succ]
  refine wpAnyH_take (i := 13) (oi := { dst := some 16, op := Op.nilCheck (Operand.tmp 15), type := 0, pos := "run.go:336", after := #[{ on := 12, ground := Ground.data }], guard := none }) (v := ?_) rfl (by kernel_rfl) (by kernel_rfl) (by kernel_rfl) (fun _ _ _ h => h) (Or.inl ⟨by rfl, ?_⟩) (by assumption) ?_
  rotate_left
  · intro w' hSw; have k27 := (World.cell?_of_block (w := w) (a := ⟨b, 27, none⟩) hSw).trans c27; have k14 := (World.cell?_of_block (w := w) (a := ⟨b, 14, none⟩) hSw).trans c14; have k9 := (World.cell?_of_block (w := w) (a := ⟨b, 9, none⟩) hSw).trans c9; have k10 := (World.cell?_of_block (w := w) (a := ⟨b, 10, none⟩) hSw).trans c10; have k11 := (World.cell?_of_block (w := w) (a := ⟨b, 11, none⟩) hSw).trans c11; have k12 := (World.cell?_of_block (w := w) (a := ⟨b, 12, none⟩) hSw).trans c12; have k13 := (World.cell?_of_block (w := w) (a := ⟨b, 13, none⟩) hSw).trans c13; go_simp; try with_reducible rfl
  simp only [Act.put, List.setIfInBounds_toArray, List.set_cons_zero, List.set_cons_succ]
  refine wpAnyH_take (i := 14) (oi := { dst := some 17, op := Op.fieldAddr 180 (Operand.tmp 16) 4, type := 0, pos := "run.go:336", after := #[{ on := 13, ground := Ground.data }], guard := none }) (v := ?_) rfl (by kernel_rfl) (by kernel_rfl) (by kernel_rfl) (fun _ _ _ h => h) (Or.inl ⟨by rfl, ?_⟩) (by assumption) ?_
  rotate_left
  · intro w' hSw; have k27 := (World.cell?_of_block (w := w) (a := ⟨b, 27, none⟩) hSw).trans c27; have k14 := (World.cell?_of_block (w := w) (a := ⟨b, 14, none⟩) hSw).trans c14; have k9 := (World.cell?_of_block (w := w) (a := ⟨b, 9, none⟩) hSw).trans c9; have k10 := (World.cell?_of_block (w := w) (a := ⟨b, 10, none⟩) hSw).trans c10; have k11 := (World.cell?_of_block (w := w) (a := ⟨b, 11, none⟩) hSw).trans c11; have k12 := (World.cell?_of_block (w := w) (a := ⟨b, 12, none⟩) hSw).trans c12; have k13 := (World.cell?_of_block (w := w) (a := ⟨b, 13, none⟩) hSw).trans c13; go_simp; try with_reducible rfl
  simp only [Act.put, List.setIfInBounds_toArray, List.set_cons_zero, List.set_cons_succ]
  refine wpAnyH_take (i := 15) (oi := { dst := some 18, op := Op.load 44 (Operand.tmp 17), type := 44, pos := "run.go:336", after := #[{ on := 14, ground := Ground.data }], guard := none }) (v := ?_) rfl (by kernel_rfl) (by kernel_rfl) (by kernel_rfl) (fun _ _ _ h => h) (Or.inl ⟨by rfl, ?_⟩) (by assumption) ?_
  rotate_left
  · intro w' hSw; have k27 := (World.cell?_of_block (w := w) (a := ⟨b, 27, none⟩) hSw).trans c27; have k14 := (World.cell?_of_block (w := w) (a := ⟨b, 14, none⟩) hSw).trans c14; have k9 := (World.cell?_of_block (w := w) (a := ⟨b, 9, none⟩) hSw).trans c9; have k10 := (World.cell?_of_block (w := w) (a := ⟨b, 10, none⟩) hSw).trans c10; have k11 := (World.cell?_of_block (w := w) (a := ⟨b, 11, none⟩) hSw).trans c11; have k12 := (World.cell?_of_block (w := w) (a := ⟨b, 12, none⟩) hSw).trans c12; have k13 := (World.cell?_of_block (w := w) (a := ⟨b, 13, none⟩) hSw).trans c13; go_simp; try with_reducible rfl
  simp only [Act.put, List.setIfInBounds_toArray, List.set_cons_zero, List.set_cons_succ]
  refine wpAnyH_take (i := 16) (oi := { dst := some 19, op := Op.call { callee := Callee.builtin Builtin.len, args := #[Operand.tmp 18], argTypes := #[44] }, type := 3, pos := "run.go:336", after := #[{ on := 15, ground := Ground.data }], guard := none }) (v := ?_) rfl (by kernel_rfl) (by kernel_rfl) (by kernel_rfl) (fun _ _ _ h => h) (Or.inl ⟨by rfl, ?_⟩) (by assumption) ?_
  rotate_left
  · intro w' hSw; have k27 := (World.cell?_of_block (w := w) (a := ⟨b, 27, none⟩) hSw).trans c27; have k14 := (World.cell?_of_block (w := w) (a := ⟨b, 14, none⟩) hSw).trans c14; have k9 := (World.cell?_of_block (w := w) (a := ⟨b, 9, none⟩) hSw).trans c9; have k10 := (World.cell?_of_block (w := w) (a := ⟨b, 10, none⟩) hSw).trans c10; have k11 := (World.cell?_of_block (w := w) (a := ⟨b, 11, none⟩) hSw).trans c11; have k12 := (World.cell?_of_block (w := w) (a := ⟨b, 12, none⟩) hSw).trans c12; have k13 := (World.cell?_of_block (w := w) (a := ⟨b, 13, none⟩) hSw).trans c13; go_simp; try with_reducible rfl
  simp only [Act.put, List.setIfInBounds_toArray, List.set_cons_zero, List.set_cons_succ]
  refine wpAnyH_take (i := 17) (oi := { dst := some 20, op := Op.build 37 #[(0, Operand.tmp 6), (1, Operand.tmp 10), (2, Operand.tmp 14), (3, Operand.tmp 19)], type := 37, pos := "run.go:336", after := #[{ on := 3, ground := Ground.data }, { on := 7, ground := Ground.data }, { on := 11, ground := Ground.data }, { on := 16, ground := Ground.data }], guard := none }) (v := ?_) rfl (by kernel_rfl) (by kernel_rfl) (by kernel_rfl) (fun _ _ _ h => h) (Or.inl ⟨by rfl, ?_⟩) (by assumption) ?_
  rotate_left
  · intro w' hSw; have k27 := (World.cell?_of_block (w := w) (a := ⟨b, 27, none⟩) hSw).trans c27; have k14 := (World.cell?_of_block (w := w) (a := ⟨b, 14, none⟩) hSw).trans c14; have k9 := (World.cell?_of_block (w := w) (a := ⟨b, 9, none⟩) hSw).trans c9; have k10 := (World.cell?_of_block (w := w) (a := ⟨b, 10, none⟩) hSw).trans c10; have k11 := (World.cell?_of_block (w := w) (a := ⟨b, 11, none⟩) hSw).trans c11; have k12 := (World.cell?_of_block (w := w) (a := ⟨b, 12, none⟩) hSw).trans c12; have k13 := (World.cell?_of_block (w := w) (a := ⟨b, 13, none⟩) hSw).trans c13; go_simp; try with_reducible rfl
  simp only [Act.put, List.setIfInBounds_toArray, List.set_cons_zero, List.set_cons_succ]
  refine wpAnyH_ready (rs := [18]) (by kernel_rfl) (by simp) ?_
  refine AllReadyH.cons (o := { dst := none, op := Op.store 37 (Operand.tmp 2) (Operand.tmp 20), type := 0, pos := "run.go:336", after := #[{ on := 17, ground := Ground.data }, { on := 0, ground := Ground.phase }, { on := 1, ground := Ground.phase }, { on := 2, ground := Ground.phase }, { on := 3, ground := Ground.phase }, { on := 4, ground := Ground.phase }, { on := 5, ground := Ground.phase }, { on := 6, ground := Ground.phase }, { on := 7, ground := Ground.phase }, { on := 8, ground := Ground.phase }, { on := 9, ground := Ground.phase }, { on := 10, ground := Ground.phase }, { on := 11, ground := Ground.phase }, { on := 12, ground := Ground.phase }, { on := 13, ground := Ground.phase }, { on := 14, ground := Ground.phase }, { on := 15, ground := Ground.phase }, { on := 16, ground := Ground.phase }, { on := 17, ground := Ground.phase }], guard := none }) rfl (fun K' hK' => ?_) AllReadyH.nil
  go_simp
  refine hK'.out _ _ ?_ (fun hHeld => ?_)
  · exact unhide HS7
  clear hK' K'
  try simp only [Act.put, List.setIfInBounds_toArray, List.set_cons_zero, List.set_cons_succ]
  refine wpAnyH_done (by kernel_rfl) ?_ _
  generalize hV : (((((((W.setCell ⟨w.heap.size, 0, none⟩ (.int .i64 s.fin)).setCell ⟨w.heap.size, 1, none⟩ (.int .i64 (s.reg 0))).setCell ⟨w.heap.size, 2, none⟩ (.int .i64 (s.reg 1))).setCell ⟨w.heap.size, 3, none⟩ (.int .i64 (s.reg 2))).setCell ⟨w.heap.size, 4, none⟩ (.int .i64 (s.reg 3))).setCell ⟨w.heap.size, 5, none⟩ (.int .i64 s.clock)).setCell ⟨w.heap.size, 6, none⟩ (.int .i64 s.heard)).drew = V at *
  clear hV
  have ky := fun j => cell_of_row V _ j _ 37 (0, 0) (unhide HY7)
  go_wp2
  refine bodyPost_ret (v := .agg #[.int .i64 s.fin, .int .i64 (s.reg 0), .int .i64 (s.reg 1), .int .i64 (s.reg 2), .int .i64 (s.reg 3), .int .i64 s.clock, .int .i64 s.heard]) (by simp [results, Tryz.results109, go_sem, ky]) rfl ?_
  exact ⟨rfl, unhide HF7⟩
end
end Go.Proofs.YtfmbebofllgmoaaGreatDoor
namespace Go.Proofs.YtfmbebofllgmoaaGreatDoor
open Go.RowKit

/-- A list of one unit, over and over. -/
def FullU (us : List Value) (w : World) (v : Value) : Prop := ∃ a n c, v = .slice a n c ∧ n ≤ 1000000000 ∧ (n = 0 ∨ ∃ q off, a = some ⟨q, off, none⟩ ∧ ∀ i, i < n → ∀ j u, us[j]? = some u → w.cell? ⟨q, off + i * us.length + j, none⟩ = some u)
def reps (n : Nat) (us : List Value) : List Value := (List.replicate n us).flatten
theorem reps_succ (n : Nat) (us : List Value) : reps (n + 1) us = us ++ reps n us := by unfold reps; rw [List.replicate_succ, List.flatten_cons]
theorem reps_length (n : Nat) (us : List Value) : (reps n us).length = n * us.length := by
  induction n with
  | zero => simp [reps]
  | succ n ih => rw [reps_succ, List.length_append, ih, Nat.succ_mul]; omega
theorem reps_append (n k : Nat) (us : List Value) : reps n us ++ reps k us = reps (n + k) us := by
  unfold reps; rw [← List.flatten_append, List.replicate_append_replicate]
theorem reps_get (us : List Value) {j : Nat} {u : Value} (hj : us[j]? = some u) : ∀ (n i : Nat), i < n → (reps n us)[i * us.length + j]? = some u
  | 0, i, h => by omega
  | n + 1, 0, _ => by
    rw [reps_succ, Nat.zero_mul, Nat.zero_add, List.getElem?_append_left (List.getElem?_eq_some_iff.1 hj).1]
    exact hj
  | n + 1, i + 1, h => by
    rw [reps_succ, List.getElem?_append_right (by rw [Nat.succ_mul]; omega), show (i + 1) * us.length + j - us.length = i * us.length + j by rw [Nat.succ_mul]; omega]
    exact reps_get us hj n i (by omega)
section
variable {w W : World} {v : Value} {us : List Value} {K : Nat → Prop}
theorem FullU.keep (h : FullU us w v) (hl : LiesIn v K) (hk : ∀ q, K q → W.heap[q]? = w.heap[q]?) : FullU us W v := by
  obtain ⟨a, n, c, rfl, hn, hc⟩ := h
  refine ⟨a, n, c, rfl, hn, ?_⟩
  rcases Nat.eq_zero_or_pos n with h0 | h0
  · exact .inl h0
  rcases hc with h1 | ⟨q, off, rfl, hcell⟩
  · omega
  have hq := hk q (hl q off n c rfl h0)
  exact .inr ⟨q, off, rfl, fun i hi j u hj => by rw [cellOf_heap hq]; exact hcell i hi j u hj⟩
theorem FullU.row {B e n : Nat} (_hus : 0 < us.length) (h : w.ownsRow B e us.length v n (reps n us)) (hn : n ≤ 1000000000) : FullU us w v := by
  rcases Nat.eq_zero_or_pos n with h0 | h0
  · obtain ⟨a, c, hv⟩ := row_shape h
    exact ⟨a, n, c, hv, hn, .inl h0⟩
  · obtain ⟨g, c, hv, _, _, hc⟩ := row_cell h h0
    exact ⟨_, n, c, hv, hn, .inr ⟨g, 0, rfl, fun i hi j u hj => by rw [Nat.zero_add]; exact hc _ _ (reps_get us hj n i hi)⟩⟩
theorem FullU.toE {m : Int} (h : FullU [.int .i64 0, .int .i64 m, .int .i64 0] w v) : FullE w v m := by
  obtain ⟨a, n, c, hv, hn, hc⟩ := h
  exact ⟨a, n, c, hv, hn, hc.imp id fun ⟨q, off, e, hcell⟩ => ⟨q, off, e, fun i hi => ⟨hcell i hi 0 _ rfl, hcell i hi 1 _ rfl, hcell i hi 2 _ rfl⟩⟩⟩
end
/-- A list of units that was made of an own list: in its block, or in a block of its own. -/
def MadeU (us : List Value) (e : Nat) (w : World) (lv : Value) (n : Nat) (u : Value) (k : Nat) : Prop :=
  FullU us w u ∧ ((∃ g cp, lv = .slice (some ⟨g, 0, none⟩) n cp ∧ u = .slice (some ⟨g, 0, none⟩) (n + k) cp) ∨ (∀ q, own u q → ¬ own lv q ∧ ∃ cur, w.heap[q]? = some (.cells cur e (0, 0))))
section
variable {us : List Value} {e : Nat}
theorem MadeU.step {w w' : World} {B : Nat} {lv u v' : Value} {n k j : Nat} (_hus : 0 < us.length) (h : MadeU us e w lv n u k) (hk : k ≤ j) (hn : n + j ≤ 1000000000) (hr : w'.ownsRow B e us.length v' (n + j) (reps (n + j) us))
    (hd : (∃ g cp, lv = .slice (some ⟨g, 0, none⟩) n cp ∧ v' = .slice (some ⟨g, 0, none⟩) (n + j) cp ∧ n + j ≤ cp ∧ w.grownBy w' (some g)) ∨ (w.grownBy w' none ∧ ∀ q, own v' q → w.heap.size ≤ q)) : MadeU us e w' lv n u k := by
  obtain ⟨hf, hp⟩ := h
  rcases hd with ⟨g, cp, hlv, hv', hroom, hg⟩ | ⟨hg, _⟩
  · rcases hp with ⟨g2, cp2, hlv2, hu⟩ | hp
    · rw [hlv] at hlv2
      cases hlv2
      refine ⟨?_, .inl ⟨g, cp, hlv, hu⟩⟩
      subst hv'
      rcases Nat.eq_zero_or_pos (n + j) with h0 | h0
      · exact ⟨_, _, _, hu, by omega, .inl (by omega)⟩
      obtain ⟨g3, c3, hv3, _, _, hc3⟩ := row_cell hr h0
      cases hv3
      exact ⟨some ⟨g, 0, none⟩, n + k, cp, hu, by omega, .inr ⟨g, 0, rfl, fun i hi j' u' hj' => by rw [Nat.zero_add]; exact hc3 _ _ (reps_get us hj' (n + j) i (by omega))⟩⟩
    · have hk' : ∀ q, own u q → w'.heap[q]? = w.heap[q]? := fun q hq => hg.block q (by obtain ⟨cur, hcur⟩ := (hp q hq).2; exact (Array.getElem?_eq_some_iff.1 hcur).1) (fun e => (hp q hq).1 (by rw [hlv]; simp only [own, Value.ownBlock]; exact e.symm))
      exact ⟨hf.keep own_lies hk', .inr (fun q hq => ⟨(hp q hq).1, by obtain ⟨cur, hcur⟩ := (hp q hq).2; exact ⟨cur, (hk' q hq).trans hcur⟩⟩)⟩
  · have hall : ∀ q, q < w.heap.size → w'.heap[q]? = w.heap[q]? := fun q hq => hg.block q hq (by simp)
    refine ⟨?_, hp.imp id (fun hp q hq => ⟨(hp q hq).1, by obtain ⟨cur, hcur⟩ := (hp q hq).2; exact ⟨cur, (hall q (Array.getElem?_eq_some_iff.1 hcur).1).trans hcur⟩⟩)⟩
    obtain ⟨a, nn, c, hv, hnn, hc⟩ := hf
    exact ⟨a, nn, c, hv, hnn, hc.imp id fun ⟨q, off, e, hcell⟩ => ⟨q, off, e, fun i hi j' u' hj' => by rw [cellOf_heap (hall q (World.block_lt_of_cell? w _ (hcell i hi j' u' hj')))]; exact hcell i hi j' u' hj'⟩⟩
theorem MadeU.store {w : World} {lv u v : Value} {n k X j : Nat} {cX : Array Value} {t : Nat} (h : MadeU us e w lv n u k) (hX : w.heap[X]? = some (.cells cX t (0, 0))) (he : t ≠ e) (hlv : ¬ own lv X) : MadeU us e (w.setCell ⟨X, j, none⟩ v) lv n u k := by
  obtain ⟨hf, hp⟩ := h
  have hk : ∀ q, q ≠ X → (w.setCell ⟨X, j, none⟩ v).heap[q]? = w.heap[q]? := fun q hq => Below.heap_setCell _ _ _ _ hq
  rcases hp with ⟨g, cp, hl, hu⟩ | hp
  · refine ⟨hf.keep (K := fun q => q = g) (fun q off n' c hv _ => by rw [hu] at hv; cases hv; rfl) (fun q hq => hk q (fun e => hlv (by rw [hl, ← e, hq]; rfl))), .inl ⟨g, cp, hl, hu⟩⟩
  · have hne : ∀ q, own u q → q ≠ X := fun q hq e' => by
      obtain ⟨cur, hcur⟩ := (hp q hq).2
      rw [e'] at hcur
      exact he (ty_one hX hcur)
    exact ⟨hf.keep own_lies (fun q hq => hk q (hne q hq)), .inr (fun q hq => ⟨(hp q hq).1, by obtain ⟨cur, hcur⟩ := (hp q hq).2; exact ⟨cur, (hk q (hne q hq)).trans hcur⟩⟩)⟩
theorem MadeU.fr {w W : World} {lv u : Value} {n k : Nat} (h : MadeU us e w lv n u k) (hf : Fr (fun _ => False) w W (fun _ => False)) : MadeU us e W lv n u k := by
  obtain ⟨⟨a, nn, c, hv, hnn, hc⟩, hp⟩ := h
  have hall : ∀ q, q < w.heap.size → W.heap[q]? = w.heap[q]? := fun q hq => hf.same q hq (fun h => h)
  exact ⟨⟨a, nn, c, hv, hnn, hc.imp id fun ⟨q, off, e, hcell⟩ => ⟨q, off, e, fun i hi j' u' hj' => by rw [cellOf_heap (hall q (World.block_lt_of_cell? w _ (hcell i hi j' u' hj')))]; exact hcell i hi j' u' hj'⟩⟩, hp.imp id fun hp q hq => ⟨(hp q hq).1, by obtain ⟨cur, hcur⟩ := (hp q hq).2; exact ⟨cur, (hall q (Array.getElem?_eq_some_iff.1 hcur).1).trans hcur⟩⟩⟩
theorem MadeU.ty {w : World} {lv u : Value} {B n k size m : Nat} {xs : List Value} (h : MadeU us e w lv n u k) (ho : w.ownsRow B e size lv m xs) {q : Nat} (hq : own u q) : ∃ cur, w.heap[q]? = some (.cells cur e (0, 0)) := by
  rcases h.2 with ⟨g, cp, hl, hu⟩ | hp
  · exact row_d ho (by rw [hl]; rw [hu] at hq; exact hq)
  · exact (hp q hq).2
/-- One append of units to an own list, and the store of what came of it into the entry's block. -/
theorem keep_oneU {U wa : World} {B X t : Nat} {lv va : Value} {n j k : Nat} {cX : Array Value} (hus : 0 < us.length) (hte : t ≠ e) (hn : n + j ≤ 1000000000) (ho : U.ownsRow B e us.length lv n (reps n us)) (hX : U.heap[X]? = some (.cells cX t (0, 0)))
    (ra : wa.ownsRow B e us.length va (n + j) (reps (n + j) us))
    (hd : (∃ g cp, lv = .slice (some ⟨g, 0, none⟩) n cp ∧ va = .slice (some ⟨g, 0, none⟩) (n + j) cp ∧ n + j ≤ cp ∧ U.grownBy wa (some g)) ∨ (U.grownBy wa none ∧ ∀ q, own va q → U.heap.size ≤ q)) :
    (wa.setCell ⟨X, k, none⟩ va).ownsRow B e us.length lv n (reps n us) ∧ (wa.setCell ⟨X, k, none⟩ va).heap[X]? = some (.cells (cX.setIfInBounds k va) t (0, 0)) ∧ MadeU us e (wa.setCell ⟨X, k, none⟩ va) lv n va j ∧ (∀ u i, i ≤ j → MadeU us e U lv n u i → MadeU us e (wa.setCell ⟨X, k, none⟩ va) lv n u i) ∧
      Fr (fun q => own lv q ∨ q = X) U (wa.setCell ⟨X, k, none⟩ va) (fun q => own lv q ∨ q = X) ∧ (∀ q, own va q → own lv q ∨ U.heap.size ≤ q) := by
  have hXl : ¬ own lv X := own_ty ho hX hte
  have old : ∀ q, q < U.heap.size → ¬ own lv q → wa.heap[q]? = U.heap[q]? := fun q hq hn => by
    rcases hd with ⟨g, cp, hl, _, _, hg⟩ | ⟨hg, _⟩
    · exact hg.block q hq (fun e => hn (by rw [hl]; simp only [own, Value.ownBlock]; exact e.symm))
    · exact hg.block q hq (by simp)
  have hXlt := (Array.getElem?_eq_some_iff.1 hX).1
  have hXa : wa.heap[X]? = some (.cells cX t (0, 0)) := (old X hXlt hXl).trans hX
  have hsz : U.heap.size ≤ wa.heap.size := by rcases hd with ⟨_, _, _, _, _, hg⟩ | ⟨hg, _⟩ <;> exact hg.size
  have hol : wa.ownsRow B e us.length lv n (reps n us) := by
    rcases hd with ⟨g, cp, hl, hv, hr, hg⟩ | ⟨hg, _⟩
    · subst hl hv
      rw [← reps_append] at ra
      exact row_prefix ra (reps_length n us)
    · exact ownsRow_of_block ho (fun q hq => hg.block q (World.ownsRow.lt ho q hq).2 (by simp))
  have hmade : MadeU us e wa lv n va j := by
    refine ⟨FullU.row hus ra hn, ?_⟩
    rcases hd with ⟨g, cp, hl, hv, _, _⟩ | ⟨_, hf⟩
    · exact .inl ⟨g, cp, hl, hv⟩
    · exact .inr (fun q hq => ⟨fun h => by have h1 := hf q hq; have h2 := (World.ownsRow.lt ho q h).2; omega, row_d ra hq⟩)
  refine ⟨ownsRow_of_block hol (fun q hq => Below.heap_setCell _ _ _ _ (fun e => hXl (by have e' : q = X := e; rw [← e']; exact hq))), setCell_row wa X k cX t va hXa, hmade.store hXa hte hXl, fun u i hi hu => (hu.step hus hi hn ra hd).store hXa hte hXl, ?_⟩
  have h3 : wa.os = U.os ∧ wa.tape = U.tape ∧ wa.output = U.output := by rcases hd with ⟨_, _, _, _, _, hg⟩ | ⟨hg, _⟩ <;> exact ⟨hg.os, hg.tape, hg.output⟩
  refine ⟨⟨h3.1, h3.2.1, h3.2.2, by simpa [World.setCell] using hsz, fun q hq hn => (Below.heap_setCell _ _ _ _ (fun e => hn (.inr e))).trans (old q hq (fun h => hn (.inl h))), fun _ _ h => h⟩, fun q hq => ?_⟩
  rcases hd with ⟨g, cp, hl, hv, _, _⟩ | ⟨_, hf⟩
  · left; rw [hl]; rw [hv] at hq; exact hq
  · exact .inr (hf q hq)
end
end Go.Proofs.YtfmbebofllgmoaaGreatDoor
namespace Go.Proofs.YtfmbebofllgmoaaGreatDoor
open Go.RowKit
attribute [local go_sem ↓] Go.wp_at_zero Go.wp_at_succ

theorem both_same {U wa : World} {B e s n j : Nat} {lv va : Value} {xs : List Value} (_ho : U.ownsRow B e s lv n xs) (hd : (∃ g cp, lv = .slice (some ⟨g, 0, none⟩) n cp ∧ va = .slice (some ⟨g, 0, none⟩) (n + j) cp ∧ n + j ≤ cp ∧ U.grownBy wa (some g)) ∨ (U.grownBy wa none ∧ ∀ q, own va q → U.heap.size ≤ q)) (q : Nat) (hq : q < U.heap.size) (hn : ¬ own lv q) : wa.heap[q]? = U.heap[q]? := by
  rcases hd with ⟨g, cp, hl, _, _, hg⟩ | ⟨hg, _⟩
  · exact hg.block q hq (fun e => hn (by rw [hl]; simp only [own, Value.ownBlock]; exact e.symm))
  · exact hg.block q hq (by simp)
theorem row_at {w : World} {B e s n c : Nat} {a : Option Addr} {xs : List Value} (h : w.ownsRow B e s (.slice a n c) n xs) (hn : 0 < n) : ∃ g, a = some ⟨g, 0, none⟩ ∧ g < w.heap.size ∧ (∀ k, k < n * s → ∃ v, w.cell? ⟨g, k, none⟩ = some v) ∧ ∀ k, w.frozen? ⟨g, k, none⟩ = false := by
  obtain ⟨h0, h1⟩ := h
  rcases h1 with ⟨hv, h2⟩ | ⟨g, cap, cur, hv, hB, hg, hc1, hc2, hc3, hc4⟩
  · omega
  · cases hv
    refine ⟨g, rfl, (Array.getElem?_eq_some_iff.1 hg).1, fun k hk => ?_, fun k => frozen_rowE hg k⟩
    have hlt : k < cur.size := by rw [hc3]; exact Nat.lt_of_lt_of_le hk (Nat.mul_le_mul_right s hc1)
    exact ⟨cur[k], (cell_of_row w g k cur e (0, 0) hg).trans (Array.getElem?_eq_getElem hlt)⟩
theorem row_set {w : World} {B e s n c g k : Nat} {xs : List Value} (h : w.ownsRow B e s (.slice (some ⟨g, 0, none⟩) n c) n xs) (z : Value) (_hk : k < n * s) : (w.setCell ⟨g, k, none⟩ z).ownsRow B e s (.slice (some ⟨g, 0, none⟩) n c) n (xs.set k z) := by
  obtain ⟨h0, h1⟩ := h
  rcases h1 with ⟨hv, h2⟩ | ⟨g', cap, cur, hv, hB, hg, hc1, hc2, hc3, hc4⟩
  · cases hv
  · cases hv
    refine ⟨by simpa using h0, .inr ⟨g, c, cur.setIfInBounds k z, rfl, hB, setCell_row w g k cur e _ hg, hc1, hc2, by simpa using hc3, ?_⟩⟩
    rw [Array.toList_setIfInBounds, List.take_set, hc4]
theorem reps_one (us : List Value) : reps 1 us = us := by unfold reps; simp
theorem drop_cons {l : List Value} {k : Nat} (h : k < l.length) : ∃ d, l.drop k = d :: l.drop (k + 1) := ⟨_, List.drop_eq_getElem_cons h⟩
theorem set_at (p : List Value) {k i : Nat} (hk : p.length = k) (q : List Value) (z : Value) : (p ++ q).set (k + i) z = p ++ q.set i z := by
  rw [List.set_append_right _ _ (by omega), show k + i - p.length = i by omega]
theorem set_at0 (p : List Value) {k : Nat} (hk : p.length = k) (q : List Value) (z : Value) : (p ++ q).set k z = p ++ q.set 0 z := set_at p hk (i := 0) q z
theorem unit_set3 {w : World} {B e n c g j : Nat} {xs : List Value} {u0 u1 u2 : Value} (h : w.ownsRow B e 3 (.slice (some ⟨g, 0, none⟩) n c) n (reps j [u0, u1, u2] ++ xs.drop (j * 3))) (hj : j < n) (z0 z1 z2 : Value) (e0 : z0 = u0 := by rfl) (e1 : z1 = u1 := by rfl) (e2 : z2 = u2 := by rfl) :
    (((w.setCell ⟨g, j * 3, none⟩ z0).setCell ⟨g, j * 3 + 1, none⟩ z1).setCell ⟨g, j * 3 + 2, none⟩ z2).ownsRow B e 3 (.slice (some ⟨g, 0, none⟩) n c) n (reps (j + 1) [u0, u1, u2] ++ xs.drop ((j + 1) * 3)) := by
  subst e0 e1 e2
  have hr := row_set (row_set (row_set h z0 (k := j * 3) (by omega)) z1 (k := j * 3 + 1) (by omega)) z2 (k := j * 3 + 2) (by omega)
  have hl := h.1
  rw [List.length_append, reps_length, List.length_drop] at hl
  simp only [List.length_cons, List.length_nil] at hl
  have hp : (reps j [z0, z1, z2]).length = j * 3 := reps_length _ _
  obtain ⟨d0, x0⟩ := drop_cons (l := xs) (k := j * 3) (by omega)
  obtain ⟨d1, x1⟩ := drop_cons (l := xs) (k := j * 3 + 1) (by omega)
  obtain ⟨d2, x2⟩ := drop_cons (l := xs) (k := j * 3 + 1 + 1) (by omega)
  rw [x0, x1, x2] at hr
  rw [set_at0 _ hp, set_at _ hp, set_at _ hp] at hr
  rw [← reps_append, reps_one, List.append_assoc, show (j + 1) * 3 = j * 3 + 1 + 1 + 1 by omega]
  exact hr
theorem elem108 : Elem 62 108 5 104 := elem_of _ _ _ _ (.agg #[.slice none 0 0, .slice none 0 0, .slice none 0 0, .slice none 0 0, .int .i64 0]) Tryz.underlying62 (by kernel_rfl) rfl
/-- What comes of keeping a list of kind E. -/
def KeptE (w w' : World) (B bb : Nat) (n : Int) (vI vE vN : Value) (LI LE LN : List Ent) (K : Nat → Prop) (lv : Value) : Prop :=
  ∃ vX' e K', BookK w' B bb n vI vX' vN LI (LE ++ [e]) LN K' ∧ (∀ q, K' q → K q ∨ own lv q ∨ w.heap.size ≤ q) ∧ (∀ q, own vX' q → own vE q ∨ w.heap.size ≤ q) ∧ Fr (fun q => q = bb ∨ own vE q ∨ own lv q ∨ w.heap.size ≤ q) w w' (fun q => q = bb ∨ own vE q ∨ own lv q ∨ w.heap.size ≤ q)
end Go.Proofs.YtfmbebofllgmoaaGreatDoor
namespace Go.Proofs.YtfmbebofllgmoaaGreatDoor
open Go.RowKit
attribute [local go_sem ↓] Go.wp_at_zero Go.wp_at_succ

set_option maxHeartbeats 4000000 in
set_option maxRecDepth 20000 in
theorem keepEvents_any {w2 : World} {B bb : Nat} {n : Int} {vI vE vN : Value} {LI LE LN : List Ent} {K : Nat → Prop} (h : BookK w2 B bb n vI vE vN LI LE LN K) (hBw : B ≤ w2.heap.size) {lv : Value} {nn : Nat} {xs : List Value} (ho : w2.ownsRow B 72 3 lv nn xs) (hk : ∀ q, own lv q → ¬ K q) (hl : nn ≤ 500000000) (hL : LE.length ≤ 900000000000) :
    Calls Tryz.prog 75 #[.pointer (some ⟨bb, 0, none⟩), lv] w2 fun e w' => e = .returned (.tuple #[]) ∧ KeptE w2 w' B bb (wrap64 (n + 1)) vI vE vN LI LE LN K lv := by
  obtain ⟨a, c, rfl⟩ := row_shape ho
  obtain ⟨aX, cX, rfl⟩ := row_shape h.bk.rE
  have hnb : ¬ own (.slice a nn c) bb := own_ty ho h.bk.blk (by decide)
  have close : ∀ w', KeptE w2 w' B bb (wrap64 (n + 1)) vI (.slice aX LE.length cX) vN LI LE LN K (.slice a nn c) → KeptE w2 w' B bb (wrap64 (n + 1)) vI (.slice aX LE.length cX) vN LI LE LN K (.slice a nn c) := fun _ h => h
  have CLOSE := hide close
  clear close
  have HB := hide h
  have HO := hide ho
  have HK := hide hk
  clear h ho hk
  go_enter Tryz.func75, Tryz.ntmps75
  have HNB := hide hnb
  clear hnb
  have y0 := setCell_row w2 bb 0 _ 65 (.int .i64 (wrap64 (n + 1))) (unhide HB).bk.blk
  have cb := fun j => cell_of_row w2 _ j _ 65 (0, 0) (unhide HB).bk.blk
  have zb := fun j => frozen_rowE (unhide HB).bk.blk j
  have hbw : bb < w2.heap.size := (Array.getElem?_eq_some_iff.1 (unhide HB).bk.blk).1
  have Y0 := hide y0
  clear y0
  go_wp2
  obtain ⟨m, hm⟩ : ∃ m, wrap64 (1000 + wrap64 (n + 1)) = m := ⟨_, rfl⟩
  rw [hm]
  have z1 : (w2.setCell ⟨bb, 0, none⟩ (.int .i64 (wrap64 (n + 1)))).heap.size = w2.heap.size := by simp [World.setCell]
  have hf1 : Fr (fun q => q = bb) w2 ((w2.setCell ⟨bb, 0, none⟩ (.int .i64 (wrap64 (n + 1)))).alloc (.cells #[.int .i64 0, .int .i64 m, .int .i64 0] 72)) (fun q => q = bb) := ((Fr.refl (fun q => q = bb) w2).setCell _ _ (.inl rfl)).alloc _
  have y1 : ((w2.setCell ⟨bb, 0, none⟩ (.int .i64 (wrap64 (n + 1)))).alloc (.cells #[.int .i64 0, .int .i64 m, .int .i64 0] 72)).heap[bb]? = some (.cells #[.int .i64 (wrap64 (n + 1)), vI, .slice aX LE.length cX, vN] 65) := (Below.heap_alloc _ _ _ (by rw [z1]; exact hbw)).trans (unhide Y0)
  have p1 : ((w2.setCell ⟨bb, 0, none⟩ (.int .i64 (wrap64 (n + 1)))).alloc (.cells #[.int .i64 0, .int .i64 m, .int .i64 0] 72)).heap[w2.heap.size]? = some (.cells #[.int .i64 0, .int .i64 m, .int .i64 0] 72) := by
    have h := heap_alloc_new (w2.setCell ⟨bb, 0, none⟩ (.int .i64 (wrap64 (n + 1)))) (.cells #[.int .i64 0, .int .i64 m, .int .i64 0] 72)
    rwa [z1] at h
  have z2 : w2.heap.size < ((w2.setCell ⟨bb, 0, none⟩ (.int .i64 (wrap64 (n + 1)))).alloc (.cells #[.int .i64 0, .int .i64 m, .int .i64 0] 72)).heap.size := (Array.getElem?_eq_some_iff.1 p1).1
  have hnP : ¬ own (.slice a nn c) w2.heap.size := fun hq => by have := (World.ownsRow.lt (unhide HO) _ hq).2; omega
  have o1 : ((w2.setCell ⟨bb, 0, none⟩ (.int .i64 (wrap64 (n + 1)))).alloc (.cells #[.int .i64 0, .int .i64 m, .int .i64 0] 72)).ownsRow B 72 3 (.slice a nn c) nn (reps 0 [.int .i64 0, .int .i64 m, .int .i64 0] ++ xs.drop (0 * 3)) := by
    rw [Nat.zero_mul, List.drop_zero]
    exact ownsRow_of_block (unhide HO) (fun q hq => hf1.same q (World.ownsRow.lt (unhide HO) q hq).2 (fun e => unhide HNB (e ▸ hq)))
  generalize hw1 : (w2.setCell ⟨bb, 0, none⟩ (.int .i64 (wrap64 (n + 1)))).alloc (.cells #[.int .i64 0, .int .i64 m, .int .i64 0] 72) = w1 at *
  have HNP := hide hnP
  have O1 := hide o1
  have Y1 := hide y1
  have HF1 := hide hf1
  have P1 := hide p1
  have Z2 := hide z2
  clear o1 y1 hf1 p1 hw1 hm cb zb z1 z2 Y0 hnP
  go_loopw [6] (fun i wr => ∃ j : Nat, j ≤ nn ∧ i = .int .i64 j ∧ Hid (wr.ownsRow B 72 3 (.slice a nn c) nn (reps j [.int .i64 0, .int .i64 m, .int .i64 0] ++ xs.drop (j * 3))) ∧ Fr (own (.slice a nn c)) w1 wr (own (.slice a nn c))) (fun i _ => nn - (intOf i).toNat)
  case atStart => exact ⟨0, Nat.zero_le _, rfl, O1, Fr.refl _ _⟩
  case round =>
    obtain ⟨j, hj, rfl, hoj, hfj⟩ := hrel
    have hpr := (hfj.same w2.heap.size (unhide Z2) (unhide HNP)).trans (unhide P1)
    have cP := fun i => cell_of_row wr _ i _ 72 (0, 0) hpr
    by_cases hlt : j < nn
    · obtain ⟨g, hg, hgl, hcell, hfz⟩ := row_at (unhide hoj) (by omega)
      subst hg
      obtain ⟨c0, k0⟩ := hcell (j * 3) (by omega)
      have f0 := hfz (j * 3)
      obtain ⟨c1, k1⟩ := hcell (j * 3 + 1) (by omega)
      have f1 := hfz (j * 3 + 1)
      obtain ⟨c2, k2⟩ := hcell (j * 3 + 2) (by omega)
      have f2 := hfz (j * 3 + 2)
      have hon := unit_set3 (unhide hoj) hlt (.int .i64 0) (.int .i64 m) (.int .i64 0)
      have HN := hide hon
      have HFJ := hide hfj
      have hk0 : (0 : Int) ≤ (j : Int) := by omega
      have hk1 : (j : Int) < (nn : Int) := by omega
      have hgP' : ¬ w2.heap.size = g := fun e => unhide HNP (by rw [e]; rfl)
      clear hoj hon hfj hcell hfz hpr
      go_wp2
      go_roundw
      case rel =>
        refine ⟨j + 1, by omega, by go_num, HN, ?_⟩
        refine (((unhide HFJ).setCell ⟨g, j * 3, none⟩ (.int .i64 0) (.inl rfl)).setCell ⟨g, j * 3 + 1, none⟩ (.int .i64 m) (.inl rfl)).setCell ⟨g, j * 3 + 2, none⟩ (.int .i64 0) (.inl rfl)
      case measure => simp [intOf]; omega
    · have hjl : j = nn := by omega
      subst hjl
      have hk1 : ¬ (j : Int) < (j : Int) := by omega
      have hoe : wr.ownsRow B 72 3 (.slice a j c) j (reps j [.int .i64 0, .int .i64 m, .int .i64 0]) := by
        have h := unhide hoj
        rw [List.drop_eq_nil_of_le (Nat.le_of_eq (unhide HO).1), List.append_nil] at h
        exact h
      have hpl : w2.heap.size < wr.heap.size := (Array.getElem?_eq_some_iff.1 hpr).1
      have hPX : w2.heap.size ≠ wr.heap.size := by omega
      have hPX' : ¬ wr.heap.size = w2.heap.size := by omega
      have hrB : B ≤ wr.heap.size := by omega
      have C0n := heap_alloc_new wr (.cells #[.slice a j c, .slice none 0 0, .slice none 0 0, .slice none 0 0, .int .i64 m] 108)
      have v0o : ((wr.alloc (.cells #[.slice a j c, .slice none 0 0, .slice none 0 0, .slice none 0 0, .int .i64 m] 108)).alloc (.cells #[.int .i64 0, .int .i64 m, .int .i64 0] 72)).ownsRow B 72 3 (.slice a j c) j (reps j [.int .i64 0, .int .i64 m, .int .i64 0]) := World.ownsRow.alloc (World.ownsRow.alloc hoe _) _
      have v0x : ((wr.alloc (.cells #[.slice a j c, .slice none 0 0, .slice none 0 0, .slice none 0 0, .int .i64 m] 108)).alloc (.cells #[.int .i64 0, .int .i64 m, .int .i64 0] 72)).heap[wr.heap.size]? = some (.cells #[.slice a j c, .slice none 0 0, .slice none 0 0, .slice none 0 0, .int .i64 m] 108) := (Below.heap_alloc _ _ _ (by simp)).trans C0n
      have v0p : ((wr.alloc (.cells #[.slice a j c, .slice none 0 0, .slice none 0 0, .slice none 0 0, .int .i64 m] 108)).alloc (.cells #[.int .i64 0, .int .i64 m, .int .i64 0] 72)).heap[w2.heap.size]? = some (.cells #[.int .i64 0, .int .i64 m, .int .i64 0] 72) := (Below.heap_alloc _ _ _ (by simp; omega)).trans ((Below.heap_alloc _ _ _ hpl).trans hpr)
      have v0n : ((wr.alloc (.cells #[.slice a j c, .slice none 0 0, .slice none 0 0, .slice none 0 0, .int .i64 m] 108)).alloc (.cells #[.int .i64 0, .int .i64 m, .int .i64 0] 72)).heap[wr.heap.size + 1]? = some (.cells #[.int .i64 0, .int .i64 m, .int .i64 0] 72) := by
        have h := heap_alloc_new (wr.alloc (.cells #[.slice a j c, .slice none 0 0, .slice none 0 0, .slice none 0 0, .int .i64 m] 108)) (.cells #[.int .i64 0, .int .i64 m, .int .i64 0] 72)
        rwa [show (wr.alloc (.cells #[.slice a j c, .slice none 0 0, .slice none 0 0, .slice none 0 0, .int .i64 m] 108)).heap.size = wr.heap.size + 1 by simp] at h
      have hB0 : B ≤ ((wr.alloc (.cells #[.slice a j c, .slice none 0 0, .slice none 0 0, .slice none 0 0, .int .i64 m] 108)).alloc (.cells #[.int .i64 0, .int .i64 m, .int .i64 0] 72)).heap.size := by simp; omega
      have V0O := hide v0o
      have V0X := hide v0x
      have V0P := hide v0p
      have V0N := hide v0n
      have HFJ := hide hfj
      clear hoj hoe hfj C0n v0o v0x v0n v0p hpr
      go_wp2_with (at_builtin; first | (refine wpList_both elemE (by omega) (by omega) (B := B) (n := j) (m := 1) (xs := reps j [.int .i64 0, .int .i64 m, .int .i64 0]) (news := [.int .i64 0, .int .i64 m, .int .i64 0]) rfl (.tmp 35) (.tmp 37) rfl (ad := ⟨wr.heap.size + 1, 0, none⟩) (cap := 1) rfl rfl (unhide V0O) rfl (World.news_of_block (unhide V0N)) (by simp [Value.oneCell']) (by omega) (by omega) hB0 ?_; intro va wa sha ra da; obtain ⟨aa, ca, rfl⟩ := sha; have ra' : wa.ownsRow B 72 3 (.slice aa (j + 1) ca) (j + 1) (reps (j + 1) [.int .i64 0, .int .i64 m, .int .i64 0]) := (by rw [← reps_append]; exact ra); have xa := (both_same (unhide V0O) da wr.heap.size (Array.getElem?_eq_some_iff.1 (unhide V0X)).1 (own_ty (unhide V0O) (unhide V0X) (by decide))).trans (unhide V0X); have kca := fun i => cell_of_row wa _ i _ 108 (0, 0) xa; have kza := fun i => frozen_rowE xa i; have pa := (both_same (unhide V0O) da w2.heap.size (Array.getElem?_eq_some_iff.1 (unhide V0P)).1 (unhide HNP)).trans (unhide V0P); have kpa := fun i => cell_of_row wa _ i _ 72 (0, 0) pa; have K1 := hide (keep_oneU (k := 1) (us := [.int .i64 0, .int .i64 m, .int .i64 0]) (by simp) (by decide) (by omega) (unhide V0O) (unhide V0X) ra' da); have PP := hide pa; clear ra ra' da xa pa V0N; have V1O := hide (show ((wa.setCell ⟨wr.heap.size, 1, none⟩ (.slice aa (j + 1) ca)).alloc (.cells #[.int .i64 0, .int .i64 m, .int .i64 0, .int .i64 0, .int .i64 m, .int .i64 0] 72)).ownsRow B 72 3 (.slice a j c) j (reps j [.int .i64 0, .int .i64 m, .int .i64 0]) from World.ownsRow.alloc (unhide K1).1 _); have V1X := hide (show ((wa.setCell ⟨wr.heap.size, 1, none⟩ (.slice aa (j + 1) ca)).alloc (.cells #[.int .i64 0, .int .i64 m, .int .i64 0, .int .i64 0, .int .i64 m, .int .i64 0] 72)).heap[wr.heap.size]? = some (.cells #[.slice a j c, .slice aa (j + 1) ca, .slice none 0 0, .slice none 0 0, .int .i64 m] 108) from (Below.heap_alloc _ _ _ (Array.getElem?_eq_some_iff.1 (unhide K1).2.1).1).trans (unhide K1).2.1); have V1P := hide (show ((wa.setCell ⟨wr.heap.size, 1, none⟩ (.slice aa (j + 1) ca)).alloc (.cells #[.int .i64 0, .int .i64 m, .int .i64 0, .int .i64 0, .int .i64 m, .int .i64 0] 72)).heap[w2.heap.size]? = some (.cells #[.int .i64 0, .int .i64 m, .int .i64 0] 72) from (Below.heap_alloc _ _ _ (by simp [World.setCell]; exact (Array.getElem?_eq_some_iff.1 (unhide PP)).1)).trans ((Below.heap_setCell _ _ _ _ hPX).trans (unhide PP))); have V1N := hide (show ((wa.setCell ⟨wr.heap.size, 1, none⟩ (.slice aa (j + 1) ca)).alloc (.cells #[.int .i64 0, .int .i64 m, .int .i64 0, .int .i64 0, .int .i64 m, .int .i64 0] 72)).heap[wa.heap.size]? = some (.cells #[.int .i64 0, .int .i64 m, .int .i64 0, .int .i64 0, .int .i64 m, .int .i64 0] 72) from (by have h := heap_alloc_new (wa.setCell ⟨wr.heap.size, 1, none⟩ (.slice aa (j + 1) ca)) (.cells #[.int .i64 0, .int .i64 m, .int .i64 0, .int .i64 0, .int .i64 m, .int .i64 0] 72); rwa [show (wa.setCell ⟨wr.heap.size, 1, none⟩ (.slice aa (j + 1) ca)).heap.size = wa.heap.size by simp [World.setCell]] at h)); have hB1 : B ≤ ((wa.setCell ⟨wr.heap.size, 1, none⟩ (.slice aa (j + 1) ca)).alloc (.cells #[.int .i64 0, .int .i64 m, .int .i64 0, .int .i64 0, .int .i64 m, .int .i64 0] 72)).heap.size := (by have h := (unhide K1).2.2.2.2.1.size; have h0 := hB0; simp at h h0 ⊢; omega); clear PP) | (refine wpList_both elemE (by omega) (by omega) (B := B) (n := j) (m := 2) (xs := reps j [.int .i64 0, .int .i64 m, .int .i64 0]) (news := [.int .i64 0, .int .i64 m, .int .i64 0, .int .i64 0, .int .i64 m, .int .i64 0]) rfl (.tmp 40) (.tmp 43) rfl (ad := ⟨wa.heap.size, 0, none⟩) (cap := 2) rfl rfl (unhide V1O) rfl (World.news_of_block (unhide V1N)) (by simp [Value.oneCell']) (by omega) (by omega) hB1 ?_; intro va wb sha ra da; obtain ⟨ab, cb, rfl⟩ := sha; have ra' : wb.ownsRow B 72 3 (.slice ab (j + 2) cb) (j + 2) (reps (j + 2) [.int .i64 0, .int .i64 m, .int .i64 0]) := (by rw [← reps_append]; exact ra); have xa := (both_same (unhide V1O) da wr.heap.size (Array.getElem?_eq_some_iff.1 (unhide V1X)).1 (own_ty (unhide V1O) (unhide V1X) (by decide))).trans (unhide V1X); have kcb := fun i => cell_of_row wb _ i _ 108 (0, 0) xa; have kzb := fun i => frozen_rowE xa i; have pa := (both_same (unhide V1O) da w2.heap.size (Array.getElem?_eq_some_iff.1 (unhide V1P)).1 (unhide HNP)).trans (unhide V1P); have kpb := fun i => cell_of_row wb _ i _ 72 (0, 0) pa; have K2 := hide (keep_oneU (k := 2) (us := [.int .i64 0, .int .i64 m, .int .i64 0]) (by simp) (by decide) (by omega) (unhide V1O) (unhide V1X) ra' da); have PP := hide pa; clear ra ra' da xa pa V1N; have V2O := hide (show ((wb.setCell ⟨wr.heap.size, 2, none⟩ (.slice ab (j + 2) cb)).alloc (.cells #[.int .i64 0, .int .i64 m, .int .i64 0, .int .i64 0, .int .i64 m, .int .i64 0, .int .i64 0, .int .i64 m, .int .i64 0] 72)).ownsRow B 72 3 (.slice a j c) j (reps j [.int .i64 0, .int .i64 m, .int .i64 0]) from World.ownsRow.alloc (unhide K2).1 _); have V2X := hide (show ((wb.setCell ⟨wr.heap.size, 2, none⟩ (.slice ab (j + 2) cb)).alloc (.cells #[.int .i64 0, .int .i64 m, .int .i64 0, .int .i64 0, .int .i64 m, .int .i64 0, .int .i64 0, .int .i64 m, .int .i64 0] 72)).heap[wr.heap.size]? = some (.cells #[.slice a j c, .slice aa (j + 1) ca, .slice ab (j + 2) cb, .slice none 0 0, .int .i64 m] 108) from (Below.heap_alloc _ _ _ (Array.getElem?_eq_some_iff.1 (unhide K2).2.1).1).trans (unhide K2).2.1); have V2P := hide (show ((wb.setCell ⟨wr.heap.size, 2, none⟩ (.slice ab (j + 2) cb)).alloc (.cells #[.int .i64 0, .int .i64 m, .int .i64 0, .int .i64 0, .int .i64 m, .int .i64 0, .int .i64 0, .int .i64 m, .int .i64 0] 72)).heap[w2.heap.size]? = some (.cells #[.int .i64 0, .int .i64 m, .int .i64 0] 72) from (Below.heap_alloc _ _ _ (by simp [World.setCell]; exact (Array.getElem?_eq_some_iff.1 (unhide PP)).1)).trans ((Below.heap_setCell _ _ _ _ hPX).trans (unhide PP))); have V2N := hide (show ((wb.setCell ⟨wr.heap.size, 2, none⟩ (.slice ab (j + 2) cb)).alloc (.cells #[.int .i64 0, .int .i64 m, .int .i64 0, .int .i64 0, .int .i64 m, .int .i64 0, .int .i64 0, .int .i64 m, .int .i64 0] 72)).heap[wb.heap.size]? = some (.cells #[.int .i64 0, .int .i64 m, .int .i64 0, .int .i64 0, .int .i64 m, .int .i64 0, .int .i64 0, .int .i64 m, .int .i64 0] 72) from (by have h := heap_alloc_new (wb.setCell ⟨wr.heap.size, 2, none⟩ (.slice ab (j + 2) cb)) (.cells #[.int .i64 0, .int .i64 m, .int .i64 0, .int .i64 0, .int .i64 m, .int .i64 0, .int .i64 0, .int .i64 m, .int .i64 0] 72); rwa [show (wb.setCell ⟨wr.heap.size, 2, none⟩ (.slice ab (j + 2) cb)).heap.size = wb.heap.size by simp [World.setCell]] at h)); have hB2 : B ≤ ((wb.setCell ⟨wr.heap.size, 2, none⟩ (.slice ab (j + 2) cb)).alloc (.cells #[.int .i64 0, .int .i64 m, .int .i64 0, .int .i64 0, .int .i64 m, .int .i64 0, .int .i64 0, .int .i64 m, .int .i64 0] 72)).heap.size := (by have h := (unhide K2).2.2.2.2.1.size; have h0 := hB1; simp at h h0 ⊢; omega); clear PP) | (refine wpList_both elemE (by omega) (by omega) (B := B) (n := j) (m := 3) (xs := reps j [.int .i64 0, .int .i64 m, .int .i64 0]) (news := [.int .i64 0, .int .i64 m, .int .i64 0, .int .i64 0, .int .i64 m, .int .i64 0, .int .i64 0, .int .i64 m, .int .i64 0]) rfl (.tmp 46) (.tmp 50) rfl (ad := ⟨wb.heap.size, 0, none⟩) (cap := 3) rfl rfl (unhide V2O) rfl (World.news_of_block (unhide V2N)) (by simp [Value.oneCell']) (by omega) (by omega) hB2 ?_; intro va wc sha ra da; obtain ⟨ac, cc, rfl⟩ := sha; have ra' : wc.ownsRow B 72 3 (.slice ac (j + 3) cc) (j + 3) (reps (j + 3) [.int .i64 0, .int .i64 m, .int .i64 0]) := (by rw [← reps_append]; exact ra); have xa := (both_same (unhide V2O) da wr.heap.size (Array.getElem?_eq_some_iff.1 (unhide V2X)).1 (own_ty (unhide V2O) (unhide V2X) (by decide))).trans (unhide V2X); have kcc := fun i => cell_of_row wc _ i _ 108 (0, 0) xa; have kzc := fun i => frozen_rowE xa i; have pa := (both_same (unhide V2O) da w2.heap.size (Array.getElem?_eq_some_iff.1 (unhide V2P)).1 (unhide HNP)).trans (unhide V2P); have kpc := fun i => cell_of_row wc _ i _ 72 (0, 0) pa; have K3 := hide (keep_oneU (k := 3) (us := [.int .i64 0, .int .i64 m, .int .i64 0]) (by simp) (by decide) (by omega) (unhide V2O) (unhide V2X) ra' da); have PP := hide pa; clear ra ra' da xa pa V2N; clear PP))
      have hXB : w2.heap.size ≤ wr.heap.size := by omega
      have f1 : Fr (fun q => own (.slice a j c) q ∨ q = wr.heap.size) w1 (wc.setCell ⟨wr.heap.size, 3, none⟩ (.slice ac (j + 3) cc)) (fun q => own (.slice a j c) q ∨ q = wr.heap.size) :=
        ((unhide HFJ).widen (fun _ h => .inl h)).trans ((((Fr.refl _ wr).alloc _).alloc _).trans ((unhide K1).2.2.2.2.1.trans (((Fr.refl _ _).alloc _).trans ((unhide K2).2.2.2.2.1.trans (((Fr.refl _ _).alloc _).trans (unhide K3).2.2.2.2.1)))))
      have hbl : bb < w1.heap.size := (Array.getElem?_eq_some_iff.1 (unhide Y1)).1
      have hbd : (wc.setCell ⟨wr.heap.size, 3, none⟩ (.slice ac (j + 3) cc)).heap[bb]? = some (.cells #[.int .i64 (wrap64 (n + 1)), vI, .slice aX LE.length cX, vN] 65) := (f1.same bb hbl (fun h => by
        rcases h with h | h
        · exact unhide HNB h
        · omega)).trans (unhide Y1)
      have fT : Fr (fun q => q = bb ∨ own (.slice a j c) q ∨ w2.heap.size ≤ q) w2 (wc.setCell ⟨wr.heap.size, 3, none⟩ (.slice ac (j + 3) cc)) (fun q => q = bb ∨ own (.slice a j c) q ∨ w2.heap.size ≤ q) :=
        ((unhide HF1).widen (fun _ h => .inl h)).trans (f1.widen (fun q h => by
          rcases h with h | h
          · exact .inr (.inl h)
          · exact .inr (.inr (by omega))))
      have bk := (unhide HB).mid fT (fun q hq h => by
        rcases h with h | h | h
        · exact .inl h
        · obtain ⟨cur, hcur⟩ := row_d (unhide HO) h
          exact .inr ⟨unhide HK q h, own_ty (unhide HB).bk.rI hcur (by decide), own_ty (unhide HB).bk.rE hcur (by decide), own_ty (unhide HB).bk.rN hcur (by decide)⟩
        · omega) hbd
      have m1 := (unhide K3).2.2.2.1 _ 1 (by omega) (((unhide K2).2.2.2.1 _ 1 (by omega) ((unhide K1).2.2.1.fr ((Fr.refl _ _).alloc _))).fr ((Fr.refl _ _).alloc _))
      have m2 := (unhide K3).2.2.2.1 _ 2 (by omega) ((unhide K2).2.2.1.fr ((Fr.refl _ _).alloc _))
      have m3 := (unhide K3).2.2.1
      have od := (unhide K3).1
      have xd := (unhide K3).2.1
      have g1 := (unhide K1).2.2.2.2.2
      have g2 := (unhide K2).2.2.2.2.2
      have g3 := (unhide K3).2.2.2.2.2
      have s1 : w2.heap.size ≤ ((wr.alloc (.cells #[.slice a j c, .slice none 0 0, .slice none 0 0, .slice none 0 0, .int .i64 m] 108)).alloc (.cells #[.int .i64 0, .int .i64 m, .int .i64 0] 72)).heap.size := by simp; omega
      have s2 := Nat.le_trans (Nat.le_trans s1 (unhide K1).2.2.2.2.1.size) (Fr.size ((Fr.refl (fun _ => False) _).alloc (.cells #[.int .i64 0, .int .i64 m, .int .i64 0, .int .i64 0, .int .i64 m, .int .i64 0] 72)))
      have s3 := Nat.le_trans (Nat.le_trans s2 (unhide K2).2.2.2.2.1.size) (Fr.size ((Fr.refl (fun _ => False) _).alloc (.cells #[.int .i64 0, .int .i64 m, .int .i64 0, .int .i64 0, .int .i64 m, .int .i64 0, .int .i64 0, .int .i64 m, .int .i64 0] 72)))
      have fresh : ∀ q, (own (.slice a j c) q ∨ own (.slice aa (j + 1) ca) q ∨ own (.slice ab (j + 2) cb) q ∨ own (.slice ac (j + 3) cc) q) → own (.slice a j c) q ∨ w2.heap.size ≤ q := fun q hq => by
        rcases hq with h | h | h | h
        · exact .inl h
        · exact (g1 q h).imp id (fun h => Nat.le_trans s1 h)
        · exact (g2 q h).imp id (fun h => Nat.le_trans s2 h)
        · exact (g3 q h).imp id (fun h => Nat.le_trans s3 h)
      have hXI : ¬ own (.slice aX LE.length cX) wr.heap.size := fun hq => by have := (World.ownsRow.lt (unhide HB).bk.rE _ hq).2; omega
      have hwd : B ≤ (wc.setCell ⟨wr.heap.size, 3, none⟩ (.slice ac (j + 3) cc)).heap.size := Nat.le_trans hBw fT.size
      clear g1 g2 g3 s1 s2 s3 f1 hbd hbl K1 K2 K3 V0O V0X V0P V1O V1X V1P V2O V2X V2P HB HO HK HF1 HFJ Y1 O1 hB0 hB1 hB2 kca kza kpa kcb kzb kpb kcc kzc kpc P1 Z2 cP hpl hPX hPX'
      generalize (wc.setCell ⟨wr.heap.size, 3, none⟩ (.slice ac (j + 3) cc)) = wd at *
      have ty : ∀ q, (own (.slice a j c) q ∨ own (.slice aa (j + 1) ca) q ∨ own (.slice ab (j + 2) cb) q ∨ own (.slice ac (j + 3) cc) q) → ∃ cur, wd.heap[q]? = some (.cells cur 72 (0, 0)) := fun q hq => by
        rcases hq with h | h | h | h
        · exact row_d od h
        · exact m1.ty od h
        · exact m2.ty od h
        · exact m3.ty od h
      have full : FullE wd (.slice a j c) m ∧ FullE wd (.slice aa (j + 1) ca) m ∧ FullE wd (.slice ab (j + 2) cb) m ∧ FullE wd (.slice ac (j + 3) cc) m := ⟨(FullU.row (by simp) od (by omega)).toE, m1.1.toE, m2.1.toE, m3.1.toE⟩
      have cbb := fun i => cell_of_row wd bb i _ 65 (0, 0) bk.bk.blk
      have FT := hide fT
      have BK := hide bk
      have TY := hide ty
      have FULL := hide full
      have FRESH := hide fresh
      have XD := hide xd
      clear fT bk ty full fresh m1 m2 m3 od
      have hE5 : ∀ o, (wd.alloc o).drew.heap[wr.heap.size]? = some (.cells #[.slice a j c, .slice aa (j + 1) ca, .slice ab (j + 2) cb, .slice ac (j + 3) cc, .int .i64 m] 108 (0, 0)) := fun o => (Below.heap_alloc wd o _ (Array.getElem?_eq_some_iff.1 (unhide XD)).1).trans (unhide XD)
      have cbq : ∀ o, (wd.alloc o).drew.cell? ⟨bb, 2, none⟩ = some (.slice aX LE.length cX) := fun o => by
        have h : (wd.alloc o).drew.heap[bb]? = _ := (Below.heap_alloc wd o _ (Array.getElem?_eq_some_iff.1 (unhide BK).bk.blk).1).trans (unhide BK).bk.blk
        exact cell_of_row _ _ 2 _ 65 (0, 0) h
      clear xd
      have hXb : wr.heap.size ≠ bb := fun e => by have h := unhide XD; rw [e] at h; exact absurd (ty_one h (unhide BK).bk.blk) (by decide)
      have fin : ∀ v' w3, w3.ownsRow B 108 5 v' (LE.length + 1) (flat5 LE ++ [.slice a j c, .slice aa (j + 1) ca, .slice ab (j + 2) cb, .slice ac (j + 3) cc, .int .i64 m]) → Fr (own (.slice aX LE.length cX)) (wd.alloc (.cells #[.slice a j c, .slice aa (j + 1) ca, .slice ab (j + 2) cb, .slice ac (j + 3) cc, .int .i64 m] 108)).drew w3 (own v') → KeptE w2 (w3.setCell ⟨bb, 2, none⟩ v') B bb (wrap64 (n + 1)) (vI) (.slice aX LE.length cX) (vN) LI LE LN K (.slice a j c) := fun v' w3 o3 f3 => by
        have fa : Fr (fun _ => False) wd (wd.alloc (.cells #[.slice a j c, .slice aa (j + 1) ca, .slice ab (j + 2) cb, .slice ac (j + 3) cc, .int .i64 m] 108)).drew (fun _ => False) := ((Fr.refl _ _).alloc _).drew
        have hall : ∀ q, q < wd.heap.size → (wd.alloc (.cells #[.slice a j c, .slice aa (j + 1) ca, .slice ab (j + 2) cb, .slice ac (j + 3) cc, .int .i64 m] 108)).drew.heap[q]? = wd.heap[q]? := fun q hq => fa.same q hq (fun h => h)
        have full := unhide FULL
        have hb := ((unhide BK).fr fa).addE (e := ⟨.slice a j c, .slice aa (j + 1) ca, .slice ab (j + 2) cb, .slice ac (j + 3) cc, m⟩) (K2 := fun q => (own (.slice a j c) q ∨ own (.slice aa (j + 1) ca) q ∨ own (.slice ab (j + 2) cb) q ∨ own (.slice ac (j + 3) cc) q)) ⟨full.1.fr fa, full.2.1.fr fa, full.2.2.1.fr fa, full.2.2.2.fr fa⟩ ⟨own_lies.mono (fun _ h => .inl h), own_lies.mono (fun _ h => .inr (.inl h)), own_lies.mono (fun _ h => .inr (.inr (.inl h))), own_lies.mono (fun _ h => .inr (.inr (.inr h)))⟩ (fun q hq => by
          obtain ⟨cur, hcur⟩ := unhide TY q hq
          exact ⟨cur, (hall q (Array.getElem?_eq_some_iff.1 hcur).1).trans hcur⟩) o3 f3
        refine ⟨v', _, _, hb, fun q hq => ?_, fun q hq => ?_, ?_⟩
        · rcases hq with h | h
          · exact .inl h
          · exact .inr (unhide FRESH q h)
        · by_cases hlt : q < w2.heap.size
          · exact .inl (f3.old q (Nat.lt_of_lt_of_le hlt (Nat.le_trans (unhide FT).size fa.size)) hq)
          · exact .inr (by omega)
        · refine Fr.setCell ?_ _ _ (.inl (.inl rfl))
          refine ((unhide FT).widen (fun q h => ?_)).trans ((fa.widen (fun q h => h.elim)).trans (f3.widen (fun q h => .inr (.inl h))))
          rcases h with h | h | h
          · exact .inl h
          · exact .inr (.inr (.inl h))
          · exact .inr (.inr (.inr h))
      refine wp_region_held_drew (S := fun w' => w'.heap[wr.heap.size]? = some (.cells #[.slice a j c, .slice aa (j + 1) ca, .slice ab (j + 2) cb, .slice ac (j + 3) cc, .int .i64 m] 108 (0, 0))) (by kernel_rfl) ?_ (fun hHeld => ?_)
      · exact unhide XD
      refine wpAnyH_take (i := 0) (oi := { dst := some 53, op := Op.move (Operand.tmp 0), type := 60, pos := "law.go:115", after := #[], guard := none }) (v := ?_) rfl (by kernel_rfl) (by kernel_rfl) (by kernel_rfl) (fun _ _ _ h => h) (Or.inl ⟨by rfl, ?_⟩) (by assumption) ?_
      rotate_left
      · intro w hSw; (try dsimp only at hSw); go_simp; try with_reducible rfl
      simp only [Act.put, List.setIfInBounds_toArray, List.set_cons_zero, List.set_cons_succ]
      refine wpAnyH_take (i := 1) (oi := { dst := some 54, op := Op.move (Operand.tmp 0), type := 60, pos := "law.go:115", after := #[], guard := none }) (v := ?_) rfl (by kernel_rfl) (by kernel_rfl) (by kernel_rfl) (fun _ _ _ h => h) (Or.inl ⟨by rfl, ?_⟩) (by assumption) ?_
      rotate_left
      · intro w hSw; (try dsimp only at hSw); go_simp; try with_reducible rfl
      simp only [Act.put, List.setIfInBounds_toArray, List.set_cons_zero, List.set_cons_succ]
      refine wpAnyH_take (i := 2) (oi := { dst := some 55, op := Op.nilCheck (Operand.tmp 54), type := 0, pos := "law.go:115", after := #[{ on := 1, ground := Ground.data }], guard := none }) (v := ?_) rfl (by kernel_rfl) (by kernel_rfl) (by kernel_rfl) (fun _ _ _ h => h) (Or.inl ⟨by rfl, ?_⟩) (by assumption) ?_
      rotate_left
      · intro w hSw; (try dsimp only at hSw); go_simp; try with_reducible rfl
      simp only [Act.put, List.setIfInBounds_toArray, List.set_cons_zero, List.set_cons_succ]
      refine wpAnyH_take (i := 3) (oi := { dst := some 56, op := Op.fieldAddr 65 (Operand.tmp 55) 2, type := 0, pos := "law.go:115", after := #[{ on := 2, ground := Ground.data }], guard := none }) (v := ?_) rfl (by kernel_rfl) (by kernel_rfl) (by kernel_rfl) (fun _ _ _ h => h) (Or.inl ⟨by rfl, ?_⟩) (by assumption) ?_
      rotate_left
      · intro w hSw; (try dsimp only at hSw); go_simp; try with_reducible rfl
      simp only [Act.put, List.setIfInBounds_toArray, List.set_cons_zero, List.set_cons_succ]
      refine wpAnyH_take (i := 5) (oi := { dst := some 58, op := Op.load 108 (Operand.tmp 7), type := 108, pos := "law.go:115", after := #[], guard := none }) (v := ?_) rfl (by kernel_rfl) (by kernel_rfl) (by kernel_rfl) (fun _ _ _ h => h) (Or.inl ⟨by rfl, ?_⟩) (by assumption) ?_
      rotate_left
      · intro w hSw; have c5 := fun j => cell_of_row w _ j _ 108 (0, 0) hSw; go_simp; try with_reducible rfl
      simp only [Act.put, List.setIfInBounds_toArray, List.set_cons_zero, List.set_cons_succ]
      refine wpAnyH_ready (rs := [4, 6]) (by kernel_rfl) (by simp) ?_
      refine AllReadyH.cons (o := { dst := some 57, op := Op.load 62 (Operand.tmp 56), type := 62, pos := "law.go:115", after := #[{ on := 3, ground := Ground.data }], guard := none }) rfl (fun K' hK' => ?_) (AllReadyH.cons (o := { dst := some 59, op := Op.buildSlice 62 1 #[(0, Operand.tmp 58)], type := 62, pos := "law.go:115", after := #[{ on := 5, ground := Ground.data }], guard := none }) rfl (fun K' hK' => ?_) AllReadyH.nil)
      · go_simp
        refine hK'.out _ _ ?_ (fun hHeld => ?_)
        · exact unhide XD
        clear hK' K'
        try simp only [Act.put, List.setIfInBounds_toArray, List.set_cons_zero, List.set_cons_succ]
        refine wpAnyH_ready (rs := [6]) (by kernel_rfl) (by simp) ?_
        refine AllReadyH.cons (o := { dst := some 59, op := Op.buildSlice 62 1 #[(0, Operand.tmp 58)], type := 62, pos := "law.go:115", after := #[{ on := 5, ground := Ground.data }], guard := none }) rfl (fun K' hK' => ?_) AllReadyH.nil
        go_simp
        refine hK'.out _ _ ?_ (fun hHeld => ?_)
        · exact hE5 _
        clear hK' K'
        try simp only [Act.put, List.setIfInBounds_toArray, List.set_cons_zero, List.set_cons_succ]
        refine wpAnyH_ready (rs := [7]) (by kernel_rfl) (by simp) ?_
        refine AllReadyH.cons (o := { dst := some 60, op := Op.call { callee := Callee.builtin Builtin.append, args := #[Operand.tmp 57, Operand.tmp 59], argTypes := #[62, 62] }, type := 62, pos := "law.go:115", after := #[{ on := 4, ground := Ground.data }, { on := 6, ground := Ground.data }], guard := none }) rfl (fun K' hK' => ?_) AllReadyH.nil
        refine step_grown (d := 60) rfl elem108 (by decide) (by decide) (v := (.slice aX LE.length cX)) (n := LE.length) (m := 1) (xs := flat5 LE) (news := [.slice a j c, .slice aa (j + 1) ca, .slice ab (j + 2) cb, .slice ac (j + 3) cc, .int .i64 m]) (B := B) (ad := ⟨wd.heap.size, 0, none⟩) (cap := 1) rfl (.tmp 57) (.tmp 59) rfl rfl rfl ((unhide BK).fr ((Fr.refl _ _).alloc (.cells #[.slice a j c, .slice aa (j + 1) ca, .slice ab (j + 2) cb, .slice ac (j + 3) cc, .int .i64 m] 108)).drew).bk.rE rfl (World.news_of_block (heap_alloc_new wd _)) (by simp [Value.oneCell']) (by omega) (by omega) (by simp; omega) ?_
        intro v3 w3 o3 f3 sh3
        obtain ⟨av, cv, rfl⟩ := sh3
        have pr : w3.heap[bb]? = some (.cells #[.int .i64 (wrap64 (n + 1)), vI, .slice aX LE.length cX, vN] 65) := by
          have hb2 := ((unhide BK).fr ((Fr.refl _ _).alloc (.cells #[.slice a j c, .slice aa (j + 1) ca, .slice ab (j + 2) cb, .slice ac (j + 3) cc, .int .i64 m] 108)).drew)
          exact (f3.same bb (Array.getElem?_eq_some_iff.1 hb2.bk.blk).1 (own_ty hb2.bk.rE hb2.bk.blk (by decide))).trans hb2.bk.blk
        have pc := fun j => cell_of_row w3 bb j _ 65 (0, 0) pr
        have pz := fun j => frozen_rowE pr j
        have gg : w3.heap[wr.heap.size]? = some (.cells #[.slice a j c, .slice aa (j + 1) ca, .slice ab (j + 2) cb, .slice ac (j + 3) cc, .int .i64 m] 108 (0, 0)) := (f3.same _ (Array.getElem?_eq_some_iff.1 (hE5 _)).1 hXI).trans (hE5 (.cells #[.slice a j c, .slice aa (j + 1) ca, .slice ab (j + 2) cb, .slice ac (j + 3) cc, .int .i64 m] 108))
        have O3 := hide o3
        have F3 := hide f3
        clear o3 f3 pr
        refine hK'.out _ _ gg (fun hHeld => ?_)
        clear hK' K'
        simp only [List.setIfInBounds_toArray, List.set_cons_zero, List.set_cons_succ]
        refine wpAnyH_take (i := 8) (oi := { dst := some 61, op := Op.nilCheck (Operand.tmp 53), type := 0, pos := "law.go:115", after := #[{ on := 0, ground := Ground.data }, { on := 0, ground := Ground.phase }, { on := 1, ground := Ground.phase }, { on := 2, ground := Ground.phase }, { on := 3, ground := Ground.phase }, { on := 4, ground := Ground.phase }, { on := 5, ground := Ground.phase }, { on := 6, ground := Ground.phase }, { on := 7, ground := Ground.phase }], guard := none }) (v := ?_) rfl (by kernel_rfl) (by kernel_rfl) (by kernel_rfl) (fun _ _ _ h => h) (Or.inl ⟨by rfl, ?_⟩) (by assumption) ?_
        rotate_left
        · intro w hSw; (try dsimp only at hSw); go_simp; try with_reducible rfl
        simp only [Act.put, List.setIfInBounds_toArray, List.set_cons_zero, List.set_cons_succ]
        refine wpAnyH_take (i := 9) (oi := { dst := some 62, op := Op.fieldAddr 65 (Operand.tmp 61) 2, type := 0, pos := "law.go:115", after := #[{ on := 8, ground := Ground.data }, { on := 0, ground := Ground.phase }, { on := 1, ground := Ground.phase }, { on := 2, ground := Ground.phase }, { on := 3, ground := Ground.phase }, { on := 4, ground := Ground.phase }, { on := 5, ground := Ground.phase }, { on := 6, ground := Ground.phase }, { on := 7, ground := Ground.phase }], guard := none }) (v := ?_) rfl (by kernel_rfl) (by kernel_rfl) (by kernel_rfl) (fun _ _ _ h => h) (Or.inl ⟨by rfl, ?_⟩) (by assumption) ?_
        rotate_left
        · intro w hSw; (try dsimp only at hSw); go_simp; try with_reducible rfl
        simp only [Act.put, List.setIfInBounds_toArray, List.set_cons_zero, List.set_cons_succ]
        refine wpAnyH_ready (rs := [10]) (by kernel_rfl) (by simp) ?_
        refine AllReadyH.cons (o := { dst := none, op := Op.store 62 (Operand.tmp 62) (Operand.tmp 60), type := 0, pos := "law.go:115", after := #[{ on := 9, ground := Ground.data }, { on := 7, ground := Ground.data }, { on := 7, ground := Ground.chain }, { on := 0, ground := Ground.phase }, { on := 1, ground := Ground.phase }, { on := 2, ground := Ground.phase }, { on := 3, ground := Ground.phase }, { on := 4, ground := Ground.phase }, { on := 5, ground := Ground.phase }, { on := 6, ground := Ground.phase }, { on := 7, ground := Ground.phase }], guard := none }) rfl (fun K' hK' => ?_) AllReadyH.nil
        go_simp
        refine hK'.out _ _ ?_ (fun hHeld => ?_)
        · exact (Below.heap_setCell _ _ _ _ hXb).trans gg
        clear hK' K'
        try simp only [Act.put, List.setIfInBounds_toArray, List.set_cons_zero, List.set_cons_succ]
        refine wpAnyH_done (by kernel_rfl) ?_ _
        go_wp2
        go_end0
        exact ⟨rfl, unhide CLOSE _ (fin _ w3 (unhide O3) (unhide F3))⟩
      · go_simp
        refine hK'.out _ _ ?_ (fun hHeld => ?_)
        · exact hE5 _
        clear hK' K'
        try simp only [Act.put, List.setIfInBounds_toArray, List.set_cons_zero, List.set_cons_succ]
        refine wpAnyH_ready (rs := [4]) (by kernel_rfl) (by simp) ?_
        refine AllReadyH.cons (o := { dst := some 57, op := Op.load 62 (Operand.tmp 56), type := 62, pos := "law.go:115", after := #[{ on := 3, ground := Ground.data }], guard := none }) rfl (fun K' hK' => ?_) AllReadyH.nil
        go_simp
        refine hK'.out _ _ ?_ (fun hHeld => ?_)
        · exact hE5 _
        clear hK' K'
        try simp only [Act.put, List.setIfInBounds_toArray, List.set_cons_zero, List.set_cons_succ]
        refine wpAnyH_ready (rs := [7]) (by kernel_rfl) (by simp) ?_
        refine AllReadyH.cons (o := { dst := some 60, op := Op.call { callee := Callee.builtin Builtin.append, args := #[Operand.tmp 57, Operand.tmp 59], argTypes := #[62, 62] }, type := 62, pos := "law.go:115", after := #[{ on := 4, ground := Ground.data }, { on := 6, ground := Ground.data }], guard := none }) rfl (fun K' hK' => ?_) AllReadyH.nil
        refine step_grown (d := 60) rfl elem108 (by decide) (by decide) (v := (.slice aX LE.length cX)) (n := LE.length) (m := 1) (xs := flat5 LE) (news := [.slice a j c, .slice aa (j + 1) ca, .slice ab (j + 2) cb, .slice ac (j + 3) cc, .int .i64 m]) (B := B) (ad := ⟨wd.heap.size, 0, none⟩) (cap := 1) rfl (.tmp 57) (.tmp 59) rfl rfl rfl ((unhide BK).fr ((Fr.refl _ _).alloc (.cells #[.slice a j c, .slice aa (j + 1) ca, .slice ab (j + 2) cb, .slice ac (j + 3) cc, .int .i64 m] 108)).drew).bk.rE rfl (World.news_of_block (heap_alloc_new wd _)) (by simp [Value.oneCell']) (by omega) (by omega) (by simp; omega) ?_
        intro v3 w3 o3 f3 sh3
        obtain ⟨av, cv, rfl⟩ := sh3
        have pr : w3.heap[bb]? = some (.cells #[.int .i64 (wrap64 (n + 1)), vI, .slice aX LE.length cX, vN] 65) := by
          have hb2 := ((unhide BK).fr ((Fr.refl _ _).alloc (.cells #[.slice a j c, .slice aa (j + 1) ca, .slice ab (j + 2) cb, .slice ac (j + 3) cc, .int .i64 m] 108)).drew)
          exact (f3.same bb (Array.getElem?_eq_some_iff.1 hb2.bk.blk).1 (own_ty hb2.bk.rE hb2.bk.blk (by decide))).trans hb2.bk.blk
        have pc := fun j => cell_of_row w3 bb j _ 65 (0, 0) pr
        have pz := fun j => frozen_rowE pr j
        have gg : w3.heap[wr.heap.size]? = some (.cells #[.slice a j c, .slice aa (j + 1) ca, .slice ab (j + 2) cb, .slice ac (j + 3) cc, .int .i64 m] 108 (0, 0)) := (f3.same _ (Array.getElem?_eq_some_iff.1 (hE5 _)).1 hXI).trans (hE5 (.cells #[.slice a j c, .slice aa (j + 1) ca, .slice ab (j + 2) cb, .slice ac (j + 3) cc, .int .i64 m] 108))
        have O3 := hide o3
        have F3 := hide f3
        clear o3 f3 pr
        refine hK'.out _ _ gg (fun hHeld => ?_)
        clear hK' K'
        simp only [List.setIfInBounds_toArray, List.set_cons_zero, List.set_cons_succ]
        refine wpAnyH_take (i := 8) (oi := { dst := some 61, op := Op.nilCheck (Operand.tmp 53), type := 0, pos := "law.go:115", after := #[{ on := 0, ground := Ground.data }, { on := 0, ground := Ground.phase }, { on := 1, ground := Ground.phase }, { on := 2, ground := Ground.phase }, { on := 3, ground := Ground.phase }, { on := 4, ground := Ground.phase }, { on := 5, ground := Ground.phase }, { on := 6, ground := Ground.phase }, { on := 7, ground := Ground.phase }], guard := none }) (v := ?_) rfl (by kernel_rfl) (by kernel_rfl) (by kernel_rfl) (fun _ _ _ h => h) (Or.inl ⟨by rfl, ?_⟩) (by assumption) ?_
        rotate_left
        · intro w hSw; (try dsimp only at hSw); go_simp; try with_reducible rfl
        simp only [Act.put, List.setIfInBounds_toArray, List.set_cons_zero, List.set_cons_succ]
        refine wpAnyH_take (i := 9) (oi := { dst := some 62, op := Op.fieldAddr 65 (Operand.tmp 61) 2, type := 0, pos := "law.go:115", after := #[{ on := 8, ground := Ground.data }, { on := 0, ground := Ground.phase }, { on := 1, ground := Ground.phase }, { on := 2, ground := Ground.phase }, { on := 3, ground := Ground.phase }, { on := 4, ground := Ground.phase }, { on := 5, ground := Ground.phase }, { on := 6, ground := Ground.phase }, { on := 7, ground := Ground.phase }], guard := none }) (v := ?_) rfl (by kernel_rfl) (by kernel_rfl) (by kernel_rfl) (fun _ _ _ h => h) (Or.inl ⟨by rfl, ?_⟩) (by assumption) ?_
        rotate_left
        · intro w hSw; (try dsimp only at hSw); go_simp; try with_reducible rfl
        simp only [Act.put, List.setIfInBounds_toArray, List.set_cons_zero, List.set_cons_succ]
        refine wpAnyH_ready (rs := [10]) (by kernel_rfl) (by simp) ?_
        refine AllReadyH.cons (o := { dst := none, op := Op.store 62 (Operand.tmp 62) (Operand.tmp 60), type := 0, pos := "law.go:115", after := #[{ on := 9, ground := Ground.data }, { on := 7, ground := Ground.data }, { on := 7, ground := Ground.chain }, { on := 0, ground := Ground.phase }, { on := 1, ground := Ground.phase }, { on := 2, ground := Ground.phase }, { on := 3, ground := Ground.phase }, { on := 4, ground := Ground.phase }, { on := 5, ground := Ground.phase }, { on := 6, ground := Ground.phase }, { on := 7, ground := Ground.phase }], guard := none }) rfl (fun K' hK' => ?_) AllReadyH.nil
        go_simp
        refine hK'.out _ _ ?_ (fun hHeld => ?_)
        · exact (Below.heap_setCell _ _ _ _ hXb).trans gg
        clear hK' K'
        try simp only [Act.put, List.setIfInBounds_toArray, List.set_cons_zero, List.set_cons_succ]
        refine wpAnyH_done (by kernel_rfl) ?_ _
        go_wp2
        go_end0
        exact ⟨rfl, unhide CLOSE _ (fin _ w3 (unhide O3) (unhide F3))⟩
end Go.Proofs.YtfmbebofllgmoaaGreatDoor
