/-
  PROVED HERE: rerunlaw.world copies a world, and old memory stays: the walk. rerunlaw.stays answers true of a world's copy that was not written into. rerunlaw.still writes over the lent program alone: what was made after it stays. the document's due: the first of the earliest timers that are due. the timers that are due go off in the order of their times, and of one time as they were armed: any list that is in this order, of the same timers, is that list. the document's order of timers that go off is the program's. the document's handler runs a handler as the model (hM) says, over a source that keeps its word. the document's timers go off as the model (frM) says.
-/
import Derived.Test.YtfmbebofllgmoaaGreatDoorProg
import Derived.WalkKit
import Derived.WalkSpells
import Derived.WalkLawsBesides
import Derived.Deep.QuietTactic
import Derived.BigQuiet
import Derived.Deep.RegionHeld3
import Derived.Deep.AppendLies
import Derived.Laws.EntriesVeiled
import Derived.Deep.DrawnRows
import Derived.BigRegion
import Derived.Deep.LoopGhost
import Derived.Deep.MidRow
import Derived.Shelf.SlSortCmp.SmallK
import Derived.Shelf.SlicesG.Cmp
import Derived.Shelf.Small.Bits
import Derived.Deep.RegionLaw
import Derived.Lib.SliceRun
import Derived.Laws.StructEq
import Derived.Laws.BytesString
import Derived.ArgAppend
import Derived.Deep.DeepCutAuto
import Derived.Conc.LoneCalls
import Derived.Calls
import Derived.Tactics
import Derived.KernelRfl
import Derived.Laws.Rows
import Derived.Lib.SlBytesConst
import Derived.Laws.BitsAllLaws
import Derived.RangeFuncOwn
import Derived.Laws.IdiomStrings
import Derived.RangeFuncNested
import Derived.RangeFuncBound
import Derived.RangeFuncCalls
import Derived.RangeFuncLeaves
import Derived.Shelf.RegionOpen
import Derived.OwnWalkIn
import Derived.TacticsInMore
import Derived.Maps.OwnIn
import Derived.Maps.AppendAt
import Derived.LoopNIn
import Derived.LoopIn
import Derived.ChangeKeysEq
import Derived.Deep.DeepAppendRoom
import Derived.Test.YtfmbebofllgmoaaGreatDoorSrecordsd
namespace Go.Proofs.YtfmbebofllgmoaaGreatDoor
open Go.RowKit
attribute [local go_sem ↓] Go.wp_at_zero Go.wp_at_succ

theorem allocd {Y W : World} {o : Obj} (hb : Below (Y.alloc o).heap.size (Y.alloc o) W) : W.heap[Y.heap.size]? = some o := (hb.block _ (by simp)).trans (heap_alloc_new _ _)
theorem allocdD {Y W : World} {o : Obj} (hb : Below (Y.alloc o).drew.heap.size (Y.alloc o).drew W) : W.heap[Y.heap.size]? = some o := (hb.block _ (by simp)).trans (heap_alloc_new _ _)
theorem keepblk {X W : World} {q : Nat} {o : Obj} (hb : Below X.heap.size X W) (h : X.heap[q]? = some o) : W.heap[q]? = some o := (hb.block _ (Array.getElem?_eq_some_iff.1 h).1).trans h
theorem keepB3 {w X Y : World} {v0 v2 v3 : Value} (hb : Below X.heap.size X Y) (h : X.cell? ⟨w.heap.size, 0, none⟩ = some v0 ∧ X.cell? ⟨w.heap.size, 2, none⟩ = some v2 ∧ X.cell? ⟨w.heap.size, 3, none⟩ = some v3) :
    Y.cell? ⟨w.heap.size, 0, none⟩ = some v0 ∧ Y.cell? ⟨w.heap.size, 2, none⟩ = some v2 ∧ Y.cell? ⟨w.heap.size, 3, none⟩ = some v3 := by
  have hl : w.heap.size < X.heap.size := World.block_lt_of_cell? X _ h.1
  exact ⟨(bcel hb _ _ hl).trans h.1, (bcel hb _ _ hl).trans h.2.1, (bcel hb _ _ hl).trans h.2.2⟩
theorem keepS4 {w X : World} {wb : Nat} {v0 v2 v3 : Value} (hne : w.heap.size < wb) (x y z u : Value) (h : X.cell? ⟨w.heap.size, 0, none⟩ = some v0 ∧ X.cell? ⟨w.heap.size, 2, none⟩ = some v2 ∧ X.cell? ⟨w.heap.size, 3, none⟩ = some v3) :
    ((((X.setCell ⟨wb, 0, none⟩ x).setCell ⟨wb, 1, none⟩ y).setCell ⟨wb, 2, none⟩ z).setCell ⟨wb, 3, none⟩ u).cell? ⟨w.heap.size, 0, none⟩ = some v0 ∧ ((((X.setCell ⟨wb, 0, none⟩ x).setCell ⟨wb, 1, none⟩ y).setCell ⟨wb, 2, none⟩ z).setCell ⟨wb, 3, none⟩ u).cell? ⟨w.heap.size, 2, none⟩ = some v2 ∧ ((((X.setCell ⟨wb, 0, none⟩ x).setCell ⟨wb, 1, none⟩ y).setCell ⟨wb, 2, none⟩ z).setCell ⟨wb, 3, none⟩ u).cell? ⟨w.heap.size, 3, none⟩ = some v3 := by
  have e : ∀ i j, (⟨wb, j, none⟩ : Addr) ≠ ⟨w.heap.size, i, none⟩ := fun i j he => by injection he; omega
  refine ⟨?_, ?_, ?_⟩
  · rw [World.cell?_setCell_other _ _ _ _ (e _ _), World.cell?_setCell_other _ _ _ _ (e _ _), World.cell?_setCell_other _ _ _ _ (e _ _), World.cell?_setCell_other _ _ _ _ (e _ _)]; exact h.1
  · rw [World.cell?_setCell_other _ _ _ _ (e _ _), World.cell?_setCell_other _ _ _ _ (e _ _), World.cell?_setCell_other _ _ _ _ (e _ _), World.cell?_setCell_other _ _ _ _ (e _ _)]; exact h.2.1
  · rw [World.cell?_setCell_other _ _ _ _ (e _ _), World.cell?_setCell_other _ _ _ _ (e _ _), World.cell?_setCell_other _ _ _ _ (e _ _), World.cell?_setCell_other _ _ _ _ (e _ _)]; exact h.2.2

set_option maxHeartbeats 4000000 in
set_option maxRecDepth 20000 in
theorem world_any {w : World} {v0 v1 v2 v3 : Value} {lc lp ll : List Int} {bs : List (Value × List Int)} {P : Nat → Prop} (hP : ∀ q, P q → q < w.heap.size)
    (h0 : IntsIn w v0 lc P) (h1 : ValsIn w v1 (bs.map (·.1)) P) (h2 : IntsIn w v2 lp P) (h3 : IntsIn w v3 ll P) (hbs : ∀ b, b ∈ bs → IntsIn w b.1 b.2 P ∧ b.2.length ≤ 1000000000)
    (n0 : lc.length ≤ 1000000000) (n1 : bs.length ≤ 1000000000) (n2 : lp.length ≤ 1000000000) (n3 : ll.length ≤ 1000000000) :
    Calls Tryz.prog 71 #[.agg #[v0, v1, v2, v3]] w fun e w' => ∃ g0 gb g2 g3 G, e = .returned (.agg #[sN g0 lc, .slice (some ⟨gb, 0, none⟩) bs.length (bs.length + 4), sN g2 lp, sN g3 ll]) ∧
      Below w.heap.size w w' ∧ w.heap.size ≤ g0 ∧ w.heap.size ≤ gb ∧ w.heap.size ≤ g2 ∧ w.heap.size ≤ g3 ∧ OwnN w' g0 (lc.length + 4) lc ∧ OwnN w' g2 (lp.length + 4) lp ∧ OwnN w' g3 (ll.length + 4) ll ∧ OwnBt w' gb bs.length bs.length (bs.map (·.2)) G := by
  obtain ⟨ba, bc, rfl, hba⟩ := h1
  rw [List.length_map] at *
  obtain ⟨v1, hv1⟩ : ∃ v1, v1 = Value.slice ba bs.length bc := ⟨_, rfl⟩
  obtain ⟨W0, hW⟩ : ∃ W0, W0 = ((w.alloc (.cells #[v0, v1, v2, v3] 29)).alloc (.cells #[.slice none 0 0, .slice none 0 0, .slice none 0 0, .slice none 0 0] 29)) := ⟨_, rfl⟩
  have hB0 : Below w.heap.size w W0 := by subst hW; exact bl2 _ _
  have hsz : W0.heap.size = w.heap.size + 1 + 1 := by subst hW; simp
  have bx : W0.heap[w.heap.size]? = some (.cells #[v0, v1, v2, v3] 29) := by subst hW; exact (Below.heap_alloc _ _ _ (by simp)).trans (heap_alloc_new _ _)
  have rs : W0.heap[w.heap.size + 1]? = some (.cells #[.slice none 0 0, .slice none 0 0, .slice none 0 0, .slice none 0 0] 29) := by
    subst hW
    have h := heap_alloc_new (w.alloc (.cells #[v0, v1, v2, v3] 29)) (.cells #[.slice none 0 0, .slice none 0 0, .slice none 0 0, .slice none 0 0] 29)
    rw [show (w.alloc (.cells #[v0, v1, v2, v3] 29)).heap.size = w.heap.size + 1 by simp] at h
    exact h
  have c0 : W0.cell? ⟨w.heap.size, 0, none⟩ = some v0 := cell_of_row W0 _ 0 _ 29 (0, 0) bx
  have c2 : W0.cell? ⟨w.heap.size, 2, none⟩ = some v2 := cell_of_row W0 _ 2 _ 29 (0, 0) bx
  have c3 : W0.cell? ⟨w.heap.size, 3, none⟩ = some v3 := cell_of_row W0 _ 3 _ 29 (0, 0) bx
  have HC := hide (show W0.cell? ⟨w.heap.size, 0, none⟩ = some v0 ∧ W0.cell? ⟨w.heap.size, 2, none⟩ = some v2 ∧ W0.cell? ⟨w.heap.size, 3, none⟩ = some v3 from ⟨c0, c2, c3⟩)
  have HW := hide hW
  have HS := hide hsz
  have HB0 := hide hB0
  have BX := hide bx
  have RS := hide rs
  have HP := hide hP
  have H0 := hide h0
  have H2 := hide h2
  have H3 := hide h3
  have HBS := hide hbs
  have HBA := hide hba
  have HV1 := hide hv1
  rw [← hv1]
  clear hW hsz hB0 bx rs hP h0 h2 h3 hbs hba hv1 c0 c2 c3
  go_enter Tryz.func71, Tryz.ntmps71
  go_upto_region 1 with fail
  go_cut [3] (fun u wc => ∃ wb g0 g2 g3, u = .pointer (some ⟨wb, 0, none⟩) ∧ WV w wc v0 v1 v2 v3 wb g0 g2 g3 (.slice none 0 0) lc lp ll)
  case first =>
    go_region_held3 (fun w' => w'.cell? ⟨w.heap.size, 0, none⟩ = some v0 ∧ w'.cell? ⟨w.heap.size, 2, none⟩ = some v2 ∧ w'.cell? ⟨w.heap.size, 3, none⟩ = some v3)
      (first | with_reducible exact s3 | with_reducible exact s2 | with_reducible exact s1 | (rw [← unhide HW]; exact unhide HC) | (rw [← unhide HW]; exact keepB3 ((Below.refl _ _).alloc (Nat.le_refl _) _).drew (unhide HC)) | exact keepB3 ((Below.refl _ _).alloc (Nat.le_refl _) _) (by assumption) | exact keepS4 (by have := unhide HS; omega) _ _ _ _ (by assumption))
      (first
        | (go_at_call_of 105 v0; try rw [← unhide HW]
           refine (numbersB (w := w) (by first | exact (unhide HB0).drew | exact ((unhide HB0).alloc (unhide HB0).size _).drew) (unhide HP) (unhide H0) n0).mono ?_
           rintro e w1 ⟨rfl, hb1, hs1, ho1⟩
           have s1 := keepB3 (w := w) hb1 (by first | exact unhide HC | exact keepB3 ((Below.refl _ _).alloc (Nat.le_refl _) _).drew (unhide HC))
           have B1 := hide (show Below w.heap.size w w1 from Below.trans (by first | exact (unhide HB0).drew | exact ((unhide HB0).alloc (unhide HB0).size _).drew) (hb1.mono (by have := unhide HS; simp; omega)))
           have O1 := hide ho1
           have c01 : Below W0.heap.size W0 w1 := by first | exact ((Below.refl W0.heap.size W0).drew).trans hb1 | exact (((Below.refl W0.heap.size W0).alloc (Nat.le_refl _) _).drew).trans (hb1.mono (by simp))
           have q1 : w.heap.size + 1 + 1 < w1.heap.size := by have h1 := unhide HS; have h2 := hs1; (try simp at h2); omega
           first
             | (have zb := allocdD hb1; rw [unhide HS] at zb; have zc := fun j => cell_of_row w1 _ j _ 29 (0, 0) zb; have zf := fun j => frozen_rowE zb j; have ZB := hide zb; clear zb)
             | skip)
        | (go_at_call_of 105 v2
           refine (numbersB (w := w) (by first | exact unhide B1 | exact (unhide B1).alloc (unhide B1).size _) (unhide HP) (unhide H2) n2).mono ?_
           rintro e w2 ⟨rfl, hb2, hs2, ho2⟩
           have s2 := keepB3 (w := w) hb2 (by first | exact s1 | exact keepB3 ((Below.refl _ _).alloc (Nat.le_refl _) _) s1)
           have B2 := hide (show Below w.heap.size w w2 from Below.trans (by first | exact unhide B1 | exact (unhide B1).alloc (unhide B1).size _) (hb2.mono (by have := (unhide B1).size; simp; omega)))
           have O2 := hide ho2
           have c12 : Below w1.heap.size w1 w2 := by first | exact hb2 | exact ((Below.refl _ _).alloc (Nat.le_refl _) _).trans (hb2.mono (by simp))
           have q2 : w1.heap.size < w2.heap.size := by have h2 := hs2; (try simp at h2); omega
           first
             | (have zb := allocd hb2; have zc := fun j => cell_of_row w2 _ j _ 29 (0, 0) zb; have zf := fun j => frozen_rowE zb j; have ZB := hide zb; clear zb)
             | (have zb := keepblk hb2 (unhide ZB); clear zc zf ZB; have zc := fun j => cell_of_row w2 _ j _ 29 (0, 0) zb; have zf := fun j => frozen_rowE zb j; have ZB := hide zb; clear zb)
             | skip)
        | (go_at_call_of 105 v3
           refine (numbersB (w := w) (by first | exact unhide B2 | exact (unhide B2).alloc (unhide B2).size _) (unhide HP) (unhide H3) n3).mono ?_
           rintro e w3 ⟨rfl, hb3, hs3, ho3⟩
           have s3 := keepB3 (w := w) hb3 (by first | exact s2 | exact keepB3 ((Below.refl _ _).alloc (Nat.le_refl _) _) s2)
           have B3 := hide (show Below w.heap.size w w3 from Below.trans (by first | exact unhide B2 | exact (unhide B2).alloc (unhide B2).size _) (hb3.mono (by have := (unhide B2).size; simp; omega)))
           have O3 := hide ho3
           have c23 : Below w2.heap.size w2 w3 := by first | exact hb3 | exact ((Below.refl _ _).alloc (Nat.le_refl _) _).trans (hb3.mono (by simp))
           have q3 : w2.heap.size < w3.heap.size := by have h2 := hs3; (try simp at h2); omega
           first
             | (have zb := allocd hb3; have zc := fun j => cell_of_row w3 _ j _ 29 (0, 0) zb; have zf := fun j => frozen_rowE zb j; have ZB := hide zb; clear zb)
             | (have zb := keepblk hb3 (unhide ZB); clear zc zf ZB; have zc := fun j => cell_of_row w3 _ j _ 29 (0, 0) zb; have zf := fun j => frozen_rowE zb j; have ZB := hide zb; clear zb)
             | skip))
    all_goals
      go_wp2_with fail
      go_meet
      have bx3 := keepblk c23 (keepblk c12 (keepblk c01 (unhide BX)))
      have rs3 := keepblk c23 (keepblk c12 (keepblk c01 (unhide RS)))
      have o0 := (ho1.below c12 hs1).below c23 (Nat.lt_trans hs1 q2)
      have o2 := ho2.below c23 hs2
      have o3 := ho3
      have hS := unhide HS
      first
        | (refine ⟨_, _, _, _, rfl, WV.start (unhide B3) bx3 rs3 (unhide ZB) (by omega) ⟨by omega, by omega⟩ ⟨by omega, by omega⟩ ⟨by omega, by omega⟩ (by simpa using o0) (by simpa using o2) (by simpa using o3)⟩; done)
        | (exact ⟨w3.heap.size, W0.heap.size, w1.heap.size, w2.heap.size, rfl, (unhide B3).alloc (unhide B3).size _, keepblk ((Below.refl _ _).alloc (Nat.le_refl _) _) bx3, keepblk ((Below.refl _ _).alloc (Nat.le_refl _) _) rs3, heap_alloc_new _ _, by omega, ⟨by omega, by omega⟩, ⟨by omega, by omega⟩, ⟨by omega, by omega⟩, o0.below ((Below.refl _ _).alloc (Nat.le_refl _) _) (by show W0.heap.size < _; omega), o2.below ((Below.refl _ _).alloc (Nat.le_refl _) _) (by omega), o3.below ((Below.refl _ _).alloc (Nat.le_refl _) _) (by omega)⟩; done)
  case rest =>
    obtain ⟨wb, g0, g2, g3, rfl, hwv⟩ := hcut
    have hv := unhide HV1
    subst hv
    have hmk := make_bats bs.length n1
    obtain ⟨sz1, sz2, sz3, sz4, sz5⟩ := hwv.size
    have cb := cell_of_row wc _ 1 _ 29 (0, 0) hwv.bx
    have cw := cell_of_row wc _ 1 _ 29 (0, 0) hwv.wb_
    have fw := frozen_rowE hwv.wb_ 1
    have HST := hide (show WBRel w v0 (.slice ba bs.length bc) v2 v3 wb g0 g2 g3 wc.heap.size bs.length lc lp ll (bs.map (·.2)) (.int .i64 0) ((wc.alloc (.cells (madeCells #[.slice none 0 0] (bs.length + 4)) 26)).setCell ⟨wb, 1, none⟩ (.slice (some ⟨wc.heap.size, 0, none⟩) (bs.length + 4) (bs.length + 4))) from
      ⟨0, Nat.zero_le _, rfl, fun _ => 0, (hwv.below ((Below.refl _ _).alloc (Nat.le_refl _) _)).setVb _, ⟨(writable_made _ _ _ _).setCell _ _, fun i hi => absurd hi (Nat.not_lt_zero _), fun i hi => absurd hi (Nat.not_lt_zero _), fun i hi => absurd hi (Nat.not_lt_zero _)⟩, by omega, by omega, by omega, by omega⟩)
    have cw2 : (wc.alloc (.cells (madeCells #[.slice none 0 0] (bs.length + 4)) 26)).cell? ⟨wb, 1, none⟩ = some (.slice none 0 0) := (World.cell?_of_block (w := wc) (a := ⟨wb, 1, none⟩) (Below.heap_alloc _ _ _ sz2)).trans cw
    have fw2 : (wc.alloc (.cells (madeCells #[.slice none 0 0] (bs.length + 4)) 26)).frozen? ⟨wb, 1, none⟩ = false := frozen_rowE ((Below.heap_alloc _ _ _ sz2).trans hwv.wb_) 1
    clear hwv sz1 sz2 sz3 sz4 sz5 cw fw
    go_wp2_with fail
    go_loopw [4] (fun u wr => WBRel w v0 (.slice ba bs.length bc) v2 v3 wb g0 g2 g3 wc.heap.size bs.length lc lp ll (bs.map (·.2)) u wr) (fun i _ => bs.length + 4 - (intOf i).toNat)
    case atStart => exact unhide HST
    case round =>
      obtain ⟨k, hk, rfl, G, hv, hb, o1, o2, o3, o4⟩ := hrel
      have cb := cell_of_row wr _ 1 _ 29 (0, 0) hv.bx
      have cw := cell_of_row wr _ 1 _ 29 (0, 0) hv.wb_
      obtain ⟨sz1, sz2, sz3, sz4, sz5⟩ := hv.size
      by_cases hlt : k < bs.length + 4
      · obtain ⟨t0, z0⟩ := hb.there k (by omega)
        obtain ⟨x0, c0⟩ := Option.isSome_iff_exists.1 t0
        clear t0
        by_cases hkn : k < bs.length
        · rcases unhide HBA with hz | ⟨q, off, rfl, hq, hcell⟩
          · have : bs.length = 0 := by simpa using congrArg List.length hz
            omega
          have hql := unhide HP q hq
          have hmem : bs.getD k (.slice none 0 0, []) ∈ bs := by rw [List.getD_eq_getElem?_getD, List.getElem?_eq_getElem hkn]; exact List.getElem_mem _
          have hval : (bs.map (·.1)).getD k undef = (bs.getD k (.slice none 0 0, [])).1 := by rw [List.getD_eq_getElem?_getD, List.getElem?_map, List.getD_eq_getElem?_getD, List.getElem?_eq_getElem hkn]; rfl
          have hval2 : (bs.map (·.2)).getD k [] = (bs.getD k (.slice none 0 0, [])).2 := by rw [List.getD_eq_getElem?_getD, List.getElem?_map, List.getD_eq_getElem?_getD, List.getElem?_eq_getElem hkn]; rfl
          have cz : wr.cell? ⟨q, off + k, none⟩ = some (bs.getD k (.slice none 0 0, [])).1 := (bcel hv.bel q (off + k) hql).trans ((hcell k hkn).trans (by rw [hval]))
          obtain ⟨hi, hil⟩ := unhide HBS _ hmem
          have H105 := hide (numbersL_any (w := wr.drew) (P := P) (fun q hq => Nat.lt_of_lt_of_le (unhide HP q hq) hv.bel.size) (intsIn_kept hi (fun q hq => hv.bel.block q (unhide HP q hq)) (fun _ h => h)) hil)
          generalize (bs.getD k (.slice none 0 0, [])).2 = l at *
          generalize (bs.getD k (.slice none 0 0, [])).1 = vk at *
          have HV := hide hv
          have HB := hide hb
          have HVAL := hide hval2
          have hk0 : (0 : Int) ≤ (k : Int) := by omega
          have hk1 : (k : Int) < (bs.length : Int) := by omega
          have hk2 : (k : Int) < (bs.length : Int) + 4 := by omega
          have hS := hide (show wr.cell? ⟨w.heap.size, 1, none⟩ = some (.slice (some ⟨q, off, none⟩) bs.length bc) ∧ wr.cell? ⟨wb, 1, none⟩ = some (.slice (some ⟨wc.heap.size, 0, none⟩) (bs.length + 4) (bs.length + 4)) ∧ wr.cell? ⟨q, off + k, none⟩ = some vk from ⟨cb, cw, cz⟩)
          clear hcell hval hmem hi hil hval2 hv hb hq
          go_upto_region 7 with fail
          go_region_held3 (fun w' => w'.cell? ⟨w.heap.size, 1, none⟩ = some (.slice (some ⟨q, off, none⟩) bs.length bc) ∧ w'.cell? ⟨wb, 1, none⟩ = some (.slice (some ⟨wc.heap.size, 0, none⟩) (bs.length + 4) (bs.length + 4)) ∧ w'.cell? ⟨q, off + k, none⟩ = some vk)
            (first | exact unhide hS | exact unhide s1 | exact (unhide s2))
            (first
              | (go_at_call 105; refine (unhide H105).mono ?_
                 rintro e w1 ⟨rfl, hb1, hs1, ho1⟩
                 have s1 := hide (show w1.cell? ⟨w.heap.size, 1, none⟩ = some (.slice (some ⟨q, off, none⟩) bs.length bc) ∧ w1.cell? ⟨wb, 1, none⟩ = some (.slice (some ⟨wc.heap.size, 0, none⟩) (bs.length + 4) (bs.length + 4)) ∧ w1.cell? ⟨q, off + k, none⟩ = some vk from ⟨(bcel hb1 _ _ (by show _ < wr.heap.size; omega)).trans cb, (bcel hb1 _ _ sz2).trans cw, (bcel hb1 _ _ (World.block_lt_of_cell? _ _ cz)).trans cz⟩)
                 have hgl : wc.heap.size < wr.heap.size := World.block_lt_of_cell? _ _ c0
                 have c1 : w1.cell? ⟨wc.heap.size, k, none⟩ = some x0 := (bcel hb1 _ _ hgl).trans c0
                 have z1 : w1.frozen? ⟨wc.heap.size, k, none⟩ = false := (bfro hb1 _ _ hgl).trans z0
                 have V1 := hide ((unhide HV).below (Below.trans (Below.refl _ _).drew hb1))
                 have NB := hide ((unhide HB).below (Below.trans (Below.refl _ _).drew hb1) hgl (fun i hi hn => ((unhide HB).far i hi hn).2))
                 have HQL := hide (World.block_lt_of_cell? _ _ cz)
                 have s2 := hide (show (w1.setCell ⟨wc.heap.size, k, none⟩ (.slice (some ⟨wr.heap.size, 0, none⟩) l.length (l.length + 4))).cell? ⟨w.heap.size, 1, none⟩ = some (.slice (some ⟨q, off, none⟩) bs.length bc) ∧ (w1.setCell ⟨wc.heap.size, k, none⟩ (.slice (some ⟨wr.heap.size, 0, none⟩) l.length (l.length + 4))).cell? ⟨wb, 1, none⟩ = some (.slice (some ⟨wc.heap.size, 0, none⟩) (bs.length + 4) (bs.length + 4)) ∧ (w1.setCell ⟨wc.heap.size, k, none⟩ (.slice (some ⟨wr.heap.size, 0, none⟩) l.length (l.length + 4))).cell? ⟨q, off + k, none⟩ = some vk from ⟨(World.cell?_setCell_other _ _ _ _ (by intro he; injection he; have := (unhide HV).wbB; omega)).trans (unhide s1).1, (World.cell?_setCell_other _ _ _ _ (by intro he; injection he; omega)).trans (unhide s1).2.1, (World.cell?_setCell_other _ _ _ _ (by intro he; injection he; have := (unhide HV).wbB; omega)).trans (unhide s1).2.2⟩)
                 have O1 := hide ho1
                 clear hb1 ho1 cb cw cz c0 z0 HV HB H105))
          go_wp2_with fail
          go_roundw
          case rel => exact ⟨k + 1, by omega, by go_num, _, (unhide V1).setFar (by have := (unhide V1).wbB; omega) _ _, by
            have h := (unhide NB).step hkn (q := wr.heap.size) ⟨hgl, hs1⟩ (by rw [unhide HVAL]; exact unhide O1)
            rw [unhide HVAL] at h
            exact h, o1, o2, o3, o4⟩
          case measure => simp [intOf]; omega
        · have HV := hide hv
          have HB := hide hb
          have hgl : wc.heap.size < wr.heap.size := World.block_lt_of_cell? _ _ c0
          have hne : ¬ (k : Int) < (bs.length : Int) := by omega
          clear hv hb
          go_wp2_with fail
          go_roundw
          case rel =>
            rw [← World.setCell_alloc_past _ _ _ _ hgl]
            exact ⟨k + 1, by omega, by go_num, G, ((unhide HV).below ((Below.refl _ _).alloc (Nat.le_refl _) _)).setFar (by have := (unhide HV).wbB; omega) _ _, ((unhide HB).below ((Below.refl _ _).alloc (Nat.le_refl _) _) hgl (fun i hi hn => ((unhide HB).far i hi hn).2)).pad (by omega) _, o1, o2, o3, o4⟩
          case measure => simp [intOf]; omega
      · obtain rfl : k = bs.length + 4 := by omega
        have HV := hide hv
        have HB := hide hb
        have hwb := hv.wb_
        unfold sN at hwb
        have c2 := fun j => cell_of_row wr _ j _ 29 (0, 0) hwb
        clear hwb
        have t2 := frozen_rowE hv.wb_ 1
        have c3 := fun j => cell_of_row wr _ j _ 29 (0, 0) hv.rs
        have t3 := fun j => frozen_rowE hv.rs j
        have hwr : ¬ w.heap.size + 1 = wb := by have := hv.wbB; omega
        have hwr' : ¬ wb = w.heap.size + 1 := by have := hv.wbB; omega
        clear hv hb
        go_wp2
        have V := (unhide HV).setVb (.slice (some ⟨wc.heap.size, 0, none⟩) bs.length (bs.length + 4))
        have NB := (unhide HB).setCell (a := ⟨wb, 1, none⟩) o1 (.slice (some ⟨wc.heap.size, 0, none⟩) bs.length (bs.length + 4))
        have wbB := V.wbB
        have l0 := V.l0
        have l2 := V.l2
        have l3 := V.l3
        refine bodyPost_ret (v := .agg #[sN g0 lc, .slice (some ⟨wc.heap.size, 0, none⟩) bs.length (bs.length + 4), sN g2 lp, sN g3 ll]) (by simp [results, Tryz.results71, go_sem, c3, sN]) rfl ⟨g0, wc.heap.size, g2, g3, G, rfl, ?_, by omega, by omega, by omega, by omega, ?_, ?_, ?_, ?_⟩
        · exact (((V.bel.setCell (by simp) _).setCell (by simp) _).setCell (by simp) _).setCell (by simp) _
        · exact (((V.o0.setCell (by simp; omega) _).setCell (by simp; omega) _).setCell (by simp; omega) _).setCell (by simp; omega) _
        · exact (((V.o2.setCell (by simp; omega) _).setCell (by simp; omega) _).setCell (by simp; omega) _).setCell (by simp; omega) _
        · exact (((V.o3.setCell (by simp; omega) _).setCell (by simp; omega) _).setCell (by simp; omega) _).setCell (by simp; omega) _
        · have h := (((NB.setCell (a := ⟨w.heap.size + 1, 0, none⟩) (by simp; omega) (sN g0 lc)).setCell (a := ⟨w.heap.size + 1, 1, none⟩) (by simp; omega) (.slice (some ⟨wc.heap.size, 0, none⟩) bs.length (bs.length + 4))).setCell (a := ⟨w.heap.size + 1, 2, none⟩) (by simp; omega) (sN g2 lp)).setCell (a := ⟨w.heap.size + 1, 3, none⟩) (by simp; omega) (sN g3 ll)
          exact ⟨h.there, fun i hi hn => h.heads i (by omega) hn, fun i hi hn => h.far i (by omega) hn, fun i hi hn => h.own i (by omega) hn⟩
end Go.Proofs.YtfmbebofllgmoaaGreatDoor
namespace Go.Proofs.YtfmbebofllgmoaaGreatDoor
open Go.RowKit
attribute [local go_sem ↓] Go.wp_at_zero Go.wp_at_succ

set_option maxHeartbeats 2000000 in
theorem stays_any {w : World} {v0 v1 v2 v3 : Value} {lc lp ll : List Int} {bs : List (Value × List Int)} {P : Nat → Prop} (hP : ∀ q, P q → q < w.heap.size)
    (h0 : IntsIn w v0 lc P) (h1 : ValsIn w v1 (bs.map (·.1)) P) (h2 : IntsIn w v2 lp P) (h3 : IntsIn w v3 ll P) (hbs : ∀ b, b ∈ bs → IntsIn w b.1 b.2 P ∧ b.2.length ≤ 1000000000)
    (n0 : lc.length ≤ 1000000000) (n1 : bs.length ≤ 1000000000) (n2 : lp.length ≤ 1000000000) (n3 : ll.length ≤ 1000000000)
    {g0 gb g2 g3 : Nat} {G : Nat → Nat} (o0 : OwnN w g0 (lc.length + 4) lc) (o2 : OwnN w g2 (lp.length + 4) lp) (o3 : OwnN w g3 (ll.length + 4) ll) (ob : OwnBt w gb bs.length bs.length (bs.map (·.2)) G) :
    Calls Tryz.prog 73 #[.agg #[sN g0 lc, .slice (some ⟨gb, 0, none⟩) bs.length (bs.length + 4), sN g2 lp, sN g3 ll], .agg #[v0, v1, v2, v3]] w fun e w' => e = .returned (.bool true) ∧ Below w.heap.size w w' := by
  obtain ⟨ba, bc, rfl, hba⟩ := h1
  rw [List.length_map] at *
  obtain ⟨W0, hW⟩ : ∃ W0, W0 = (w.alloc (.cells #[sN g0 lc, .slice (some ⟨gb, 0, none⟩) bs.length (bs.length + 4), sN g2 lp, sN g3 ll] 29)).alloc (.cells #[v0, .slice ba bs.length bc, v2, v3] 29) := ⟨_, rfl⟩
  have hB0 : Below w.heap.size w W0 := by subst hW; exact bl2 _ _
  have bx : W0.heap[w.heap.size]? = some (.cells #[sN g0 lc, .slice (some ⟨gb, 0, none⟩) bs.length (bs.length + 4), sN g2 lp, sN g3 ll] 29) := by subst hW; exact (Below.heap_alloc _ _ _ (by simp)).trans (heap_alloc_new _ _)
  have by_ : W0.heap[w.heap.size + 1]? = some (.cells #[v0, .slice ba bs.length bc, v2, v3] 29) := by
    subst hW
    have h := heap_alloc_new (w.alloc (.cells #[sN g0 lc, .slice (some ⟨gb, 0, none⟩) bs.length (bs.length + 4), sN g2 lp, sN g3 ll] 29)) (.cells #[v0, .slice ba bs.length bc, v2, v3] 29)
    rw [show (w.alloc (.cells #[sN g0 lc, .slice (some ⟨gb, 0, none⟩) bs.length (bs.length + 4), sN g2 lp, sN g3 ll] 29)).heap.size = w.heap.size + 1 by simp] at h
    exact h
  have kp : ∀ {v l}, IntsIn w v l P → IntsIn W0 v l P := fun h => intsIn_kept h (fun q hq => hB0.block q (hP q hq)) (fun _ h => h)
  have i0 := kp h0
  have i2 := kp h2
  have i3 := kp h3
  have j0 := o0.below hB0 (o0.lt (by omega))
  have j2 := o2.below hB0 (o2.lt (by omega))
  have j3 := o3.below hB0 (o3.lt (by omega))
  have jb : OwnBt W0 gb bs.length bs.length (bs.map (·.2)) G := ob.below hB0 (World.block_lt_of_cell? w ⟨gb, 0, none⟩ (Option.isSome_iff_exists.1 (ob.there 0 (by omega)).1).choose_spec) (fun i hi hn => (ob.far i hi hn).2)
  have HBS := hide (fun b hb => show IntsIn W0 b.1 b.2 P ∧ b.2.length ≤ 1000000000 from ⟨kp (hbs b hb).1, (hbs b hb).2⟩)
  have HBA := hide (show (bs.map (·.1)) = [] ∨ ∃ q off, ba = some ⟨q, off, none⟩ ∧ P q ∧ ∀ i, i < bs.length → W0.cell? ⟨q, off + i, none⟩ = some ((bs.map (·.1)).getD i undef) from hba.imp id fun ⟨q, off, h1, h2, h3⟩ => ⟨q, off, h1, h2, fun i hi => (bcel hB0 _ _ (hP q h2)).trans (h3 i hi)⟩)
  have H0 := hide (sameNumbers_any i0 j0 n0)
  have H2 := hide (fun (X : World) (hd : Dr W0 X) => sameNumbers_any (intsIn_dr hd i2) (j2.dr hd) n2)
  have H3 := hide (fun (X : World) (hd : Dr W0 X) => sameNumbers_any (intsIn_dr hd i3) (j3.dr hd) n3)
  unfold sN at *
  have c0 := fun j => cell_of_row W0 _ j _ 29 (0, 0) bx
  have c1 := fun j => cell_of_row W0 _ j _ 29 (0, 0) by_
  have HW := hide hW
  have HB0 := hide hB0
  have JB := hide jb
  have BX := hide bx
  have BY := hide by_
  clear hW hB0 bx by_ kp i0 i2 i3 j0 j2 j3 jb o0 o2 o3 ob h0 h2 h3 hbs hba hP
  go_enter Tryz.func73, Tryz.ntmps73
  go_wp2_with fail
  rw [← unhide HW]
  go_at_call 110
  refine (unhide H0).mono ?_
  rintro e w1 ⟨rfl, d1⟩
  have c0' := fun j => (d1.cell ⟨w.heap.size, j, none⟩).trans (c0 j)
  have c1' := fun j => (d1.cell ⟨w.heap.size + 1, j, none⟩).trans (c1 j)
  clear c0 c1 H0
  go_wp2_with fail
  go_at_call 110
  refine (unhide H2 w1 d1).mono ?_
  rintro e w2 ⟨rfl, d2⟩
  have d12 := d1.trans d2
  have c0 := fun j => (d2.cell ⟨w.heap.size, j, none⟩).trans (c0' j)
  have c1 := fun j => (d2.cell ⟨w.heap.size + 1, j, none⟩).trans (c1' j)
  clear c0' c1' H2
  go_wp2_with fail
  go_at_call 110
  refine (unhide H3 w2 d12).mono ?_
  rintro e w3 ⟨rfl, d3⟩
  have d13 := d12.trans d3
  have c0' := fun j => (d3.cell ⟨w.heap.size, j, none⟩).trans (c0 j)
  have c1' := fun j => (d3.cell ⟨w.heap.size + 1, j, none⟩).trans (c1 j)
  clear c0 c1 H3
  go_wp2_with fail
  go_loopw [8, 9] (fun u8 u9 wr => u8 = .bool true ∧ ∃ k : Nat, k ≤ bs.length ∧ u9 = .int .i64 k ∧ Dr W0 wr) (fun _ i _ => bs.length - (intOf i).toNat)
  case atStart => exact ⟨by simp, 0, Nat.zero_le _, rfl, d13⟩
  case round =>
    obtain ⟨rfl, k, hk, rfl, hd⟩ := hrel
    have e0 := fun j => (hd.cell ⟨w.heap.size, j, none⟩).trans (cell_of_row W0 _ j _ 29 (0, 0) (unhide BX))
    have e1 := fun j => (hd.cell ⟨w.heap.size + 1, j, none⟩).trans (cell_of_row W0 _ j _ 29 (0, 0) (unhide BY))
    clear c0' c1'
    by_cases hlt : k < bs.length
    · rcases unhide HBA with hz | ⟨q, off, rfl, hq, hcell⟩
      · have : bs.length = 0 := by simpa using congrArg List.length hz
        omega
      have hmem : bs.getD k (.slice none 0 0, []) ∈ bs := by rw [List.getD_eq_getElem?_getD, List.getElem?_eq_getElem hlt]; exact List.getElem_mem _
      have hval : (bs.map (·.1)).getD k undef = (bs.getD k (.slice none 0 0, [])).1 := by rw [List.getD_eq_getElem?_getD, List.getElem?_map, List.getD_eq_getElem?_getD, List.getElem?_eq_getElem hlt]; rfl
      have hval2 : (bs.map (·.2)).getD k [] = (bs.getD k (.slice none 0 0, [])).2 := by rw [List.getD_eq_getElem?_getD, List.getElem?_map, List.getD_eq_getElem?_getD, List.getElem?_eq_getElem hlt]; rfl
      have g0 := (hd.cell ⟨q, off + k, none⟩).trans ((hcell k hlt).trans (by rw [hval]))
      have g1 := (hd.cell ⟨gb, k, none⟩).trans ((unhide JB).heads k hlt hlt)
      have gi := (unhide JB).own k hlt hlt
      obtain ⟨hi, hil⟩ := unhide HBS _ hmem
      rw [hval2] at g1 gi
      have H110 := hide (fun (X : World) (hx : Dr W0 X) => sameNumbers_any (intsIn_dr hx hi) (gi.dr hx) hil)
      clear hcell hval hval2 hmem gi hi hil
      generalize (bs.getD k (.slice none 0 0, [])).2 = l at *
      generalize (bs.getD k (.slice none 0 0, [])).1 = vk at *
      have hk0 : (0 : Int) ≤ (k : Int) := by omega
      have hk1 : (k : Int) < (bs.length : Int) := by omega
      have hk2 : (k : Int) < (bs.length : Int) + 4 := by omega
      go_wp2
      go_quiet ((go_at_call 110; exact Calls.quiet_of (unhide H110 _ (hd.more _))))
      go_wp2
      go_roundw
      case rel => exact ⟨by simp, k + 1, by omega, by go_num, hd.more _⟩
      case measure => simp [intOf]; omega
    · go_wp2
      go_ret
      exact ⟨by simp, (unhide HB0).trans (hd.below _)⟩
end Go.Proofs.YtfmbebofllgmoaaGreatDoor
namespace Go.Proofs.YtfmbebofllgmoaaGreatDoor
open Go.RowKit

/-- What 'still' may lean on while it writes over the copy: q's block is written, the headers stay. -/
structure StillW (B C : Nat) (w wr : World) (x g1 g2 g3 ns nt nf : Nat) (tl fl G2 G3 : Nat → Nat) : Prop where
  below : Below B w wr
  size : w.heap.size ≤ wr.heap.size
  c0 : wr.cell? ⟨x, 0, none⟩ = some (.slice (some ⟨g1, 0, none⟩) ns (ns + 4))
  c1 : wr.cell? ⟨x, 1, none⟩ = some (.slice (some ⟨g2, 0, none⟩) nt (nt + 4))
  c2 : wr.cell? ⟨x, 2, none⟩ = some (.slice (some ⟨g3, 0, none⟩) nf (nf + 4))
  h2 : ∀ i, i < nt → wr.cell? ⟨g2, i, none⟩ = some (.slice (some ⟨G2 i, 0, none⟩) (tl i) (tl i + 4))
  h3 : ∀ i, i < nf → wr.cell? ⟨g3, i, none⟩ = some (.slice (some ⟨G3 i, 0, none⟩) (fl i) (fl i + 4))
  w1 : Writable wr g1 (ns * 3)
  w2 : ∀ i, i < nt → Writable wr (G2 i) (tl i * 3)
  w3 : ∀ i, i < nf → Writable wr (G3 i) (fl i * 3)
  far : ∀ k, C ≤ k → k < w.heap.size → wr.heap[k]? = w.heap[k]?

theorem StillW.wiped {B C : Nat} {w wr w' : World} {x g1 g2 g3 ns nt nf q : Nat} {tl fl G2 G3 : Nat → Nat} (h : StillW B C w wr x g1 g2 g3 ns nt nf tl fl G2 G3) (hw : Wiped q wr w') (hB : B ≤ q) (hC : q < C) (hx : x ≠ q) (h2 : g2 ≠ q) (h3 : g3 ≠ q) :
    StillW B C w w' x g1 g2 g3 ns nt nf tl fl G2 G3 :=
  ⟨h.below.trans (hw.below hB), by rw [hw.size]; exact h.size, (hw.cell hx).trans h.c0, (hw.cell hx).trans h.c1, (hw.cell hx).trans h.c2, fun i hi => (hw.cell h2).trans (h.h2 i hi), fun i hi => (hw.cell h3).trans (h.h3 i hi),
    hw.writable h.w1, fun i hi => hw.writable (h.w2 i hi), fun i hi => hw.writable (h.w3 i hi), fun k hk hl => (hw.block k (by omega)).trans (h.far k hk hl)⟩

theorem StillW.dr {B C : Nat} {w wr w' : World} {x g1 g2 g3 ns nt nf : Nat} {tl fl G2 G3 : Nat → Nat} (h : StillW B C w wr x g1 g2 g3 ns nt nf tl fl G2 G3) (hd : Dr wr w') : StillW B C w w' x g1 g2 g3 ns nt nf tl fl G2 G3 := by
  obtain ⟨m, rfl⟩ := hd
  exact ⟨h.below.trans (Dr.below B ⟨m, rfl⟩), h.size, h.c0, h.c1, h.c2, h.h2, h.h3, h.w1, h.w2, h.w3, h.far⟩

set_option maxHeartbeats 1000000 in
theorem stillW_any (B C : Nat) (v1 v2 v3 : Value) (g1 g2 g3 ns nt nf : Nat) (s : Nat → O3) (tl fl G2 G3 : Nat → Nat) (t f : Nat → Nat → O3) (w : World) (h1 : OpsIn w v1 ns s) (h2 : HandsIn w v2 nt tl t) (h3 : HandsIn w v3 nf fl f)
    (ho1 : OwnOps w g1 (ns + 4) (padF ns s)) (ho2 : OwnHands w g2 nt (nt + 4) tl t G2) (ho3 : OwnHands w g3 nf (nf + 4) fl f G3) (hB : B ≤ g1) (h12 : g1 < g2) (h23 : g2 < g3) (hG : ∀ i, i < nt + 4 → G2 i < g3) (hC : ∀ i, i < nf + 4 → G3 i < C) :
    Calls Tryz.prog 40 #[.agg #[.slice (some ⟨g1, 0, none⟩) ns (ns + 4), .slice (some ⟨g2, 0, none⟩) nt (nt + 4), .slice (some ⟨g3, 0, none⟩) nf (nf + 4)], .agg #[v1, v2, v3]] w fun e w' => e = .returned (.bool true) ∧ Below B w w' ∧ ∀ k, C ≤ k → k < w.heap.size → w'.heap[k]? = w.heap[k]? := by
  have ln1 := opsIn_len h1
  have ln2 := handsIn_len h2
  have ln3 := handsIn_len h3
  have l2 := handsIn_each h2
  have l3 := handsIn_each h3
  obtain ⟨W0, hW⟩ : ∃ W0, W0 = (w.alloc (.cells #[.slice (some ⟨g1, 0, none⟩) ns (ns + 4), .slice (some ⟨g2, 0, none⟩) nt (nt + 4), .slice (some ⟨g3, 0, none⟩) nf (nf + 4)] 33)).alloc (.cells #[v1, v2, v3] 33) := ⟨_, rfl⟩
  have hB0 : Below w.heap.size w W0 := by subst hW; exact bl2 _ _
  have hg1 : g1 < w.heap.size := opAt_lt (ho1.cells 0 (by omega))
  have hg2 : g2 < w.heap.size := World.block_lt_of_cell? w ⟨g2, nt, none⟩ (ho2.pads nt (by omega) (by omega))
  have hg3 : g3 < w.heap.size := World.block_lt_of_cell? w ⟨g3, nf, none⟩ (ho3.pads nf (by omega) (by omega))
  have i1 := opsIn_below hB0 h1
  have i2 := handsIn_below hB0 h2
  have i3 := handsIn_below hB0 h3
  have j1 := ho1.below hB0 hg1
  have j2 := ho2.below hB0 hg2 (fun i hi => (ho2.far i hi).2)
  have j3 := ho3.below hB0 hg3 (fun i hi => (ho3.far i hi).2)
  have inv0 : StillW B C w W0 w.heap.size g1 g2 g3 ns nt nf tl fl G2 G3 :=
    ⟨hB0.mono (by omega), hB0.size, by subst hW; simp, by subst hW; simp, by subst hW; simp, fun i hi => j2.heads i (by omega) hi, fun i hi => j3.heads i (by omega) hi,
      fun k hk => j1.there k (by omega), fun i hi k hk => (j2.own i (by omega) hi).there k (by omega), fun i hi k hk => (j3.own i (by omega) hi).there k (by omega), fun k _ hl => hB0.block k hl⟩
  have far2 : ∀ i, i < nt → g2 < G2 i ∧ G2 i < g3 := fun i hi => ⟨(ho2.far i (by omega)).1, hG i (by omega)⟩
  have far3 : ∀ i, i < nf → g3 < G3 i ∧ G3 i < C := fun i hi => ⟨(ho3.far i (by omega)).1, hC i (by omega)⟩
  have g3C : g3 < C := Nat.lt_trans (ho3.far nf (by omega)).1 (hC nf (by omega))
  have far9 : ∀ i, i < nf → G3 i < w.heap.size := fun i hi => (ho3.far i (by omega)).2
  have b0 : W0.cell? ⟨w.heap.size + 1, 0, none⟩ = some v1 := by subst hW; simp
  have b1 : W0.cell? ⟨w.heap.size + 1, 1, none⟩ = some v2 := by subst hW; simp
  have b2 : W0.cell? ⟨w.heap.size + 1, 2, none⟩ = some v3 := by subst hW; simp
  have HW := hide hW
  clear ho1 ho2 ho3 h1 h2 h3 hG hC hW
  go_enter Tryz.func40, Tryz.ntmps40
  go_wp2_with fail
  rw [← unhide HW]
  clear HW
  refine (sameOps_any g1 ns v1 s W0 i1 j1).mono ?_
  rintro e w1 ⟨rfl, hd1⟩
  have inv1 := inv0.dr hd1
  have a0 := inv1.c0; have a1 := inv1.c1; have a2 := inv1.c2
  rw [← hd1.cell] at b0 b1 b2
  go_wp2_with fail
  refine (sameHandlers_any g2 nt G2 v2 tl t w1 (handsIn_dr hd1 i2) (j2.dr hd1)).mono ?_
  rintro e w2 ⟨rfl, hd2⟩
  have inv2 := inv1.dr hd2
  clear a0 a1 a2
  have a0 := inv2.c0; have a1 := inv2.c1; have a2 := inv2.c2
  rw [← hd2.cell] at b0 b1 b2
  go_wp2_with fail
  refine (sameHandlers_any g3 nf G3 v3 fl f w2 (handsIn_dr (hd1.trans hd2) i3) (j3.dr (hd1.trans hd2))).mono ?_
  rintro e w3 ⟨rfl, hd3⟩
  have inv3 := inv2.dr hd3
  clear a0 a1 a2 b0 b1 b2 i1 i2 i3 j1 j2 j3
  have a0 := inv3.c0; have a1 := inv3.c1; have a2 := inv3.c2
  go_wp2_with fail
  refine (wipe_any g1 ns (ns + 4) w3 (by omega) inv3.w1).mono ?_
  rintro e w4 ⟨rfl, hw4⟩
  have inv4 := inv3.wiped hw4 hB (by omega) (by omega) (by omega) (by omega)
  clear a0 a1 a2 inv0 inv1 inv2 inv3 hd1 hd2 hd3 hw4
  go_wp2
  go_loopw [8] (fun i wr => ∃ k : Nat, k ≤ nt ∧ i = .int .i64 k ∧ StillW B C w wr w.heap.size g1 g2 g3 ns nt nf tl fl G2 G3) (fun i _ => nt - (intOf i).toNat)
  case atStart => exact ⟨0, Nat.zero_le _, rfl, inv4⟩
  case round =>
    obtain ⟨k, hk, rfl, inv⟩ := hrel
    have a0 := inv.c0; have a1 := inv.c1; have a2 := inv.c2
    by_cases hlt : k < nt
    · have hh := inv.h2 k hlt
      obtain ⟨p1, p2⟩ := far2 k hlt
      have hl := l2 k hlt
      go_wp2_with fail
      refine (wipe_any (G2 k) (tl k) (tl k + 4) wr (by omega) (inv.w2 k hlt)).mono ?_
      rintro e w5 ⟨rfl, hw5⟩
      have inv5 := inv.wiped hw5 (by omega) (by omega) (by omega) (by omega) (by omega)
      go_wp2
      go_roundw
      case rel => exact ⟨k + 1, by omega, by go_num, inv5⟩
      case measure => simp [intOf]; omega
    · go_wp2
      clear a0 a1 a2
      go_loopw [9] (fun i wr => ∃ k : Nat, k ≤ nf ∧ i = .int .i64 k ∧ StillW B C w wr w.heap.size g1 g2 g3 ns nt nf tl fl G2 G3) (fun i _ => nf - (intOf i).toNat)
      case atStart => exact ⟨0, Nat.zero_le _, rfl, inv⟩
      case round =>
        obtain ⟨k', hk', rfl, inv'⟩ := hrel
        have a0 := inv'.c0; have a1 := inv'.c1; have a2 := inv'.c2
        by_cases hlt' : k' < nf
        · have hh := inv'.h3 k' hlt'
          obtain ⟨p1, p2⟩ := far3 k' hlt'
          have p3 := far9 k' hlt'
          have hl := l3 k' hlt'
          go_wp2_with fail
          refine (wipe_any (G3 k') (fl k') (fl k' + 4) _ (by omega) (inv'.w3 k' hlt')).mono ?_
          rintro e w6 ⟨rfl, hw6⟩
          have inv6 := inv'.wiped hw6 (by omega) (by omega) (by omega) (by omega) (by omega)
          go_wp2
          go_roundw
          case rel => exact ⟨k' + 1, by omega, by go_num, inv6⟩
          case measure => simp [intOf]; omega
        · go_wp2
          go_ret
          exact ⟨rfl, inv'.below, inv'.far⟩
end Go.Proofs.YtfmbebofllgmoaaGreatDoor
namespace Go.Proofs.YtfmbebofllgmoaaGreatDoor
open Go.RowKit
attribute [local go_sem ↓] Go.wp_at_zero Go.wp_at_succ

/-- May it go off? -/
def cand (p : AT) (now tn : Int) : Bool := decide (p.1.2.1 ≤ now) && decide (p.2 < tn)
/-- Of the first k timers, the place of the one that goes off next; none: -1. -/
def dueI (A : List AT) (now tn : Int) : Nat → Int
  | 0 => -1
  | k + 1 => match A[k]? with
    | some p => if cand p now tn && (decide (dueI A now tn k < 0) || decide (p.1.2.1 < (A.getD (dueI A now tn k).toNat ((false, 0, 0, 0), 0)).1.2.1)) then (k : Int) else dueI A now tn k
    | none => dueI A now tn k
/-- What it is. -/
def DueOk (A : List AT) (now tn : Int) (k : Nat) (r : Int) : Prop :=
  (r = -1 ∧ ∀ j p, j < k → A[j]? = some p → cand p now tn = false) ∨
  ∃ m p, m < k ∧ r = (m : Int) ∧ A[m]? = some p ∧ cand p now tn = true ∧ ∀ j q, j < k → A[j]? = some q → cand q now tn = true → p.1.2.1 ≤ q.1.2.1 ∧ (j < m → p.1.2.1 < q.1.2.1)
theorem dueI_ok (A : List AT) (now tn : Int) : ∀ k, k ≤ A.length → DueOk A now tn k (dueI A now tn k)
  | 0, _ => .inl ⟨rfl, fun j p h => by omega⟩
  | k + 1, hk => by
    have ih := dueI_ok A now tn k (by omega)
    obtain ⟨p, hp⟩ : ∃ p, A[k]? = some p := ⟨_, List.getElem?_eq_getElem (by omega)⟩
    have hd : dueI A now tn (k + 1) = if cand p now tn && (decide (dueI A now tn k < 0) || decide (p.1.2.1 < (A.getD (dueI A now tn k).toNat ((false, 0, 0, 0), 0)).1.2.1)) then (k : Int) else dueI A now tn k := by
      simp only [dueI, hp]
    rw [hd]
    have last : ∀ j q, j < k + 1 → A[j]? = some q → (j < k ∧ A[j]? = some q) ∨ (j = k ∧ q = p) := fun j q hj hq => by
      by_cases e : j = k
      · subst e; rw [hp] at hq; exact .inr ⟨rfl, (Option.some.inj hq).symm⟩
      · exact .inl ⟨by omega, hq⟩
    by_cases hc : cand p now tn = true
    · rcases ih with ⟨h1, h2⟩ | ⟨m, q, hm, hr, hq, hcq, hall⟩
      · rw [if_pos (by simp [hc, h1])]
        refine .inr ⟨k, p, by omega, rfl, hp, hc, fun j q hj hq hcq => ?_⟩
        rcases last j q hj hq with ⟨h3, h4⟩ | ⟨h3, h4⟩
        · rw [h2 j q h3 h4] at hcq; cases hcq
        · subst h4; exact ⟨Int.le_refl _, fun h => by omega⟩
      · have hg : (A.getD (dueI A now tn k).toNat ((false, 0, 0, 0), 0)) = q := by
          rw [hr, List.getD_eq_getElem?_getD, show ((m : Int)).toNat = m by omega, hq]; rfl
        rw [hg]
        by_cases hl : p.1.2.1 < q.1.2.1
        · rw [if_pos (by simp [hc, hl])]
          refine .inr ⟨k, p, by omega, rfl, hp, hc, fun j u hj hu hcu => ?_⟩
          rcases last j u hj hu with ⟨h3, h4⟩ | ⟨h3, h4⟩
          · have := (hall j u h3 h4 hcu).1; exact ⟨by omega, fun _ => by omega⟩
          · subst h4; exact ⟨Int.le_refl _, fun h => by omega⟩
        · have hn : ¬ ((m : Int) < 0) := by omega
          rw [if_neg (by rw [hr]; simp [hl])]
          refine .inr ⟨m, q, by omega, hr, hq, hcq, fun j u hj hu hcu => ?_⟩
          rcases last j u hj hu with ⟨h3, h4⟩ | ⟨h3, h4⟩
          · exact hall j u h3 h4 hcu
          · subst h4; exact ⟨by omega, fun h => by omega⟩
    · have hc' : cand p now tn = false := by simpa using hc
      rw [if_neg (by simp [hc'])]
      rcases ih with ⟨h1, h2⟩ | ⟨m, q, hm, hr, hq, hcq, hall⟩
      · refine .inl ⟨h1, fun j u hj hu => ?_⟩
        rcases last j u hj hu with ⟨h3, h4⟩ | ⟨h3, h4⟩
        · exact h2 j u h3 h4
        · rw [h4]; exact hc'
      · refine .inr ⟨m, q, by omega, hr, hq, hcq, fun j u hj hu hcu => ?_⟩
        rcases last j u hj hu with ⟨h3, h4⟩ | ⟨h3, h4⟩
        · exact hall j u h3 h4 hcu
        · rw [h4, hc'] at hcu; cases hcu
section
variable {σ : Type} {SQ : (Nat → Value) → (Nat → Prop) → World → σ → Prop} {B : Nat} {S T : Nat → Prop} {w : World} {b : Nat} {pv : Nat → Value} {vt va : Value} {s : PS} {A : List AT} {tn sq : Int} {x : σ}

set_option maxHeartbeats 2000000 in
set_option maxRecDepth 20000 in
theorem dueQ_any (L : SQLaw SQ B) (h : LQ SQ B S w b pv vt va T s A tn sq x) (now : Int) (ha : s.armings ≤ 5000) :
    Calls Tryz.prog 142 #[.pointer (some ⟨b, 0, none⟩), .int .i64 now] w fun e w' => e = .returned (.int .i64 (dueI A now tn A.length)) ∧ Fr (fun _ => False) w w' (fun _ => False) := by
  obtain ⟨aa, ca, rfl⟩ := row_shape h.arow
  have hlen : A.length ≤ 5000 := by have := h.rel.len; omega
  have H := hide h
  clear h
  go_enter Tryz.func142, Tryz.ntmps142
  go_wp2
  go_loopw [5, 6] (fun u i wr => ∃ k : Nat, k ≤ A.length ∧ i = .int .i64 k ∧ u = .int .i64 (dueI A now tn k) ∧ Fr (fun _ => False) w wr (fun _ => False)) (fun _ i _ => A.length - (intOf i).toNat)
  case atStart => exact ⟨0, Nat.zero_le _, rfl, rfl, Fr.refl _ _⟩
  case round =>
    obtain ⟨k, hk, rfl, rfl, hf⟩ := hrel
    have hr := (unhide H).fr L hf
    have c16 := (hr.cell 16 (by omega)).trans (by rw [limg_armed])
    have c15 := (hr.cell 15 (by omega)).trans (by rw [limg_turn])
    have hb := hr.blt
    have HF := hide hf
    clear hf
    by_cases hlt : k < A.length
    · obtain ⟨p, hp⟩ : ∃ p, A[k]? = some p := ⟨_, List.getElem?_eq_getElem hlt⟩
      obtain ⟨g, cg, hv, q0, q1, q2⟩ := at_cells hr.arow hp
      injection hv with hv hv2 hv3
      subst hv
      clear hv2 hv3
      have hd : dueI A now tn (k + 1) = if cand p now tn && (decide (dueI A now tn k < 0) || decide (p.1.2.1 < (A.getD (dueI A now tn k).toNat ((false, 0, 0, 0), 0)).1.2.1)) then (k : Int) else dueI A now tn k := by
        simp only [dueI, hp]
      have hok := dueI_ok A now tn k (by omega)
      have hk0 : (0 : Int) ≤ (k : Int) := by omega
      have hk1 : (k : Int) < (A.length : Int) := by omega
      have hgl : g < wr.heap.size := World.block_lt_of_cell? _ _ q0
      have hgb : ¬ g = wr.heap.size := by omega
      have hgb' : ¬ b = wr.heap.size := by omega
      have HD := hide hd
      obtain ⟨t, pt⟩ := p
      obtain ⟨t0, t1, t2, t3⟩ := t
      dsimp only at q0 q1 q2 hd
      have fin : ∀ r, dueI A now tn (k + 1) = r → ∀ m, ∃ k' : Nat, k' ≤ A.length ∧ Value.int .i64 ((k : Int) + 1) = .int .i64 k' ∧ Value.int .i64 r = .int .i64 (dueI A now tn k') ∧ Fr (fun _ => False) w ((wr.alloc (.cells #[.int .i64 t3, .int .i64 t1, .int .i64 pt] 210)).drewN m) (fun _ => False) := fun r hr m =>
        ⟨k + 1, by omega, by go_num, by rw [hr], ((unhide HF).alloc _).drewN m⟩
      have FIN := hide fin
      clear hd hp fin
      by_cases e1 : t1 ≤ now
      · have d1 : decide (t1 ≤ now) = true := decide_eq_true e1
        by_cases e2 : pt < tn
        · have d2 : decide (pt < tn) = true := decide_eq_true e2
          have hcd : cand ((t0, t1, t2, t3), pt) now tn = true := by unfold cand; simp [e1, e2]
          rcases hok with ⟨hr1, _⟩ | ⟨m, q, hm, hrm, hq, _, _⟩
          · have d3 : decide (dueI A now tn k < 0) = true := by rw [hr1]; rfl
            have hres : dueI A now tn (k + 1) = (k : Int) := by rw [unhide HD, hcd, d3]; rfl
            have HRES := hide (unhide FIN _ hres)
            clear hr hres hcd hr1 FIN HD
            go_wp2
            go_quiet (fail)
            go_wp2
            go_roundw
            case rel => exact unhide HRES _
            case measure => simp [intOf]; omega
          · have d3 : decide (dueI A now tn k < 0) = false := by rw [hrm]; exact decide_eq_false (by omega)
            have n3 : (0 : Int) ≤ dueI A now tn k := by omega
            have n4 : dueI A now tn k < (A.length : Int) := by omega
            obtain ⟨g', cg', hv', u1, u2, u3⟩ := at_cells hr.arow hq
            injection hv' with hv' hv2 hv3
            injection hv' with hv'
            injection hv' with hv' hv4 hv5
            subst hv'
            clear hv2 hv3 u1 u3
            have hmn : (dueI A now tn k).toNat = m := by omega
            rw [← hmn] at u2
            have hgq : (A.getD (dueI A now tn k).toNat ((false, 0, 0, 0), 0)) = q := by
              rw [hmn, List.getD_eq_getElem?_getD, hq]; rfl
            by_cases e4 : t1 < q.1.2.1
            · have d4 : decide (t1 < q.1.2.1) = true := decide_eq_true e4
              have hres : dueI A now tn (k + 1) = (k : Int) := by rw [unhide HD, hcd, d3, hgq, d4]; rfl
              have HRES := hide (unhide FIN _ hres)
              clear hr hres hcd FIN HD hrm hq hgq hmn
              generalize dueI A now tn k = r at *
              go_wp2
              go_quiet (fail)
              go_wp2
              go_roundw
              case rel => exact unhide HRES _
              case measure => simp [intOf]; omega
            · have d4 : decide (t1 < q.1.2.1) = false := decide_eq_false e4
              have hres : dueI A now tn (k + 1) = dueI A now tn k := by rw [unhide HD, hcd, d3, hgq, d4]; rfl
              have HRES := hide (unhide FIN _ hres)
              clear hr hres hcd FIN HD hrm hq hgq hmn
              generalize dueI A now tn k = r at *
              go_wp2
              go_quiet (fail)
              go_wp2
              go_roundw
              case rel => exact unhide HRES _
              case measure => simp [intOf]; omega
        · have d2 : decide (pt < tn) = false := decide_eq_false e2
          have hres : dueI A now tn (k + 1) = dueI A now tn k := by
            rw [unhide HD]
            have : cand ((t0, t1, t2, t3), pt) now tn = false := by unfold cand; simp [e2]
            rw [this]; rfl
          have HRES := hide (unhide FIN _ hres)
          clear hr hres hok FIN HD
          generalize dueI A now tn k = r at *
          go_wp2
          go_quiet (fail)
          go_wp2
          go_roundw
          case rel => exact unhide HRES _
          case measure => simp [intOf]; omega
      · have d1 : decide (t1 ≤ now) = false := decide_eq_false e1
        have hres : dueI A now tn (k + 1) = dueI A now tn k := by
          rw [unhide HD]
          have : cand ((t0, t1, t2, t3), pt) now tn = false := by unfold cand; simp [e1]
          rw [this]; rfl
        have HRES := hide (unhide FIN _ hres)
        clear hr hres hok FIN HD
        generalize dueI A now tn k = r at *
        go_wp2
        go_quiet (fail)
        go_wp2
        go_roundw
        case rel => exact unhide HRES _
        case measure => simp [intOf]; omega
    · have hkl : k = A.length := by omega
      subst hkl
      have hk1 : ¬ (A.length : Int) < (A.length : Int) := by omega
      clear hr
      go_wp2
      go_ret
      exact ⟨rfl, unhide HF⟩
end
end Go.Proofs.YtfmbebofllgmoaaGreatDoor
namespace Go.Proofs.YtfmbebofllgmoaaGreatDoor
open Go.RowKit Go.Sort

theorem dueS_perm (s : PS) : (dueS s).Perm (dueK s 8) := by
  have hp := (insertionSort_holds (lt := ltOf cfT) swoT (dueK s 8).toArray 0 (dueK s 8).toArray.size (Nat.zero_le _) (Nat.le_refl _)).1
  change (Sort.insertionSort (ltOf cfT) (dueK s 8).toArray 0 (dueK s 8).toArray.size).toList.Perm (dueK s 8)
  generalize Sort.insertionSort (ltOf cfT) (dueK s 8).toArray 0 (dueK s 8).toArray.size = d at *
  have h1 := hp.2.2
  have hz := hp.1
  have e : d.extract 0 (dueK s 8).toArray.size = d := by rw [← hz]; simp
  rw [e] at h1
  simpa using h1
theorem dueS_sorted (s : PS) : (dueS s).Pairwise (fun a b => ltOf cfT b a = false) := by
  have hs := (insertionSort_holds (lt := ltOf cfT) swoT (dueK s 8).toArray 0 (dueK s 8).toArray.size (Nat.zero_le _) (Nat.le_refl _)).2
  have hp := (insertionSort_holds (lt := ltOf cfT) swoT (dueK s 8).toArray 0 (dueK s 8).toArray.size (Nat.zero_le _) (Nat.le_refl _)).1
  change (Sort.insertionSort (ltOf cfT) (dueK s 8).toArray 0 (dueK s 8).toArray.size).toList.Pairwise _
  generalize Sort.insertionSort (ltOf cfT) (dueK s 8).toArray 0 (dueK s 8).toArray.size = d at *
  rw [List.pairwise_iff_getElem]
  intro i j hi hj hij
  have hz := hp.1
  have hi' : i < d.size := by simpa using hi
  have hj' : j < d.size := by simpa using hj
  have := hs i j (Nat.zero_le _) hij (by omega)
  simpa [hi', hj'] using this
end Go.Proofs.YtfmbebofllgmoaaGreatDoor
namespace Go.Proofs.YtfmbebofllgmoaaGreatDoor
open Go.RowKit Go.Sort

section
variable {σ : Type} {ask : σ → Int → Int → Rep × σ}
/-- A timer that was armed before sq is as it was, or is no more. -/
def Olds (sq : Int) (s s' : PS) : Prop := s.armings ≤ s'.armings ∧ ∀ i, (s'.tim i).1 = true → (s'.tim i).2.2.1 ≤ sq → s'.tim i = s.tim i
theorem Olds.refl (sq : Int) (s : PS) : Olds sq s s := ⟨Int.le_refl _, fun _ _ _ => rfl⟩
theorem Olds.of {sq : Int} {s s' : PS} (ht : s'.tim = s.tim) (ha : s'.armings = s.armings) : Olds sq s s' := ⟨by omega, fun i _ _ => by rw [ht]⟩
theorem Olds.trans {sq : Int} {s s' s'' : PS} (h : Olds sq s s') (h' : Olds sq s' s'') : Olds sq s s'' :=
  ⟨Int.le_trans h.1 h'.1, fun i hi hs => by
    have e := h'.2 i hi hs
    rw [e] at hi hs ⊢
    exact h.2 i hi hs⟩
theorem ckS_tim (s : PS) (R : Rep) : (ckS s R).tim = s.tim ∧ (ckS s R).armings = s.armings := by
  unfold ckS; exact ite_ok (P := fun q : PS => q.tim = s.tim ∧ q.armings = s.armings) (ite_ok (P := fun q : PS => q.tim = s.tim ∧ q.armings = s.armings) ⟨rfl, rfl⟩ ⟨rfl, rfl⟩) ⟨rfl, rfl⟩
theorem lotS_tim (s : PS) (R : Rep) (i : Nat) : (lotS s R i).tim = s.tim ∧ (lotS s R i).armings = s.armings := by
  unfold lotS; exact ite_ok (P := fun q : PS => q.tim = s.tim ∧ q.armings = s.armings) ⟨rfl, rfl⟩ ⟨rfl, rfl⟩
theorem opM_old {sq : Int} (o : O3) (s : PS) (x : σ) (hs : sq ≤ s.armings) : Olds sq s (opM ask o s x).1 := by
  have hck := ckS_tim s (ask x 1 0).1
  have hlo := lotS_tim s (ask x 4 o.2.2).1 o.2.1.toNat
  have r := Olds.refl sq s
  have g : ∀ (P : PS × σ → Prop), (∀ q : PS × σ, Olds sq s q.1 → P q) → P (opM ask o s x) := by
    intro P hP
    unfold opM
    refine ite_ok (hP _ (.of rfl rfl)) (ite_ok (hP _ (.of rfl rfl)) (ite_ok (hP _ ?_) (ite_ok (hP _ ?_) (ite_ok (hP _ (.of rfl rfl)) (ite_ok (hP _ (.of rfl rfl)) (ite_ok (hP _ ?_) (ite_ok (hP _ (.of hlo.1 hlo.2)) (ite_ok (hP _ (.of rfl rfl)) (ite_ok (hP _ ?_) (hP _ (.of rfl rfl)))))))))))
    · refine ⟨by show s.armings ≤ s.armings + 1; omega, fun i hi hq => ?_⟩
      change (upd s.tim o.2.1.toNat _ i).2.2.1 ≤ sq at hq
      show upd s.tim o.2.1.toNat _ i = s.tim i
      unfold upd at hq ⊢
      by_cases e : i = o.2.1.toNat
      · rw [if_pos e] at hq
        change s.armings + 1 ≤ sq at hq
        omega
      · rw [if_neg e]
    · refine ⟨Int.le_refl _, fun i hi hq => ?_⟩
      change (upd s.tim o.2.1.toNat _ i).1 = true at hi
      show upd s.tim o.2.1.toNat _ i = s.tim i
      unfold upd at hi ⊢
      by_cases e : i = o.2.1.toNat
      · rw [if_pos e] at hi; cases hi
      · rw [if_neg e]
    · exact ite_ok (P := fun q : PS => Olds sq s q) (.of hck.1 hck.2) (.of hck.1 hck.2)
    · exact ite_ok (P := fun q : PS => Olds sq s q) (.of rfl rfl) r
  exact g (fun q => Olds sq s q.1) (fun _ h => h)
theorem hM_old {sq : Int} {f : Nat → O3} {n : Nat} : ∀ (k : Nat) (s : PS) (x : σ), sq ≤ s.armings → Olds sq s (hM ask f n k s x).1
  | 0, s, _, _ => Olds.refl sq s
  | k + 1, s, x, hs => by
    unfold hM
    refine ite_ok (P := fun q : PS × σ => Olds sq s q.1) (ite_ok (P := fun q : PS × σ => Olds sq s q.1) (.of rfl rfl) ?_) (Olds.refl sq s)
    have h1 := opM_old (ask := ask) (f s.next.toNat) { s with fuel := s.fuel - 1, next := s.next + 1 } x hs
    have h0 : Olds sq s { s with fuel := s.fuel - 1, next := s.next + 1 } := .of rfl rfl
    exact (h0.trans h1).trans (hM_old k _ _ (Int.le_trans hs h1.1))

/-- What is left of the timers that are due. -/
structure TL (s : PS) (l : List TM) (now sq : Int) : Prop where
  sort : l.Pairwise fun a b => ltOf cfT b a = false
  mem : ∀ t, t ∈ l → t.1 = true ∧ t.2.1 ≤ now ∧ t.2.2.1 ≤ sq
  all : ∀ i, (s.tim i).1 = true → (s.tim i).2.1 ≤ now → (s.tim i).2.2.1 ≤ sq → s.tim i ∈ l
theorem frM_none {g : Int → PS → σ → PS × σ} : ∀ (l : List TM) (s : PS) (x : σ), (∀ t, t ∈ l → s.tim t.2.2.2.toNat ≠ t) → frM g l s x = (s, x)
  | [], _, _, _ => rfl
  | t :: r, s, x, h => by
    unfold frM
    by_cases hf : s.fin ≠ 0
    · rw [if_pos hf]
    · rw [if_neg hf, if_neg (h t (List.mem_cons_self ..))]
      exact frM_none r s x (fun t ht => h t (List.mem_cons_of_mem _ ht))
theorem frM_stop {g : Int → PS → σ → PS × σ} (l : List TM) (s : PS) (x : σ) (h : s.fin ≠ 0) : frM g l s x = (s, x) := by
  cases l with
  | nil => rfl
  | cons t r => unfold frM; rw [if_pos h]
theorem frM_skip {g : Int → PS → σ → PS × σ} (l2 : List TM) : ∀ (l1 : List TM) (s : PS) (x : σ), s.fin = 0 → (∀ t, t ∈ l1 → s.tim t.2.2.2.toNat ≠ t) → frM g (l1 ++ l2) s x = frM g l2 s x
  | [], _, _, _, _ => rfl
  | t :: r, s, x, hf, h => by
    rw [List.cons_append]
    rw [frM, if_neg (by simp [hf]), if_neg (h t (List.mem_cons_self ..))]
    exact frM_skip l2 r s x hf (fun t ht => h t (List.mem_cons_of_mem _ ht))
theorem cand_iff {s : PS} {A : List AT} {tn sq now : Int} (h : ARel s A tn sq) {p : AT} (hp : p ∈ A) : cand p now tn = true ↔ p.1.2.1 ≤ now ∧ p.1.2.2.1 ≤ sq := by
  unfold cand
  have := (h.trn p hp).1
  simp only [Bool.and_eq_true, decide_eq_true_eq]
  rw [this]
/-- None is due: none is left. -/
theorem TL.none {g : Int → PS → σ → PS × σ} {s : PS} {A : List AT} {l : List TM} {tn sq now : Int} (h : TL s l now sq) (hr : ARel s A tn sq) (hd : ∀ j p, j < A.length → A[j]? = some p → cand p now tn = false) (x : σ) : frM g l s x = (s, x) :=
  frM_none l s x (fun t ht e => by
    obtain ⟨h1, h2, h3⟩ := h.mem t ht
    rw [← e] at h1 h2 h3
    obtain ⟨_, _, u, hu⟩ := hr.all _ h1
    obtain ⟨j, hj⟩ := List.getElem?_of_mem hu
    have hc := hd j _ (List.getElem?_eq_some_iff.1 hj).1 hj
    rw [(cand_iff hr hu).2 ⟨h2, h3⟩] at hc
    cases hc)
/-- One is due: it is the next that goes off. -/
theorem TL.next {g : Int → PS → σ → PS × σ} {s : PS} {A : List AT} {l : List TM} {tn sq now : Int} (h : TL s l now sq) (hr : ARel s A tn sq) {m : Nat} {p : AT} (hm : A[m]? = some p) (hc : cand p now tn = true)
    (hall : ∀ j q, j < A.length → A[j]? = some q → cand q now tn = true → p.1.2.1 ≤ q.1.2.1 ∧ (j < m → p.1.2.1 < q.1.2.1)) (hf : s.fin = 0) (x : σ) :
    ∃ l2, l2.length < l.length ∧ frM g l s x = frM g l2 (g p.1.2.2.2 (offS s p.1.2.2.2) x).1 (g p.1.2.2.2 (offS s p.1.2.2.2) x).2 ∧ ∀ s2, Olds sq (offS s p.1.2.2.2) s2 → TL s2 l2 now sq := by
  have hp : p ∈ A := List.mem_of_getElem? hm
  obtain ⟨a1, a2, a3, a4⟩ := hr.mem p hp
  obtain ⟨c1, c2⟩ := (cand_iff hr hp).1 hc
  have hin : p.1 ∈ l := by
    have := h.all p.1.2.2.2.toNat (by rw [a4]; exact a1) (by rw [a4]; exact c1) (by rw [a4]; exact c2)
    rwa [a4] at this
  obtain ⟨l1, l2, rfl, hno⟩ := List.eq_append_cons_of_mem hin
  have hbad : ∀ t, t ∈ l1 → s.tim t.2.2.2.toNat ≠ t := fun t ht e => by
    obtain ⟨b1, b2, b3⟩ := h.mem t (List.mem_append_left _ ht)
    have b1' := b1
    rw [← e] at b1'
    obtain ⟨_, _, u, hu⟩ := hr.all _ b1'
    rw [e] at hu
    obtain ⟨j, hj⟩ := List.getElem?_of_mem hu
    have hjl := (List.getElem?_eq_some_iff.1 hj).1
    have hml := (List.getElem?_eq_some_iff.1 hm).1
    obtain ⟨d1, d2⟩ := hall j _ hjl hj ((cand_iff hr hu).2 ⟨b2, b3⟩)
    have hs := (List.pairwise_append.1 h.sort).2.2 t ht p.1 (List.mem_cons_self ..)
    have hs' : ¬ (p.1.2.1 < t.2.1 ∨ (p.1.2.1 = t.2.1 ∧ p.1.2.2.1 < t.2.2.1)) := fun hh => by
      rw [(ltT p.1 t).2 hh] at hs; cases hs
    have hne : t ≠ p.1 := fun e => hno (e ▸ ht)
    have hseq := List.pairwise_iff_getElem.1 hr.seq
    have ej : A[j] = (t, u) := (List.getElem?_eq_some_iff.1 hj).2
    have em : A[m] = p := (List.getElem?_eq_some_iff.1 hm).2
    rcases Nat.lt_trichotomy j m with hlt | heq | hgt
    · have := d2 hlt
      change p.1.2.1 < t.2.1 at this
      exact hs' (.inl this)
    · subst heq
      rw [ej] at em
      exact hne (by rw [← em])
    · have := hseq m j hml hjl hgt
      rw [ej, em] at this
      change p.1.2.2.1 < t.2.2.1 at this
      change p.1.2.1 ≤ t.2.1 at d1
      exact hs' (by omega)
  refine ⟨l2, by simp; omega, ?_, fun s2 ho => ?_⟩
  · rw [frM_skip (p.1 :: l2) l1 s x hf hbad, frM, if_neg (by simp [hf]), if_pos a4]
  · have hsub : ∀ t, t ∈ l2 → t ∈ l1 ++ p.1 :: l2 := fun t ht => List.mem_append_right _ (List.mem_cons_of_mem _ ht)
    refine ⟨(List.pairwise_cons.1 (List.pairwise_append.1 h.sort).2.1).2, fun t ht => h.mem t (hsub t ht), fun i i1 i2 i3 => ?_⟩
    have e1 := ho.2 i i1 i3
    have hne : i ≠ p.1.2.2.2.toNat := fun e => by
      rw [e1] at i1
      change (upd s.tim p.1.2.2.2.toNat _ i).1 = true at i1
      unfold upd at i1
      rw [if_pos e] at i1
      cases i1
    have e2 : (offS s p.1.2.2.2).tim i = s.tim i := by
      show upd s.tim p.1.2.2.2.toNat _ i = s.tim i
      unfold upd
      rw [if_neg hne]
    rw [e1, e2] at i1 i2 i3 ⊢
    have hi := h.all i i1 i2 i3
    obtain ⟨_, b2, _⟩ := hr.all i i1
    rcases List.mem_append.1 hi with h1 | h1
    · exact absurd (by rw [b2]; rfl) (hbad _ h1)
    · rcases List.mem_cons.1 h1 with h2 | h2
      · exact absurd (by rw [← h2, b2]; rfl) hne
      · exact h2
/-- At the turn's beginning. -/
theorem TL.start {s : PS} {A : List AT} {tn sq : Int} (hr : ARel s A tn sq) (hs : s.armings ≤ sq) : TL s (dueS s) s.clock sq := by
  have hp := dueS_perm s
  have hseq : ∀ i, (s.tim i).1 = true → (s.tim i).2.2.1 ≤ sq := fun i hi => by
    obtain ⟨_, _, u, hu⟩ := hr.all i hi
    exact Int.le_trans (hr.top _ hu) hs
  refine ⟨dueS_sorted s, fun t ht => ?_, fun i h1 h2 _ => ?_⟩
  · have := hp.mem_iff.1 ht
    unfold dueK at this
    rw [List.mem_filter, List.mem_map] at this
    obtain ⟨⟨i, _, rfl⟩, h2⟩ := this
    simp only [Bool.and_eq_true, decide_eq_true_eq] at h2
    exact ⟨h2.1, h2.2, hseq i h2.1⟩
  · refine hp.mem_iff.2 ?_
    unfold dueK
    rw [List.mem_filter, List.mem_map]
    exact ⟨⟨i, List.mem_range.2 (hr.all i h1).1, rfl⟩, by simp [h1, h2]⟩
end
end Go.Proofs.YtfmbebofllgmoaaGreatDoor
namespace Go.Proofs.YtfmbebofllgmoaaGreatDoor
open Go.RowKit
attribute [local go_sem ↓] Go.wp_at_zero Go.wp_at_succ

section
variable {σ : Type} {SQ : (Nat → Value) → (Nat → Prop) → World → σ → Prop} {ask : σ → Int → Int → Rep × σ} {may : Int → Int → Prop} {B : Nat} {S T : Nat → Prop} {w : World} {b : Nat} {pv : Nat → Value} {vt va : Value} {s : PS} {A : List AT} {tn sq : Int} {x : σ}

/-- How far a handler has come. -/
def QRel (SQ : (Nat → Value) → (Nat → Prop) → World → σ → Prop) (ask : σ → Int → Int → Rep × σ) (B : Nat) (S : Nat → Prop) (w : World) (b : Nat) (pv : Nat → Value) (tn sq : Int) (f : Nat → O3) (n N : Nat) (fin : PS × σ) (k : Nat) (u : Value) (wr : World) : Prop :=
  ∃ S' pv' vt' va' T' A' s' x', LQ SQ B S' wr b pv' vt' va' T' s' A' tn sq x' ∧ (∀ i, i < 3 → pv' i = pv i) ∧ Fr S w wr S' ∧ hM ask f n k s' x' = fin ∧ QInv N s' ∧ 0 ≤ s'.next ∧ s'.next ≤ 40 ∧ n ≤ s'.next.toNat + k ∧ u = .int .i64 s'.next
theorem qrel_next {w2 : World} {S2 T2 : Nat → Prop} {pv2 : Nat → Value} {vt2 va2 : Value} {A2 : List AT} {s2 : PS} {x2 : σ} {f : Nat → O3} {n N k' : Nat} {fin : PS × σ} {nx : Int} {u : Value} (p1 : LQ SQ B S2 w2 b pv2 vt2 va2 T2 s2 A2 tn sq x2) (p0 : ∀ i, i < 3 → pv2 i = pv i) (p2 : Fr S w w2 S2) (e : fin = hM ask f n k' s2 x2) (q : QInv N s2)
    (hu : u = .int .i64 s2.next) (hx : s2.next = nx + 1 ∨ s2.next = nx + 1 + 1) (h0 : 0 ≤ nx) (h1 : nx < n) (hn : n ≤ 32) (h7 : n ≤ nx.toNat + (k' + 1)) : QRel SQ ask B S w b pv tn sq f n N fin k' u w2 :=
  ⟨S2, pv2, vt2, va2, T2, A2, s2, x2, p1, p0, p2, e.symm, q, by omega, by omega, by omega, hu⟩

set_option maxHeartbeats 8000000 in
set_option maxRecDepth 20000 in
theorem handlerQ_any (L : SQLaw SQ B) (K : HearQ SQ ask may B) (hm : may 1 0) (hm4 : ∀ v, 1 ≤ v → v ≤ 1000000 → may 4 v) (hk : ClockOk ask)
    {w0 : World} (hB : B = w0.heap.size) (hbel : Below w0.heap.size w0 w) (h : LQ SQ B S w b pv vt va T s A tn sq x) {v : Value} {n N nt nf : Nat} {f : Nat → O3} (hv : OpsIn w0 v n f) (hn : n ≤ 32) (hnt : nt ≤ 8) (hnf : nf ≤ 8) (hr : ∀ i, i < n → rt (f i) nt nf = true) (hq : QInv N s) (hN : N ≤ 100000000) :
    Calls Tryz.prog 125 #[.pointer (some ⟨b, 0, none⟩), v] w fun e w' => e = .returned (.tuple #[]) ∧ LPost SQ B S w b pv tn sq (hM ask f n n { s with next := 0 } x).1 (hM ask f n n { s with next := 0 } x).2 w' := by
  obtain ⟨va0, vc0, rfl, vl, hf⟩ := hv
  have h0 : LQ SQ B S w b pv vt va T { s with next := 0 } A tn sq x := ⟨h.bound, h.cells, h.row, h.arow, h.rel.of rfl rfl, h.src, h.hc, h.inB, h.inV, h.inA, h.inT⟩
  have r0 : QRel SQ ask B S w b pv tn sq f n N (hM ask f n n { s with next := 0 } x) n (.int .i64 0) w :=
    ⟨S, pv, vt, va, T, A, _, x, h0, fun _ _ => rfl, Fr.refl S w, rfl, ⟨hq.fuel, hq.clock, hq.armings, hq.trace⟩, Int.le_refl 0, by show (0 : Int) ≤ 40; omega, by simp, rfl⟩
  have hSB : ∀ k, S k → B ≤ k := fun k hk => (h.bound k hk).1
  have hBw : B ≤ w.heap.size := h.below
  generalize hM ask f n n { s with next := 0 } x = fin at *
  have HF := hide hf
  have HR := hide hr
  have R0 := hide r0
  have HSB := hide hSB
  have HBW := hide hBw
  have HBEL := hide hbel
  have HBE := hide hB
  clear h h0 hf hr r0 hq hSB hBw hbel hB
  go_enter Tryz.func125, Tryz.ntmps125
  go_wp2
  go_loopg [4] n (fun k u wr => QRel SQ ask B S w b pv tn sq f n N fin k u wr)
  case atStart => exact unhide R0
  case round =>
    obtain ⟨S', pv', vt', va', T', A', s', x', q1, q0, q2, q3, q4, q5, q6, q7, rfl⟩ := hrel
    have c27 := (q1.cell 27 (by omega)).trans (by rw [limg_fin])
    have c25 := (q1.cell 25 (by omega)).trans (by rw [limg_fuel])
    have f25 := q1.free 25 (by omega)
    have f27 := q1.free 27 (by omega)
    have hbr := q1.blt
    have hSb : S b ∨ w.heap.size ≤ b := by
      by_cases hs : S b
      · exact .inl hs
      · exact .inr (Nat.le_of_not_lt fun hl => hs (q2.old b hl q1.inB))
    have HSb := hide hSb
    by_cases hlt : s'.next < n
    · by_cases hfi : s'.fin = 0
      · obtain ⟨k', rfl⟩ : ∃ k', gk = k' + 1 := ⟨gk - 1, by omega⟩
        have hu : hM ask f n (k' + 1) s' x' = if s'.fuel = 0 then ({ s' with fin := 3 }, x') else hM ask f n k' (opM ask (f s'.next.toNat) { s' with fuel := s'.fuel - 1, next := s'.next + 1 } x').1 (opM ask (f s'.next.toNat) { s' with fuel := s'.fuel - 1, next := s'.next + 1 } x').2 := by
          simp only [hM]; rw [if_pos ⟨hlt, hfi⟩]
        have hfb : (s'.fin == 0) = true := by simpa using hfi
        by_cases hfu : s'.fuel = 0
        · rw [if_pos hfu] at hu
          have q := q1.set L 27 (.int .i64 3) { s' with fin := 3 } (by omega) (lset_fin 3) rfl (q1.rel.of rfl rfl) rfl
          have hub : (s'.fuel == 0) = true := by simpa using hfu
          have Q1 := hide q
          have Q2 := hide (q2.setCell ⟨b, 27, none⟩ (.int .i64 3) hSb)
          have E := hide (q3.symm.trans hu)
          have Q0 := hide q0
          have e1 : (0 : Int) ≤ s'.next := q5
          have e2 : s'.next < (n : Int) := hlt
          clear q q1 q2 q3 q4 hu hfi hfu q0 hSb
          generalize s'.next = nx at *
          generalize s'.fin = fi at *
          generalize s'.fuel = fu at *
          go_wp2
          refine bodyPost_ret (v := .tuple #[]) (by simp [results, Tryz.results125, go_sem]) rfl ?_
          rw [unhide E]
          exact ⟨rfl, S', pv', vt', va', T', A', unhide Q1, unhide Q0, unhide Q2⟩
        · rw [if_neg hfu] at hu
          have hub : (s'.fuel == 0) = false := by simpa using hfu
          rcases unhide HF with hz | ⟨ob, off, rfl, hf⟩
          · omega
          have hi : s'.next.toNat < n := by omega
          have hbw : Below w0.heap.size w0 wr := (unhide HBEL).trans (unhide HBE ▸ q2.below (unhide HSB) (unhide HBW))
          have hop := opAt_below hbw (hf _ hi)
          have hob : ob < w0.heap.size := opAt_lt (hf _ hi)
          have hBb : B ≤ b := (q1.bound b q1.inB).1
          have hne : ¬ b = ob := by have := unhide HBE; omega
          have hne' : ¬ ob = b := by omega
          have hobw : ob < wr.heap.size := opAt_lt hop
          have hrt := unhide HR _ hi
          have e1 : (0 : Int) ≤ s'.next := q5
          have e2 : s'.next < (n : Int) := hlt
          generalize hgo : f s'.next.toNat = o at *
          obtain ⟨c, a, v⟩ := o
          obtain ⟨g0, g1, g2⟩ := hop
          have hc := right_code (show rightB c a v nt nf = true from hrt)
          have qf := q4.fuel
          have h1 := ((q1.set L 25 (.int .i64 (s'.fuel - 1)) { s' with fuel := s'.fuel - 1 } (by omega) (lset_fuel (s'.fuel - 1)) rfl (q1.rel.of rfl rfl) rfl).alloc L (.cells #[.int .i64 c, .int .i64 a, .int .i64 v] 70))
          have h1a := q1.set L 25 (.int .i64 (s'.fuel - 1)) { s' with fuel := s'.fuel - 1, next := s'.next + 1 } (by omega) (lset_fuel (s'.fuel - 1)) rfl (q1.rel.of rfl rfl) rfl
          have H1A := hide h1a
          have Q2A := hide (q2.setCell ⟨b, 25, none⟩ (.int .i64 (s'.fuel - 1)) hSb)
          have hpb : ((wr.setCell ⟨b, 25, none⟩ (.int .i64 (s'.fuel - 1))).alloc (.cells #[.int .i64 c, .int .i64 a, .int .i64 v] 70)).heap[wr.heap.size]? = some (.cells #[.int .i64 c, .int .i64 a, .int .i64 v] 70) := by
            have h := heap_alloc_new (wr.setCell ⟨b, 25, none⟩ (.int .i64 (s'.fuel - 1))) (.cells #[.int .i64 c, .int .i64 a, .int .i64 v] 70)
            rwa [show (wr.setCell ⟨b, 25, none⟩ (.int .i64 (s'.fuel - 1))).heap.size = wr.heap.size by simp [World.setCell]] at h
          have h2 : LQ SQ B S' ((wr.setCell ⟨b, 25, none⟩ (.int .i64 (s'.fuel - 1))).alloc (.cells #[.int .i64 c, .int .i64 a, .int .i64 v] 70)) b pv' vt' va' T' { s' with fuel := s'.fuel - 1, next := s'.next + 1 } A' tn sq x' := ⟨h1.bound, h1.cells, h1.row, h1.arow, h1.rel.of rfl rfl, h1.src, h1.hc, h1.inB, h1.inV, h1.inA, h1.inT⟩
          have hnx := opM_next (ask := ask) (c, a, v) { s' with fuel := s'.fuel - 1, next := s'.next + 1 } x'
          have hnv := opM_inv hk (c, a, v) { s' with fuel := s'.fuel - 1, next := s'.next + 1 } x' (N := N) ⟨⟨by show 0 ≤ s'.fuel - 1; omega, by show s'.fuel - 1 ≤ 5000; omega⟩, q4.clock, ⟨q4.armings.1, by have := q4.armings.2; show s'.armings + (s'.fuel - 1) ≤ 5000; omega⟩, by have := q4.trace; show s'.trace.length + (s'.fuel - 1).toNat ≤ N; omega⟩ (by have := q4.armings.2; show s'.armings + (s'.fuel - 1) + 1 ≤ 5000; omega) (by have := q4.trace; show s'.trace.length + (s'.fuel - 1).toNat + 1 ≤ N; omega)
          have Q2 := hide (((q2.setCell ⟨b, 25, none⟩ (.int .i64 (s'.fuel - 1)) hSb).alloc (.cells #[.int .i64 c, .int .i64 a, .int .i64 v] 70)))
          have hnP : wr.heap.size ≠ b := by omega
          have hnP' : ¬ b = wr.heap.size := by omega
          have hpl := (Array.getElem?_eq_some_iff.1 hpb).1
          have hPS : ¬ S' wr.heap.size := fun hs => by have := (q1.bound _ hs).2; omega
          have E := hide (q3.symm.trans hu)
          have HNX := hide hnx
          have HNV := hide hnv
          have H2 := hide h2
          have HPB := hide hpb
          have Q0 := hide q0
          have hq := q4
          have HQ := hide q4
          have HRT := hide hrt
          have HPS := hide hPS
          have hbB : wr.heap.size ≥ B := by have := q1.below; omega
          have hfin0 : s'.fin = 0 := hfi
          have HFI := hide hfin0
          clear hu q1 q2 q3 q4 h1 h1a h2 hf hfi hfu hrt hnx hnv hbw q0 hSb hpb hq hPS hfin0
          have hcs : c = 1 ∨ c = 2 ∨ c = 3 ∨ c = 4 ∨ c = 5 ∨ c = 6 ∨ c = 7 ∨ c = 8 ∨ c = 9 ∨ c = 10 ∨ c = 11 := by omega
          clear hc
          rcases hcs with rfl | rfl | rfl | rfl | rfl | rfl | rfl | rfl | rfl | rfl | rfl
          · as_aux_lemma =>
              obtain ⟨r1, r2⟩ := right_reg (show rightB 1 a v nt nf = true from unhide HRT) (by omega)
              go_wp2
              generalize hW2 : ((wr.setCell ⟨b, 25, none⟩ (.int .i64 (s'.fuel - 1))).alloc (.cells #[.int .i64 1, .int .i64 a, .int .i64 v] 70)) = W2 at *
              clear hW2
              have cr := (unhide H2).cell (10 + a.toNat) (by omega)
              have fr := (unhide H2).free (10 + a.toNat) (by omega)
              rw [limg_reg _ _ _ _ _ _ (by omega)] at cr
              refine wp_region_held_drew (S := fun w' => w'.heap[wr.heap.size]? = some (.cells #[.int .i64 1, .int .i64 a, .int .i64 v] 70)) (by kernel_rfl) ?_ (fun hHeld => ?_)
              · exact unhide HPB
              refine wpAnyH_take (i := 0) (oi := { dst := some 46, op := Op.move (Operand.tmp 0), type := 177, pos := "run.go:216", after := #[], guard := none }) (v := ?_) rfl (by kernel_rfl) (by kernel_rfl) (by kernel_rfl) (fun _ _ _ h => h) (Or.inl ⟨by rfl, ?_⟩) (by assumption) ?_
              rotate_left
              · intro w hSw; (try dsimp only at hSw); go_simp; try with_reducible rfl
              simp only [Act.put, List.setIfInBounds_toArray, List.set_cons_zero, List.set_cons_succ]
              refine wpAnyH_take (i := 1) (oi := { dst := some 47, op := Op.fieldAddr 70 (Operand.tmp 5) 1, type := 0, pos := "run.go:216", after := #[], guard := none }) (v := ?_) rfl (by kernel_rfl) (by kernel_rfl) (by kernel_rfl) (fun _ _ _ h => h) (Or.inl ⟨by rfl, ?_⟩) (by assumption) ?_
              rotate_left
              · intro w hSw; have cP := fun j => cell_of_row w _ j _ 70 (0, 0) hSw; go_simp; try with_reducible rfl
              simp only [Act.put, List.setIfInBounds_toArray, List.set_cons_zero, List.set_cons_succ]
              refine wpAnyH_take (i := 2) (oi := { dst := some 48, op := Op.load 3 (Operand.tmp 47), type := 3, pos := "run.go:216", after := #[{ on := 1, ground := Ground.data }], guard := none }) (v := ?_) rfl (by kernel_rfl) (by kernel_rfl) (by kernel_rfl) (fun _ _ _ h => h) (Or.inl ⟨by rfl, ?_⟩) (by assumption) ?_
              rotate_left
              · intro w hSw; have cP := fun j => cell_of_row w _ j _ 70 (0, 0) hSw; go_simp; try with_reducible rfl
              simp only [Act.put, List.setIfInBounds_toArray, List.set_cons_zero, List.set_cons_succ]
              refine wpAnyH_take (i := 3) (oi := { dst := some 49, op := Op.fieldAddr 70 (Operand.tmp 5) 2, type := 0, pos := "run.go:216", after := #[], guard := none }) (v := ?_) rfl (by kernel_rfl) (by kernel_rfl) (by kernel_rfl) (fun _ _ _ h => h) (Or.inl ⟨by rfl, ?_⟩) (by assumption) ?_
              rotate_left
              · intro w hSw; have cP := fun j => cell_of_row w _ j _ 70 (0, 0) hSw; go_simp; try with_reducible rfl
              simp only [Act.put, List.setIfInBounds_toArray, List.set_cons_zero, List.set_cons_succ]
              refine wpAnyH_take (i := 4) (oi := { dst := some 50, op := Op.load 3 (Operand.tmp 49), type := 3, pos := "run.go:216", after := #[{ on := 3, ground := Ground.data }], guard := none }) (v := ?_) rfl (by kernel_rfl) (by kernel_rfl) (by kernel_rfl) (fun _ _ _ h => h) (Or.inl ⟨by rfl, ?_⟩) (by assumption) ?_
              rotate_left
              · intro w hSw; have cP := fun j => cell_of_row w _ j _ 70 (0, 0) hSw; go_simp; try with_reducible rfl
              simp only [Act.put, List.setIfInBounds_toArray, List.set_cons_zero, List.set_cons_succ]
              refine wpAnyH_take (i := 5) (oi := { dst := some 51, op := Op.nilCheck (Operand.tmp 46), type := 0, pos := "run.go:216", after := #[{ on := 0, ground := Ground.data }], guard := none }) (v := ?_) rfl (by kernel_rfl) (by kernel_rfl) (by kernel_rfl) (fun _ _ _ h => h) (Or.inl ⟨by rfl, ?_⟩) (by assumption) ?_
              rotate_left
              · intro w hSw; (try dsimp only at hSw); go_simp; try with_reducible rfl
              simp only [Act.put, List.setIfInBounds_toArray, List.set_cons_zero, List.set_cons_succ]
              refine wpAnyH_take (i := 6) (oi := { dst := some 52, op := Op.fieldAddr 180 (Operand.tmp 51) 5, type := 0, pos := "run.go:216", after := #[{ on := 5, ground := Ground.data }], guard := none }) (v := ?_) rfl (by kernel_rfl) (by kernel_rfl) (by kernel_rfl) (fun _ _ _ h => h) (Or.inl ⟨by rfl, ?_⟩) (by assumption) ?_
              rotate_left
              · intro w hSw; (try dsimp only at hSw); go_simp; try with_reducible rfl
              simp only [Act.put, List.setIfInBounds_toArray, List.set_cons_zero, List.set_cons_succ]
              refine wpAnyH_take (i := 7) (oi := { dst := some 53, op := Op.indexAddr 35 (Operand.tmp 52) (Operand.tmp 48), type := 0, pos := "run.go:216", after := #[{ on := 6, ground := Ground.data }, { on := 2, ground := Ground.data }, { on := 0, ground := Ground.phase }, { on := 1, ground := Ground.phase }, { on := 2, ground := Ground.phase }, { on := 3, ground := Ground.phase }, { on := 4, ground := Ground.phase }], guard := none }) (v := ?_) rfl (by kernel_rfl) (by kernel_rfl) (by kernel_rfl) (fun _ _ _ h => h) (Or.inl ⟨by rfl, ?_⟩) (by assumption) ?_
              rotate_left
              · intro w hSw; (try dsimp only at hSw); go_simp; try with_reducible rfl
              simp only [Act.put, List.setIfInBounds_toArray, List.set_cons_zero, List.set_cons_succ]
              refine wpAnyH_ready (rs := [8]) (by kernel_rfl) (by simp) ?_
              refine AllReadyH.cons (o := { dst := none, op := Op.store 2 (Operand.tmp 53) (Operand.tmp 50), type := 0, pos := "run.go:216", after := #[{ on := 7, ground := Ground.data }, { on := 4, ground := Ground.data }, { on := 0, ground := Ground.phase }, { on := 1, ground := Ground.phase }, { on := 2, ground := Ground.phase }, { on := 3, ground := Ground.phase }, { on := 4, ground := Ground.phase }], guard := none }) rfl (fun K' hK' => ?_) AllReadyH.nil
              go_simp
              refine hK'.out _ _ ?_ (fun hHeld => ?_)
              · exact (Below.heap_setCell _ _ _ _ hnP).trans (unhide HPB)
              clear hK' K'
              try simp only [Act.put, List.setIfInBounds_toArray, List.set_cons_zero, List.set_cons_succ]
              refine wpAnyH_done (by kernel_rfl) ?_ _
              go_wp2
              go_roundg k'
              case rel =>
                have e3 := unhide E
                have e4 := unhide HNV
                rw [show opM ask (1, a, v) { s' with fuel := s'.fuel - 1, next := s'.next + 1 } x' = ({ s' with fuel := s'.fuel - 1, next := s'.next + 1, reg := upd s'.reg a.toNat v }, x') from by simp [opM]] at e3 e4
                exact qrel_next (((unhide H2).set L (10 + a.toNat) (.int .i64 v) _ (by omega) (lset_reg a.toNat v (by omega)) rfl ((unhide H2).rel.of rfl rfl) rfl).drew L) (unhide Q0) (((unhide Q2).setCell _ _ (unhide HSb)).drew) e3 e4 (by show _ = Value.int .i64 (s'.next + 1); go_num) (.inl rfl) e1 e2 hn q7
              case measure => omega
          · as_aux_lemma =>
              obtain ⟨r1, r2⟩ := right_reg (show rightB 2 a v nt nf = true from unhide HRT) (by omega)
              obtain ⟨r3, r4⟩ := right_b (show rightB 2 a v nt nf = true from unhide HRT) (by omega)
              go_wp2
              generalize hW2 : ((wr.setCell ⟨b, 25, none⟩ (.int .i64 (s'.fuel - 1))).alloc (.cells #[.int .i64 2, .int .i64 a, .int .i64 v] 70)) = W2 at *
              clear hW2
              have cr := (unhide H2).cell (10 + a.toNat) (by omega)
              have fr := (unhide H2).free (10 + a.toNat) (by omega)
              rw [limg_reg _ _ _ _ _ _ (by omega)] at cr
              have cv := (unhide H2).cell (10 + v.toNat) (by omega)
              rw [limg_reg _ _ _ _ _ _ (by omega)] at cv
              change W2.cell? _ = some (.int .i64 (s'.reg a.toNat)) at cr
              change W2.cell? _ = some (.int .i64 (s'.reg v.toNat)) at cv
              refine wp_region_held_drew (S := fun w' => w'.heap[wr.heap.size]? = some (.cells #[.int .i64 2, .int .i64 a, .int .i64 v] 70)) (by kernel_rfl) ?_ (fun hHeld => ?_)
              · exact unhide HPB
              refine wpAnyH_take (i := 0) (oi := { dst := some 56, op := Op.move (Operand.tmp 0), type := 177, pos := "run.go:218", after := #[], guard := none }) (v := ?_) rfl (by kernel_rfl) (by kernel_rfl) (by kernel_rfl) (fun _ _ _ h => h) (Or.inl ⟨by rfl, ?_⟩) (by assumption) ?_
              rotate_left
              · intro w hSw; have cP := fun j => cell_of_row w _ j _ 70 (0, 0) hSw; go_simp; try with_reducible rfl
              simp only [Act.put, List.setIfInBounds_toArray, List.set_cons_zero, List.set_cons_succ]
              refine wpAnyH_take (i := 1) (oi := { dst := some 57, op := Op.fieldAddr 70 (Operand.tmp 5) 1, type := 0, pos := "run.go:218", after := #[], guard := none }) (v := ?_) rfl (by kernel_rfl) (by kernel_rfl) (by kernel_rfl) (fun _ _ _ h => h) (Or.inl ⟨by rfl, ?_⟩) (by assumption) ?_
              rotate_left
              · intro w hSw; have cP := fun j => cell_of_row w _ j _ 70 (0, 0) hSw; go_simp; try with_reducible rfl
              simp only [Act.put, List.setIfInBounds_toArray, List.set_cons_zero, List.set_cons_succ]
              refine wpAnyH_take (i := 2) (oi := { dst := some 58, op := Op.load 3 (Operand.tmp 57), type := 3, pos := "run.go:218", after := #[{ on := 1, ground := Ground.data }], guard := none }) (v := ?_) rfl (by kernel_rfl) (by kernel_rfl) (by kernel_rfl) (fun _ _ _ h => h) (Or.inl ⟨by rfl, ?_⟩) (by assumption) ?_
              rotate_left
              · intro w hSw; have cP := fun j => cell_of_row w _ j _ 70 (0, 0) hSw; go_simp; try with_reducible rfl
              simp only [Act.put, List.setIfInBounds_toArray, List.set_cons_zero, List.set_cons_succ]
              refine wpAnyH_take (i := 3) (oi := { dst := some 59, op := Op.move (Operand.tmp 0), type := 177, pos := "run.go:218", after := #[], guard := none }) (v := ?_) rfl (by kernel_rfl) (by kernel_rfl) (by kernel_rfl) (fun _ _ _ h => h) (Or.inl ⟨by rfl, ?_⟩) (by assumption) ?_
              rotate_left
              · intro w hSw; have cP := fun j => cell_of_row w _ j _ 70 (0, 0) hSw; go_simp; try with_reducible rfl
              simp only [Act.put, List.setIfInBounds_toArray, List.set_cons_zero, List.set_cons_succ]
              refine wpAnyH_take (i := 4) (oi := { dst := some 60, op := Op.fieldAddr 70 (Operand.tmp 5) 1, type := 0, pos := "run.go:218", after := #[], guard := none }) (v := ?_) rfl (by kernel_rfl) (by kernel_rfl) (by kernel_rfl) (fun _ _ _ h => h) (Or.inl ⟨by rfl, ?_⟩) (by assumption) ?_
              rotate_left
              · intro w hSw; have cP := fun j => cell_of_row w _ j _ 70 (0, 0) hSw; go_simp; try with_reducible rfl
              simp only [Act.put, List.setIfInBounds_toArray, List.set_cons_zero, List.set_cons_succ]
              refine wpAnyH_take (i := 5) (oi := { dst := some 61, op := Op.load 3 (Operand.tmp 60), type := 3, pos := "run.go:218", after := #[{ on := 4, ground := Ground.data }], guard := none }) (v := ?_) rfl (by kernel_rfl) (by kernel_rfl) (by kernel_rfl) (fun _ _ _ h => h) (Or.inl ⟨by rfl, ?_⟩) (by assumption) ?_
              rotate_left
              · intro w hSw; have cP := fun j => cell_of_row w _ j _ 70 (0, 0) hSw; go_simp; try with_reducible rfl
              simp only [Act.put, List.setIfInBounds_toArray, List.set_cons_zero, List.set_cons_succ]
              refine wpAnyH_take (i := 6) (oi := { dst := some 62, op := Op.nilCheck (Operand.tmp 59), type := 0, pos := "run.go:218", after := #[{ on := 3, ground := Ground.data }], guard := none }) (v := ?_) rfl (by kernel_rfl) (by kernel_rfl) (by kernel_rfl) (fun _ _ _ h => h) (Or.inl ⟨by rfl, ?_⟩) (by assumption) ?_
              rotate_left
              · intro w hSw; have cP := fun j => cell_of_row w _ j _ 70 (0, 0) hSw; go_simp; try with_reducible rfl
              simp only [Act.put, List.setIfInBounds_toArray, List.set_cons_zero, List.set_cons_succ]
              refine wpAnyH_take (i := 7) (oi := { dst := some 63, op := Op.fieldAddr 180 (Operand.tmp 62) 5, type := 0, pos := "run.go:218", after := #[{ on := 6, ground := Ground.data }], guard := none }) (v := ?_) rfl (by kernel_rfl) (by kernel_rfl) (by kernel_rfl) (fun _ _ _ h => h) (Or.inl ⟨by rfl, ?_⟩) (by assumption) ?_
              rotate_left
              · intro w hSw; have cP := fun j => cell_of_row w _ j _ 70 (0, 0) hSw; go_simp; try with_reducible rfl
              simp only [Act.put, List.setIfInBounds_toArray, List.set_cons_zero, List.set_cons_succ]
              refine wpAnyH_take (i := 8) (oi := { dst := some 64, op := Op.indexAddr 35 (Operand.tmp 63) (Operand.tmp 61), type := 0, pos := "run.go:218", after := #[{ on := 7, ground := Ground.data }, { on := 5, ground := Ground.data }], guard := none }) (v := ?_) rfl (by kernel_rfl) (by kernel_rfl) (by kernel_rfl) (fun _ _ _ h => h) (Or.inl ⟨by rfl, ?_⟩) (by assumption) ?_
              rotate_left
              · intro w hSw; have cP := fun j => cell_of_row w _ j _ 70 (0, 0) hSw; go_simp; try with_reducible rfl
              simp only [Act.put, List.setIfInBounds_toArray, List.set_cons_zero, List.set_cons_succ]
              refine wpAnyH_take (i := 10) (oi := { dst := some 66, op := Op.move (Operand.tmp 0), type := 177, pos := "run.go:218", after := #[], guard := none }) (v := ?_) rfl (by kernel_rfl) (by kernel_rfl) (by kernel_rfl) (fun _ _ _ h => h) (Or.inl ⟨by rfl, ?_⟩) (by assumption) ?_
              rotate_left
              · intro w hSw; have cP := fun j => cell_of_row w _ j _ 70 (0, 0) hSw; go_simp; try with_reducible rfl
              simp only [Act.put, List.setIfInBounds_toArray, List.set_cons_zero, List.set_cons_succ]
              refine wpAnyH_take (i := 11) (oi := { dst := some 67, op := Op.fieldAddr 70 (Operand.tmp 5) 2, type := 0, pos := "run.go:218", after := #[], guard := none }) (v := ?_) rfl (by kernel_rfl) (by kernel_rfl) (by kernel_rfl) (fun _ _ _ h => h) (Or.inl ⟨by rfl, ?_⟩) (by assumption) ?_
              rotate_left
              · intro w hSw; have cP := fun j => cell_of_row w _ j _ 70 (0, 0) hSw; go_simp; try with_reducible rfl
              simp only [Act.put, List.setIfInBounds_toArray, List.set_cons_zero, List.set_cons_succ]
              refine wpAnyH_take (i := 12) (oi := { dst := some 68, op := Op.load 3 (Operand.tmp 67), type := 3, pos := "run.go:218", after := #[{ on := 11, ground := Ground.data }], guard := none }) (v := ?_) rfl (by kernel_rfl) (by kernel_rfl) (by kernel_rfl) (fun _ _ _ h => h) (Or.inl ⟨by rfl, ?_⟩) (by assumption) ?_
              rotate_left
              · intro w hSw; have cP := fun j => cell_of_row w _ j _ 70 (0, 0) hSw; go_simp; try with_reducible rfl
              simp only [Act.put, List.setIfInBounds_toArray, List.set_cons_zero, List.set_cons_succ]
              refine wpAnyH_take (i := 13) (oi := { dst := some 69, op := Op.nilCheck (Operand.tmp 66), type := 0, pos := "run.go:218", after := #[{ on := 10, ground := Ground.data }], guard := none }) (v := ?_) rfl (by kernel_rfl) (by kernel_rfl) (by kernel_rfl) (fun _ _ _ h => h) (Or.inl ⟨by rfl, ?_⟩) (by assumption) ?_
              rotate_left
              · intro w hSw; have cP := fun j => cell_of_row w _ j _ 70 (0, 0) hSw; go_simp; try with_reducible rfl
              simp only [Act.put, List.setIfInBounds_toArray, List.set_cons_zero, List.set_cons_succ]
              refine wpAnyH_take (i := 14) (oi := { dst := some 70, op := Op.fieldAddr 180 (Operand.tmp 69) 5, type := 0, pos := "run.go:218", after := #[{ on := 13, ground := Ground.data }], guard := none }) (v := ?_) rfl (by kernel_rfl) (by kernel_rfl) (by kernel_rfl) (fun _ _ _ h => h) (Or.inl ⟨by rfl, ?_⟩) (by assumption) ?_
              rotate_left
              · intro w hSw; have cP := fun j => cell_of_row w _ j _ 70 (0, 0) hSw; go_simp; try with_reducible rfl
              simp only [Act.put, List.setIfInBounds_toArray, List.set_cons_zero, List.set_cons_succ]
              refine wpAnyH_take (i := 15) (oi := { dst := some 71, op := Op.indexAddr 35 (Operand.tmp 70) (Operand.tmp 68), type := 0, pos := "run.go:218", after := #[{ on := 14, ground := Ground.data }, { on := 12, ground := Ground.data }], guard := none }) (v := ?_) rfl (by kernel_rfl) (by kernel_rfl) (by kernel_rfl) (fun _ _ _ h => h) (Or.inl ⟨by rfl, ?_⟩) (by assumption) ?_
              rotate_left
              · intro w hSw; have cP := fun j => cell_of_row w _ j _ 70 (0, 0) hSw; go_simp; try with_reducible rfl
              simp only [Act.put, List.setIfInBounds_toArray, List.set_cons_zero, List.set_cons_succ]
              refine wpAnyH_take (i := 18) (oi := { dst := some 74, op := Op.nilCheck (Operand.tmp 56), type := 0, pos := "run.go:218", after := #[{ on := 0, ground := Ground.data }], guard := none }) (v := ?_) rfl (by kernel_rfl) (by kernel_rfl) (by kernel_rfl) (fun _ _ _ h => h) (Or.inl ⟨by rfl, ?_⟩) (by assumption) ?_
              rotate_left
              · intro w hSw; have cP := fun j => cell_of_row w _ j _ 70 (0, 0) hSw; go_simp; try with_reducible rfl
              simp only [Act.put, List.setIfInBounds_toArray, List.set_cons_zero, List.set_cons_succ]
              refine wpAnyH_take (i := 19) (oi := { dst := some 75, op := Op.fieldAddr 180 (Operand.tmp 74) 5, type := 0, pos := "run.go:218", after := #[{ on := 18, ground := Ground.data }], guard := none }) (v := ?_) rfl (by kernel_rfl) (by kernel_rfl) (by kernel_rfl) (fun _ _ _ h => h) (Or.inl ⟨by rfl, ?_⟩) (by assumption) ?_
              rotate_left
              · intro w hSw; have cP := fun j => cell_of_row w _ j _ 70 (0, 0) hSw; go_simp; try with_reducible rfl
              simp only [Act.put, List.setIfInBounds_toArray, List.set_cons_zero, List.set_cons_succ]
              refine wpAnyH_ready (rs := [9, 16]) (by kernel_rfl) (by simp) ?_
              refine AllReadyH.cons (o := { dst := some 65, op := Op.load 2 (Operand.tmp 64), type := 2, pos := "run.go:218", after := #[{ on := 8, ground := Ground.data }], guard := none }) rfl (fun K' hK' => ?_) (AllReadyH.cons (o := { dst := some 72, op := Op.load 2 (Operand.tmp 71), type := 2, pos := "run.go:218", after := #[{ on := 15, ground := Ground.data }], guard := none }) rfl (fun K' hK' => ?_) AllReadyH.nil)
              · go_simp
                refine hK'.out _ _ ?_ (fun hHeld => ?_)
                · exact unhide HPB
                clear hK' K'
                try simp only [Act.put, List.setIfInBounds_toArray, List.set_cons_zero, List.set_cons_succ]
                refine wpAnyH_ready (rs := [16]) (by kernel_rfl) (by simp) ?_
                refine AllReadyH.cons (o := { dst := some 72, op := Op.load 2 (Operand.tmp 71), type := 2, pos := "run.go:218", after := #[{ on := 15, ground := Ground.data }], guard := none }) rfl (fun K' hK' => ?_) AllReadyH.nil
                go_simp
                refine hK'.out _ _ ?_ (fun hHeld => ?_)
                · exact unhide HPB
                clear hK' K'
                try simp only [Act.put, List.setIfInBounds_toArray, List.set_cons_zero, List.set_cons_succ]
                refine wpAnyH_take (i := 17) (oi := { dst := some 73, op := Op.binOp BinOp.add 2 (Operand.tmp 65) (Operand.tmp 72) 2, type := 2, pos := "run.go:218", after := #[{ on := 9, ground := Ground.data }, { on := 16, ground := Ground.data }], guard := none }) (v := ?_) rfl (by kernel_rfl) (by kernel_rfl) (by kernel_rfl) (fun _ _ _ h => h) (Or.inl ⟨by rfl, ?_⟩) (by assumption) ?_
                rotate_left
                · intro w hSw; have cP := fun j => cell_of_row w _ j _ 70 (0, 0) hSw; go_simp; try with_reducible rfl
                simp only [Act.put, List.setIfInBounds_toArray, List.set_cons_zero, List.set_cons_succ]
                refine wpAnyH_take (i := 20) (oi := { dst := some 76, op := Op.indexAddr 35 (Operand.tmp 75) (Operand.tmp 58), type := 0, pos := "run.go:218", after := #[{ on := 19, ground := Ground.data }, { on := 2, ground := Ground.data }, { on := 0, ground := Ground.phase }, { on := 1, ground := Ground.phase }, { on := 2, ground := Ground.phase }, { on := 3, ground := Ground.phase }, { on := 4, ground := Ground.phase }, { on := 5, ground := Ground.phase }, { on := 6, ground := Ground.phase }, { on := 7, ground := Ground.phase }, { on := 8, ground := Ground.phase }, { on := 9, ground := Ground.phase }, { on := 10, ground := Ground.phase }, { on := 11, ground := Ground.phase }, { on := 12, ground := Ground.phase }, { on := 13, ground := Ground.phase }, { on := 14, ground := Ground.phase }, { on := 15, ground := Ground.phase }, { on := 16, ground := Ground.phase }, { on := 17, ground := Ground.phase }], guard := none }) (v := ?_) rfl (by kernel_rfl) (by kernel_rfl) (by kernel_rfl) (fun _ _ _ h => h) (Or.inl ⟨by rfl, ?_⟩) (by assumption) ?_
                rotate_left
                · intro w hSw; have cP := fun j => cell_of_row w _ j _ 70 (0, 0) hSw; go_simp; try with_reducible rfl
                simp only [Act.put, List.setIfInBounds_toArray, List.set_cons_zero, List.set_cons_succ]
                refine wpAnyH_ready (rs := [21]) (by kernel_rfl) (by simp) ?_
                refine AllReadyH.cons (o := { dst := none, op := Op.store 2 (Operand.tmp 76) (Operand.tmp 73), type := 0, pos := "run.go:218", after := #[{ on := 20, ground := Ground.data }, { on := 17, ground := Ground.data }, { on := 0, ground := Ground.phase }, { on := 1, ground := Ground.phase }, { on := 2, ground := Ground.phase }, { on := 3, ground := Ground.phase }, { on := 4, ground := Ground.phase }, { on := 5, ground := Ground.phase }, { on := 6, ground := Ground.phase }, { on := 7, ground := Ground.phase }, { on := 8, ground := Ground.phase }, { on := 9, ground := Ground.phase }, { on := 10, ground := Ground.phase }, { on := 11, ground := Ground.phase }, { on := 12, ground := Ground.phase }, { on := 13, ground := Ground.phase }, { on := 14, ground := Ground.phase }, { on := 15, ground := Ground.phase }, { on := 16, ground := Ground.phase }, { on := 17, ground := Ground.phase }], guard := none }) rfl (fun K' hK' => ?_) AllReadyH.nil
                go_simp
                refine hK'.out _ _ ?_ (fun hHeld => ?_)
                · exact (Below.heap_setCell _ _ _ _ hnP).trans (unhide HPB)
                clear hK' K'
                try simp only [Act.put, List.setIfInBounds_toArray, List.set_cons_zero, List.set_cons_succ]
                refine wpAnyH_done (by kernel_rfl) ?_ _
                go_wp2
                go_roundg k'
                case rel =>
                  have e3 := unhide E
                  have e4 := unhide HNV
                  rw [show opM ask (2, a, v) { s' with fuel := s'.fuel - 1, next := s'.next + 1 } x' = ({ s' with fuel := s'.fuel - 1, next := s'.next + 1, reg := upd s'.reg a.toNat (wrap64 (s'.reg a.toNat + s'.reg v.toNat)) }, x') from by simp [opM]] at e3 e4
                  exact qrel_next (((unhide H2).set L (10 + a.toNat) (.int .i64 (wrap64 (s'.reg a.toNat + s'.reg v.toNat))) _ (by omega) (lset_reg a.toNat _ (by omega)) rfl ((unhide H2).rel.of rfl rfl) rfl).drew L) (unhide Q0) (((unhide Q2).setCell _ _ (unhide HSb)).drew) e3 e4 (by show _ = Value.int .i64 (s'.next + 1); go_num) (.inl rfl) e1 e2 hn q7
                case measure => omega
              · go_simp
                refine hK'.out _ _ ?_ (fun hHeld => ?_)
                · exact unhide HPB
                clear hK' K'
                try simp only [Act.put, List.setIfInBounds_toArray, List.set_cons_zero, List.set_cons_succ]
                refine wpAnyH_ready (rs := [9]) (by kernel_rfl) (by simp) ?_
                refine AllReadyH.cons (o := { dst := some 65, op := Op.load 2 (Operand.tmp 64), type := 2, pos := "run.go:218", after := #[{ on := 8, ground := Ground.data }], guard := none }) rfl (fun K' hK' => ?_) AllReadyH.nil
                go_simp
                refine hK'.out _ _ ?_ (fun hHeld => ?_)
                · exact unhide HPB
                clear hK' K'
                try simp only [Act.put, List.setIfInBounds_toArray, List.set_cons_zero, List.set_cons_succ]
                refine wpAnyH_take (i := 17) (oi := { dst := some 73, op := Op.binOp BinOp.add 2 (Operand.tmp 65) (Operand.tmp 72) 2, type := 2, pos := "run.go:218", after := #[{ on := 9, ground := Ground.data }, { on := 16, ground := Ground.data }], guard := none }) (v := ?_) rfl (by kernel_rfl) (by kernel_rfl) (by kernel_rfl) (fun _ _ _ h => h) (Or.inl ⟨by rfl, ?_⟩) (by assumption) ?_
                rotate_left
                · intro w hSw; have cP := fun j => cell_of_row w _ j _ 70 (0, 0) hSw; go_simp; try with_reducible rfl
                simp only [Act.put, List.setIfInBounds_toArray, List.set_cons_zero, List.set_cons_succ]
                refine wpAnyH_take (i := 20) (oi := { dst := some 76, op := Op.indexAddr 35 (Operand.tmp 75) (Operand.tmp 58), type := 0, pos := "run.go:218", after := #[{ on := 19, ground := Ground.data }, { on := 2, ground := Ground.data }, { on := 0, ground := Ground.phase }, { on := 1, ground := Ground.phase }, { on := 2, ground := Ground.phase }, { on := 3, ground := Ground.phase }, { on := 4, ground := Ground.phase }, { on := 5, ground := Ground.phase }, { on := 6, ground := Ground.phase }, { on := 7, ground := Ground.phase }, { on := 8, ground := Ground.phase }, { on := 9, ground := Ground.phase }, { on := 10, ground := Ground.phase }, { on := 11, ground := Ground.phase }, { on := 12, ground := Ground.phase }, { on := 13, ground := Ground.phase }, { on := 14, ground := Ground.phase }, { on := 15, ground := Ground.phase }, { on := 16, ground := Ground.phase }, { on := 17, ground := Ground.phase }], guard := none }) (v := ?_) rfl (by kernel_rfl) (by kernel_rfl) (by kernel_rfl) (fun _ _ _ h => h) (Or.inl ⟨by rfl, ?_⟩) (by assumption) ?_
                rotate_left
                · intro w hSw; have cP := fun j => cell_of_row w _ j _ 70 (0, 0) hSw; go_simp; try with_reducible rfl
                simp only [Act.put, List.setIfInBounds_toArray, List.set_cons_zero, List.set_cons_succ]
                refine wpAnyH_ready (rs := [21]) (by kernel_rfl) (by simp) ?_
                refine AllReadyH.cons (o := { dst := none, op := Op.store 2 (Operand.tmp 76) (Operand.tmp 73), type := 0, pos := "run.go:218", after := #[{ on := 20, ground := Ground.data }, { on := 17, ground := Ground.data }, { on := 0, ground := Ground.phase }, { on := 1, ground := Ground.phase }, { on := 2, ground := Ground.phase }, { on := 3, ground := Ground.phase }, { on := 4, ground := Ground.phase }, { on := 5, ground := Ground.phase }, { on := 6, ground := Ground.phase }, { on := 7, ground := Ground.phase }, { on := 8, ground := Ground.phase }, { on := 9, ground := Ground.phase }, { on := 10, ground := Ground.phase }, { on := 11, ground := Ground.phase }, { on := 12, ground := Ground.phase }, { on := 13, ground := Ground.phase }, { on := 14, ground := Ground.phase }, { on := 15, ground := Ground.phase }, { on := 16, ground := Ground.phase }, { on := 17, ground := Ground.phase }], guard := none }) rfl (fun K' hK' => ?_) AllReadyH.nil
                go_simp
                refine hK'.out _ _ ?_ (fun hHeld => ?_)
                · exact (Below.heap_setCell _ _ _ _ hnP).trans (unhide HPB)
                clear hK' K'
                try simp only [Act.put, List.setIfInBounds_toArray, List.set_cons_zero, List.set_cons_succ]
                refine wpAnyH_done (by kernel_rfl) ?_ _
                go_wp2
                go_roundg k'
                case rel =>
                  have e3 := unhide E
                  have e4 := unhide HNV
                  rw [show opM ask (2, a, v) { s' with fuel := s'.fuel - 1, next := s'.next + 1 } x' = ({ s' with fuel := s'.fuel - 1, next := s'.next + 1, reg := upd s'.reg a.toNat (wrap64 (s'.reg a.toNat + s'.reg v.toNat)) }, x') from by simp [opM]] at e3 e4
                  exact qrel_next (((unhide H2).set L (10 + a.toNat) (.int .i64 (wrap64 (s'.reg a.toNat + s'.reg v.toNat))) _ (by omega) (lset_reg a.toNat _ (by omega)) rfl ((unhide H2).rel.of rfl rfl) rfl).drew L) (unhide Q0) (((unhide Q2).setCell _ _ (unhide HSb)).drew) e3 e4 (by show _ = Value.int .i64 (s'.next + 1); go_num) (.inl rfl) e1 e2 hn q7
                case measure => omega
          · as_aux_lemma =>
              obtain ⟨r1, r2⟩ := right_tim (show rightB 3 a v nt nf = true from unhide HRT) (by omega)
              obtain ⟨r3, r4⟩ := right_b (show rightB 3 a v nt nf = true from unhide HRT) (by omega)
              go_wp2
              generalize hW2 : ((wr.setCell ⟨b, 25, none⟩ (.int .i64 (s'.fuel - 1))).alloc (.cells #[.int .i64 3, .int .i64 a, .int .i64 v] 70)) = W2 at *
              clear hW2
              have cv := (unhide H2).cell (10 + v.toNat) (by omega)
              rw [limg_reg _ _ _ _ _ _ (by omega)] at cv
              change W2.cell? _ = some (.int .i64 (s'.reg v.toNat)) at cv
              have HC := hide (armQ_any L ((unhide H2).drew L) a (s'.reg v.toNat) r1 (by omega) (by have := (unhide HQ).armings; have := (unhide HQ).fuel; show s'.armings ≤ 5000; omega) (unhide HQ).clock)
              refine wp_region_held_drew (S := fun w' => w'.heap[wr.heap.size]? = some (.cells #[.int .i64 3, .int .i64 a, .int .i64 v] 70)) (by kernel_rfl) ?_ (fun hHeld => ?_)
              · exact unhide HPB
              refine wpAnyH_take (i := 0) (oi := { dst := some 79, op := Op.move (Operand.tmp 0), type := 177, pos := "run.go:220", after := #[], guard := none }) (v := ?_) rfl (by kernel_rfl) (by kernel_rfl) (by kernel_rfl) (fun _ _ _ h => h) (Or.inl ⟨by rfl, ?_⟩) (by assumption) ?_
              rotate_left
              · intro w hSw; have cP := fun j => cell_of_row w _ j _ 70 (0, 0) hSw; go_simp; try with_reducible rfl
              simp only [Act.put, List.setIfInBounds_toArray, List.set_cons_zero, List.set_cons_succ]
              refine wpAnyH_take (i := 1) (oi := { dst := some 80, op := Op.fieldAddr 70 (Operand.tmp 5) 1, type := 0, pos := "run.go:220", after := #[], guard := none }) (v := ?_) rfl (by kernel_rfl) (by kernel_rfl) (by kernel_rfl) (fun _ _ _ h => h) (Or.inl ⟨by rfl, ?_⟩) (by assumption) ?_
              rotate_left
              · intro w hSw; have cP := fun j => cell_of_row w _ j _ 70 (0, 0) hSw; go_simp; try with_reducible rfl
              simp only [Act.put, List.setIfInBounds_toArray, List.set_cons_zero, List.set_cons_succ]
              refine wpAnyH_take (i := 2) (oi := { dst := some 81, op := Op.load 3 (Operand.tmp 80), type := 3, pos := "run.go:220", after := #[{ on := 1, ground := Ground.data }], guard := none }) (v := ?_) rfl (by kernel_rfl) (by kernel_rfl) (by kernel_rfl) (fun _ _ _ h => h) (Or.inl ⟨by rfl, ?_⟩) (by assumption) ?_
              rotate_left
              · intro w hSw; have cP := fun j => cell_of_row w _ j _ 70 (0, 0) hSw; go_simp; try with_reducible rfl
              simp only [Act.put, List.setIfInBounds_toArray, List.set_cons_zero, List.set_cons_succ]
              refine wpAnyH_take (i := 3) (oi := { dst := some 82, op := Op.move (Operand.tmp 0), type := 177, pos := "run.go:220", after := #[], guard := none }) (v := ?_) rfl (by kernel_rfl) (by kernel_rfl) (by kernel_rfl) (fun _ _ _ h => h) (Or.inl ⟨by rfl, ?_⟩) (by assumption) ?_
              rotate_left
              · intro w hSw; have cP := fun j => cell_of_row w _ j _ 70 (0, 0) hSw; go_simp; try with_reducible rfl
              simp only [Act.put, List.setIfInBounds_toArray, List.set_cons_zero, List.set_cons_succ]
              refine wpAnyH_take (i := 4) (oi := { dst := some 83, op := Op.fieldAddr 70 (Operand.tmp 5) 2, type := 0, pos := "run.go:220", after := #[], guard := none }) (v := ?_) rfl (by kernel_rfl) (by kernel_rfl) (by kernel_rfl) (fun _ _ _ h => h) (Or.inl ⟨by rfl, ?_⟩) (by assumption) ?_
              rotate_left
              · intro w hSw; have cP := fun j => cell_of_row w _ j _ 70 (0, 0) hSw; go_simp; try with_reducible rfl
              simp only [Act.put, List.setIfInBounds_toArray, List.set_cons_zero, List.set_cons_succ]
              refine wpAnyH_take (i := 5) (oi := { dst := some 84, op := Op.load 3 (Operand.tmp 83), type := 3, pos := "run.go:220", after := #[{ on := 4, ground := Ground.data }], guard := none }) (v := ?_) rfl (by kernel_rfl) (by kernel_rfl) (by kernel_rfl) (fun _ _ _ h => h) (Or.inl ⟨by rfl, ?_⟩) (by assumption) ?_
              rotate_left
              · intro w hSw; have cP := fun j => cell_of_row w _ j _ 70 (0, 0) hSw; go_simp; try with_reducible rfl
              simp only [Act.put, List.setIfInBounds_toArray, List.set_cons_zero, List.set_cons_succ]
              refine wpAnyH_take (i := 6) (oi := { dst := some 85, op := Op.nilCheck (Operand.tmp 82), type := 0, pos := "run.go:220", after := #[{ on := 3, ground := Ground.data }], guard := none }) (v := ?_) rfl (by kernel_rfl) (by kernel_rfl) (by kernel_rfl) (fun _ _ _ h => h) (Or.inl ⟨by rfl, ?_⟩) (by assumption) ?_
              rotate_left
              · intro w hSw; have cP := fun j => cell_of_row w _ j _ 70 (0, 0) hSw; go_simp; try with_reducible rfl
              simp only [Act.put, List.setIfInBounds_toArray, List.set_cons_zero, List.set_cons_succ]
              refine wpAnyH_take (i := 7) (oi := { dst := some 86, op := Op.fieldAddr 180 (Operand.tmp 85) 5, type := 0, pos := "run.go:220", after := #[{ on := 6, ground := Ground.data }], guard := none }) (v := ?_) rfl (by kernel_rfl) (by kernel_rfl) (by kernel_rfl) (fun _ _ _ h => h) (Or.inl ⟨by rfl, ?_⟩) (by assumption) ?_
              rotate_left
              · intro w hSw; have cP := fun j => cell_of_row w _ j _ 70 (0, 0) hSw; go_simp; try with_reducible rfl
              simp only [Act.put, List.setIfInBounds_toArray, List.set_cons_zero, List.set_cons_succ]
              refine wpAnyH_take (i := 8) (oi := { dst := some 87, op := Op.indexAddr 35 (Operand.tmp 86) (Operand.tmp 84), type := 0, pos := "run.go:220", after := #[{ on := 7, ground := Ground.data }, { on := 5, ground := Ground.data }], guard := none }) (v := ?_) rfl (by kernel_rfl) (by kernel_rfl) (by kernel_rfl) (fun _ _ _ h => h) (Or.inl ⟨by rfl, ?_⟩) (by assumption) ?_
              rotate_left
              · intro w hSw; have cP := fun j => cell_of_row w _ j _ 70 (0, 0) hSw; go_simp; try with_reducible rfl
              simp only [Act.put, List.setIfInBounds_toArray, List.set_cons_zero, List.set_cons_succ]
              refine wpAnyH_ready (rs := [9]) (by kernel_rfl) (by simp) ?_
              refine AllReadyH.cons (o := { dst := some 88, op := Op.load 2 (Operand.tmp 87), type := 2, pos := "run.go:220", after := #[{ on := 8, ground := Ground.data }], guard := none }) rfl (fun K' hK' => ?_) AllReadyH.nil
              go_simp
              refine hK'.out _ _ ?_ (fun hHeld => ?_)
              · exact unhide HPB
              clear hK' K'
              try simp only [Act.put, List.setIfInBounds_toArray, List.set_cons_zero, List.set_cons_succ]
              refine wpAnyH_ready (rs := [10]) (by kernel_rfl) (by simp) ?_
              refine AllReadyH.cons (o := { dst := some 89, op := Op.call { callee := Callee.value (Operand.func 139), args := #[Operand.tmp 79, Operand.tmp 81, Operand.tmp 88], argTypes := #[177, 3, 2] }, type := 0, pos := "run.go:220", after := #[{ on := 0, ground := Ground.data }, { on := 2, ground := Ground.data }, { on := 9, ground := Ground.data }], guard := none }) rfl (fun K' hK' => ?_) AllReadyH.nil
              go_simp
              go_at_call 139
              refine (unhide HC).mono ?_
              rintro e w3 ⟨rfl, S3, va3, p1, p2⟩
              have gg := (p2.same wr.heap.size hpl (unhide HPS)).trans (unhide HPB)
              have P1 := hide p1
              have P2 := hide p2
              clear p1 p2 HC
              refine hK'.out _ _ ?_ (fun hHeld => ?_)
              · exact gg
              clear hK' K'
              try simp only [Act.put, List.setIfInBounds_toArray, List.set_cons_zero, List.set_cons_succ]
              refine wpAnyH_done (by kernel_rfl) ?_ _
              go_wp2
              go_roundg k'
              case rel =>
                have e3 := unhide E
                have e4 := unhide HNV
                rw [show opM ask (3, a, v) { s' with fuel := s'.fuel - 1, next := s'.next + 1 } x' = ({ s' with fuel := s'.fuel - 1, next := s'.next + 1, armings := s'.armings + 1, tim := upd s'.tim a.toNat (true, s'.clock + min (max (s'.reg v.toNat) 0) (1099511627776 - s'.clock), s'.armings + 1, a) }, x') from by simp [opM]] at e3 e4
                exact qrel_next (unhide P1) (unhide Q0) (((unhide Q2).drew).trans (unhide P2)) e3 e4 (by show _ = Value.int .i64 (s'.next + 1); go_num) (.inl rfl) e1 e2 hn q7
              case measure => omega
          · as_aux_lemma =>
              obtain ⟨r1, r2⟩ := right_tim (show rightB 4 a v nt nf = true from unhide HRT) (by omega)
              have HC := hide (cancelQ_any L (unhide H2) a r1 (by have := (unhide HQ).armings; have := (unhide HQ).fuel; show s'.armings ≤ 5000; omega))
              go_wp2_with (go_at_call 140; refine (unhide HC).mono ?_; rintro e w3 ⟨rfl, S3, va3, p1, p2⟩; have P1 := hide p1; have P2 := hide p2; clear p1 p2 HC)
              go_roundg k'
              case rel =>
                have e3 := unhide E
                have e4 := unhide HNV
                rw [show opM ask (4, a, v) { s' with fuel := s'.fuel - 1, next := s'.next + 1 } x' = ({ s' with fuel := s'.fuel - 1, next := s'.next + 1, tim := upd s'.tim a.toNat (false, (s'.tim a.toNat).2) }, x') from by simp [opM]] at e3 e4
                exact qrel_next (unhide P1) (unhide Q0) (((unhide Q2)).trans (unhide P2)) e3 e4 (by show _ = Value.int .i64 (s'.next + 1); go_num) (.inl rfl) e1 e2 hn q7
              case measure => omega
          · as_aux_lemma =>
              obtain ⟨r1, r2⟩ := right_file (show rightB 5 a v nt nf = true from unhide HRT) (by omega)
              have r8 : a < 8 := by omega
              go_wp2
              generalize hW2 : ((wr.setCell ⟨b, 25, none⟩ (.int .i64 (s'.fuel - 1))).alloc (.cells #[.int .i64 5, .int .i64 a, .int .i64 v] 70)) = W2 at *
              clear hW2
              have cr := (unhide H2).cell (17 + a.toNat) (by omega)
              have fr := (unhide H2).free (17 + a.toNat) (by omega)
              rw [limg_wat _ _ _ _ _ _ (by omega)] at cr
              refine wp_region_held_drew (S := fun w' => w'.heap[wr.heap.size]? = some (.cells #[.int .i64 5, .int .i64 a, .int .i64 v] 70)) (by kernel_rfl) ?_ (fun hHeld => ?_)
              · exact unhide HPB
              refine wpAnyH_take (i := 0) (oi := { dst := some 98, op := Op.move (Operand.tmp 0), type := 177, pos := "run.go:224", after := #[], guard := none }) (v := ?_) rfl (by kernel_rfl) (by kernel_rfl) (by kernel_rfl) (fun _ _ _ h => h) (Or.inl ⟨by rfl, ?_⟩) (by assumption) ?_
              rotate_left
              · intro w hSw; have cP := fun j => cell_of_row w _ j _ 70 (0, 0) hSw; go_simp; try with_reducible rfl
              simp only [Act.put, List.setIfInBounds_toArray, List.set_cons_zero, List.set_cons_succ]
              refine wpAnyH_take (i := 1) (oi := { dst := some 99, op := Op.fieldAddr 70 (Operand.tmp 5) 1, type := 0, pos := "run.go:224", after := #[], guard := none }) (v := ?_) rfl (by kernel_rfl) (by kernel_rfl) (by kernel_rfl) (fun _ _ _ h => h) (Or.inl ⟨by rfl, ?_⟩) (by assumption) ?_
              rotate_left
              · intro w hSw; have cP := fun j => cell_of_row w _ j _ 70 (0, 0) hSw; go_simp; try with_reducible rfl
              simp only [Act.put, List.setIfInBounds_toArray, List.set_cons_zero, List.set_cons_succ]
              refine wpAnyH_take (i := 2) (oi := { dst := some 100, op := Op.load 3 (Operand.tmp 99), type := 3, pos := "run.go:224", after := #[{ on := 1, ground := Ground.data }], guard := none }) (v := ?_) rfl (by kernel_rfl) (by kernel_rfl) (by kernel_rfl) (fun _ _ _ h => h) (Or.inl ⟨by rfl, ?_⟩) (by assumption) ?_
              rotate_left
              · intro w hSw; have cP := fun j => cell_of_row w _ j _ 70 (0, 0) hSw; go_simp; try with_reducible rfl
              simp only [Act.put, List.setIfInBounds_toArray, List.set_cons_zero, List.set_cons_succ]
              refine wpAnyH_take (i := 3) (oi := { dst := some 101, op := Op.nilCheck (Operand.tmp 98), type := 0, pos := "run.go:224", after := #[{ on := 0, ground := Ground.data }], guard := none }) (v := ?_) rfl (by kernel_rfl) (by kernel_rfl) (by kernel_rfl) (fun _ _ _ h => h) (Or.inl ⟨by rfl, ?_⟩) (by assumption) ?_
              rotate_left
              · intro w hSw; have cP := fun j => cell_of_row w _ j _ 70 (0, 0) hSw; go_simp; try with_reducible rfl
              simp only [Act.put, List.setIfInBounds_toArray, List.set_cons_zero, List.set_cons_succ]
              refine wpAnyH_take (i := 4) (oi := { dst := some 102, op := Op.fieldAddr 180 (Operand.tmp 101) 9, type := 0, pos := "run.go:224", after := #[{ on := 3, ground := Ground.data }], guard := none }) (v := ?_) rfl (by kernel_rfl) (by kernel_rfl) (by kernel_rfl) (fun _ _ _ h => h) (Or.inl ⟨by rfl, ?_⟩) (by assumption) ?_
              rotate_left
              · intro w hSw; have cP := fun j => cell_of_row w _ j _ 70 (0, 0) hSw; go_simp; try with_reducible rfl
              simp only [Act.put, List.setIfInBounds_toArray, List.set_cons_zero, List.set_cons_succ]
              refine wpAnyH_take (i := 5) (oi := { dst := some 103, op := Op.indexAddr 128 (Operand.tmp 102) (Operand.tmp 100), type := 0, pos := "run.go:224", after := #[{ on := 4, ground := Ground.data }, { on := 2, ground := Ground.data }, { on := 0, ground := Ground.phase }, { on := 1, ground := Ground.phase }, { on := 2, ground := Ground.phase }], guard := none }) (v := ?_) rfl (by kernel_rfl) (by kernel_rfl) (by kernel_rfl) (fun _ _ _ h => h) (Or.inl ⟨by rfl, ?_⟩) (by assumption) ?_
              rotate_left
              · intro w hSw; have cP := fun j => cell_of_row w _ j _ 70 (0, 0) hSw; go_simp; try with_reducible rfl
              simp only [Act.put, List.setIfInBounds_toArray, List.set_cons_zero, List.set_cons_succ]
              refine wpAnyH_ready (rs := [6]) (by kernel_rfl) (by simp) ?_
              refine AllReadyH.cons (o := { dst := none, op := Op.store 4 (Operand.tmp 103) (Operand.const (Value.bool true)), type := 0, pos := "run.go:224", after := #[{ on := 5, ground := Ground.data }, { on := 0, ground := Ground.phase }, { on := 1, ground := Ground.phase }, { on := 2, ground := Ground.phase }], guard := none }) rfl (fun K' hK' => ?_) AllReadyH.nil
              go_simp
              refine hK'.out _ _ ?_ (fun hHeld => ?_)
              · exact (Below.heap_setCell _ _ _ _ hnP).trans (unhide HPB)
              clear hK' K'
              try simp only [Act.put, List.setIfInBounds_toArray, List.set_cons_zero, List.set_cons_succ]
              refine wpAnyH_done (by kernel_rfl) ?_ _
              go_wp2
              go_roundg k'
              case rel =>
                have e3 := unhide E
                have e4 := unhide HNV
                rw [show opM ask (5, a, v) { s' with fuel := s'.fuel - 1, next := s'.next + 1 } x' = ({ s' with fuel := s'.fuel - 1, next := s'.next + 1, wat := upd s'.wat a.toNat true }, x') from by simp [opM]] at e3 e4
                exact qrel_next (((unhide H2).set L (17 + a.toNat) (.bool true) _ (by omega) (lset_wat a.toNat true (by omega)) rfl ((unhide H2).rel.of rfl rfl) rfl).drew L) (unhide Q0) (((unhide Q2).setCell _ _ (unhide HSb)).drew) e3 e4 (by show _ = Value.int .i64 (s'.next + 1); go_num) (.inl rfl) e1 e2 hn q7
              case measure => omega
          · as_aux_lemma =>
              obtain ⟨r1, r2⟩ := right_file (show rightB 6 a v nt nf = true from unhide HRT) (by omega)
              have r8 : a < 8 := by omega
              go_wp2
              generalize hW2 : ((wr.setCell ⟨b, 25, none⟩ (.int .i64 (s'.fuel - 1))).alloc (.cells #[.int .i64 6, .int .i64 a, .int .i64 v] 70)) = W2 at *
              clear hW2
              have cr := (unhide H2).cell (17 + a.toNat) (by omega)
              have fr := (unhide H2).free (17 + a.toNat) (by omega)
              rw [limg_wat _ _ _ _ _ _ (by omega)] at cr
              refine wp_region_held_drew (S := fun w' => w'.heap[wr.heap.size]? = some (.cells #[.int .i64 6, .int .i64 a, .int .i64 v] 70)) (by kernel_rfl) ?_ (fun hHeld => ?_)
              · exact unhide HPB
              refine wpAnyH_take (i := 0) (oi := { dst := some 106, op := Op.move (Operand.tmp 0), type := 177, pos := "run.go:226", after := #[], guard := none }) (v := ?_) rfl (by kernel_rfl) (by kernel_rfl) (by kernel_rfl) (fun _ _ _ h => h) (Or.inl ⟨by rfl, ?_⟩) (by assumption) ?_
              rotate_left
              · intro w hSw; have cP := fun j => cell_of_row w _ j _ 70 (0, 0) hSw; go_simp; try with_reducible rfl
              simp only [Act.put, List.setIfInBounds_toArray, List.set_cons_zero, List.set_cons_succ]
              refine wpAnyH_take (i := 1) (oi := { dst := some 107, op := Op.fieldAddr 70 (Operand.tmp 5) 1, type := 0, pos := "run.go:226", after := #[], guard := none }) (v := ?_) rfl (by kernel_rfl) (by kernel_rfl) (by kernel_rfl) (fun _ _ _ h => h) (Or.inl ⟨by rfl, ?_⟩) (by assumption) ?_
              rotate_left
              · intro w hSw; have cP := fun j => cell_of_row w _ j _ 70 (0, 0) hSw; go_simp; try with_reducible rfl
              simp only [Act.put, List.setIfInBounds_toArray, List.set_cons_zero, List.set_cons_succ]
              refine wpAnyH_take (i := 2) (oi := { dst := some 108, op := Op.load 3 (Operand.tmp 107), type := 3, pos := "run.go:226", after := #[{ on := 1, ground := Ground.data }], guard := none }) (v := ?_) rfl (by kernel_rfl) (by kernel_rfl) (by kernel_rfl) (fun _ _ _ h => h) (Or.inl ⟨by rfl, ?_⟩) (by assumption) ?_
              rotate_left
              · intro w hSw; have cP := fun j => cell_of_row w _ j _ 70 (0, 0) hSw; go_simp; try with_reducible rfl
              simp only [Act.put, List.setIfInBounds_toArray, List.set_cons_zero, List.set_cons_succ]
              refine wpAnyH_take (i := 3) (oi := { dst := some 109, op := Op.nilCheck (Operand.tmp 106), type := 0, pos := "run.go:226", after := #[{ on := 0, ground := Ground.data }], guard := none }) (v := ?_) rfl (by kernel_rfl) (by kernel_rfl) (by kernel_rfl) (fun _ _ _ h => h) (Or.inl ⟨by rfl, ?_⟩) (by assumption) ?_
              rotate_left
              · intro w hSw; have cP := fun j => cell_of_row w _ j _ 70 (0, 0) hSw; go_simp; try with_reducible rfl
              simp only [Act.put, List.setIfInBounds_toArray, List.set_cons_zero, List.set_cons_succ]
              refine wpAnyH_take (i := 4) (oi := { dst := some 110, op := Op.fieldAddr 180 (Operand.tmp 109) 9, type := 0, pos := "run.go:226", after := #[{ on := 3, ground := Ground.data }], guard := none }) (v := ?_) rfl (by kernel_rfl) (by kernel_rfl) (by kernel_rfl) (fun _ _ _ h => h) (Or.inl ⟨by rfl, ?_⟩) (by assumption) ?_
              rotate_left
              · intro w hSw; have cP := fun j => cell_of_row w _ j _ 70 (0, 0) hSw; go_simp; try with_reducible rfl
              simp only [Act.put, List.setIfInBounds_toArray, List.set_cons_zero, List.set_cons_succ]
              refine wpAnyH_take (i := 5) (oi := { dst := some 111, op := Op.indexAddr 128 (Operand.tmp 110) (Operand.tmp 108), type := 0, pos := "run.go:226", after := #[{ on := 4, ground := Ground.data }, { on := 2, ground := Ground.data }, { on := 0, ground := Ground.phase }, { on := 1, ground := Ground.phase }, { on := 2, ground := Ground.phase }], guard := none }) (v := ?_) rfl (by kernel_rfl) (by kernel_rfl) (by kernel_rfl) (fun _ _ _ h => h) (Or.inl ⟨by rfl, ?_⟩) (by assumption) ?_
              rotate_left
              · intro w hSw; have cP := fun j => cell_of_row w _ j _ 70 (0, 0) hSw; go_simp; try with_reducible rfl
              simp only [Act.put, List.setIfInBounds_toArray, List.set_cons_zero, List.set_cons_succ]
              refine wpAnyH_ready (rs := [6]) (by kernel_rfl) (by simp) ?_
              refine AllReadyH.cons (o := { dst := none, op := Op.store 4 (Operand.tmp 111) (Operand.const (Value.bool false)), type := 0, pos := "run.go:226", after := #[{ on := 5, ground := Ground.data }, { on := 0, ground := Ground.phase }, { on := 1, ground := Ground.phase }, { on := 2, ground := Ground.phase }], guard := none }) rfl (fun K' hK' => ?_) AllReadyH.nil
              go_simp
              refine hK'.out _ _ ?_ (fun hHeld => ?_)
              · exact (Below.heap_setCell _ _ _ _ hnP).trans (unhide HPB)
              clear hK' K'
              try simp only [Act.put, List.setIfInBounds_toArray, List.set_cons_zero, List.set_cons_succ]
              refine wpAnyH_done (by kernel_rfl) ?_ _
              go_wp2
              go_roundg k'
              case rel =>
                have e3 := unhide E
                have e4 := unhide HNV
                rw [show opM ask (6, a, v) { s' with fuel := s'.fuel - 1, next := s'.next + 1 } x' = ({ s' with fuel := s'.fuel - 1, next := s'.next + 1, wat := upd s'.wat a.toNat false }, x') from by simp [opM]] at e3 e4
                exact qrel_next (((unhide H2).set L (17 + a.toNat) (.bool false) _ (by omega) (lset_wat a.toNat false (by omega)) rfl ((unhide H2).rel.of rfl rfl) rfl).drew L) (unhide Q0) (((unhide Q2).setCell _ _ (unhide HSb)).drew) e3 e4 (by show _ = Value.int .i64 (s'.next + 1); go_num) (.inl rfl) e1 e2 hn q7
              case measure => omega
          · as_aux_lemma =>
              obtain ⟨r1, r2⟩ := right_reg (show rightB 7 a v nt nf = true from unhide HRT) (by omega)
              have hc := clockQ_any L K (unhide H2) (unhide HFI) hm
              obtain ⟨R, x2, hR⟩ : ∃ R x2, ask x' 1 0 = (R, x2) := ⟨_, _, rfl⟩
              rw [hR] at hc
              dsimp only at hc
              by_cases hB : ckB { s' with fuel := s'.fuel - 1, next := s'.next + 1 } R = true
              · have hck : ckS { s' with fuel := s'.fuel - 1, next := s'.next + 1 } R = { s' with fuel := s'.fuel - 1, next := s'.next + 1, heard := wrap64 (s'.heard + 1), clock := R.n } := by
                  have hb2 := hB
                  unfold ckB at hb2
                  simp only [Bool.and_eq_true, decide_eq_true_eq, Bool.not_eq_true', decide_eq_false_iff_not] at hb2
                  unfold ckS
                  rw [if_pos hb2.1, if_neg hb2.2]
                rw [hck] at hc
                have HC := hide hc
                have HCK := hide hck
                have HRR := hide hR
                have HBB := hide hB
                clear hc hck hR hB
                go_wp2_with fail
                go_at_call 127
                refine (unhide HC).mono ?_
                rintro e w3 ⟨rfl, S3, pv3, T3, p1, p0, p2⟩
                have P1 := hide p1
                have P2 := hide p2
                have P0q := hide (show ∀ i, i < 3 → pv3 i = pv i from fun i hi => (p0 i hi).trans (unhide Q0 i hi))
                have gg := (p2.same wr.heap.size hpl (unhide HPS)).trans (unhide HPB)
                have k27 : w3.cell? ⟨b, 27, none⟩ = some (.int .i64 0) := (p1.cell 27 (by omega)).trans (by rw [limg_fin]; exact congrArg (fun z => some (Value.int .i64 z)) (unhide HFI))
                have k14 := (p1.cell 14 (by omega)).trans (by rw [limg_clock])
                change w3.cell? _ = some (.int .i64 R.n) at k14
                have cr := (p1.cell (10 + a.toNat) (by omega)).trans (by rw [limg_reg _ _ _ _ _ _ (by omega)])
                have fr := p1.free (10 + a.toNat) (by omega)
                have hb3 := p1.blt
                clear p1 p2 p0 HC
                go_wp2
                refine wp_region_held_drew (S := fun w' => w'.heap[wr.heap.size]? = some (.cells #[.int .i64 7, .int .i64 a, .int .i64 v] 70) ∧ w'.cell? ⟨b, 14, none⟩ = some (.int .i64 R.n)) (by kernel_rfl) ?_ (fun hHeld => ?_)
                · exact ⟨gg, k14⟩
                refine wpAnyH_take (i := 0) (oi := { dst := some 121, op := Op.move (Operand.tmp 0), type := 177, pos := "run.go:230", after := #[], guard := none }) (v := ?_) rfl (by kernel_rfl) (by kernel_rfl) (by kernel_rfl) (fun _ _ _ h => h) (Or.inl ⟨by rfl, ?_⟩) (by assumption) ?_
                rotate_left
                · intro w hSw; obtain ⟨hS1, hS2⟩ := hSw; have cP := fun j => cell_of_row w _ j _ 70 (0, 0) hS1; go_simp; try with_reducible rfl
                simp only [Act.put, List.setIfInBounds_toArray, List.set_cons_zero, List.set_cons_succ]
                refine wpAnyH_take (i := 1) (oi := { dst := some 122, op := Op.fieldAddr 70 (Operand.tmp 5) 1, type := 0, pos := "run.go:230", after := #[], guard := none }) (v := ?_) rfl (by kernel_rfl) (by kernel_rfl) (by kernel_rfl) (fun _ _ _ h => h) (Or.inl ⟨by rfl, ?_⟩) (by assumption) ?_
                rotate_left
                · intro w hSw; obtain ⟨hS1, hS2⟩ := hSw; have cP := fun j => cell_of_row w _ j _ 70 (0, 0) hS1; go_simp; try with_reducible rfl
                simp only [Act.put, List.setIfInBounds_toArray, List.set_cons_zero, List.set_cons_succ]
                refine wpAnyH_take (i := 2) (oi := { dst := some 123, op := Op.load 3 (Operand.tmp 122), type := 3, pos := "run.go:230", after := #[{ on := 1, ground := Ground.data }], guard := none }) (v := ?_) rfl (by kernel_rfl) (by kernel_rfl) (by kernel_rfl) (fun _ _ _ h => h) (Or.inl ⟨by rfl, ?_⟩) (by assumption) ?_
                rotate_left
                · intro w hSw; obtain ⟨hS1, hS2⟩ := hSw; have cP := fun j => cell_of_row w _ j _ 70 (0, 0) hS1; go_simp; try with_reducible rfl
                simp only [Act.put, List.setIfInBounds_toArray, List.set_cons_zero, List.set_cons_succ]
                refine wpAnyH_take (i := 3) (oi := { dst := some 124, op := Op.move (Operand.tmp 0), type := 177, pos := "run.go:230", after := #[], guard := none }) (v := ?_) rfl (by kernel_rfl) (by kernel_rfl) (by kernel_rfl) (fun _ _ _ h => h) (Or.inl ⟨by rfl, ?_⟩) (by assumption) ?_
                rotate_left
                · intro w hSw; obtain ⟨hS1, hS2⟩ := hSw; have cP := fun j => cell_of_row w _ j _ 70 (0, 0) hS1; go_simp; try with_reducible rfl
                simp only [Act.put, List.setIfInBounds_toArray, List.set_cons_zero, List.set_cons_succ]
                refine wpAnyH_take (i := 4) (oi := { dst := some 125, op := Op.nilCheck (Operand.tmp 124), type := 0, pos := "run.go:230", after := #[{ on := 3, ground := Ground.data }], guard := none }) (v := ?_) rfl (by kernel_rfl) (by kernel_rfl) (by kernel_rfl) (fun _ _ _ h => h) (Or.inl ⟨by rfl, ?_⟩) (by assumption) ?_
                rotate_left
                · intro w hSw; obtain ⟨hS1, hS2⟩ := hSw; have cP := fun j => cell_of_row w _ j _ 70 (0, 0) hS1; go_simp; try with_reducible rfl
                simp only [Act.put, List.setIfInBounds_toArray, List.set_cons_zero, List.set_cons_succ]
                refine wpAnyH_take (i := 5) (oi := { dst := some 126, op := Op.fieldAddr 180 (Operand.tmp 125) 6, type := 0, pos := "run.go:230", after := #[{ on := 4, ground := Ground.data }], guard := none }) (v := ?_) rfl (by kernel_rfl) (by kernel_rfl) (by kernel_rfl) (fun _ _ _ h => h) (Or.inl ⟨by rfl, ?_⟩) (by assumption) ?_
                rotate_left
                · intro w hSw; obtain ⟨hS1, hS2⟩ := hSw; have cP := fun j => cell_of_row w _ j _ 70 (0, 0) hS1; go_simp; try with_reducible rfl
                simp only [Act.put, List.setIfInBounds_toArray, List.set_cons_zero, List.set_cons_succ]
                refine wpAnyH_take (i := 6) (oi := { dst := some 127, op := Op.load 3 (Operand.tmp 126), type := 3, pos := "run.go:230", after := #[{ on := 5, ground := Ground.data }], guard := none }) (v := ?_) rfl (by kernel_rfl) (by kernel_rfl) (by kernel_rfl) (fun _ _ _ h => h) (Or.inl ⟨by rfl, ?_⟩) (by assumption) ?_
                rotate_left
                · intro w hSw; obtain ⟨hS1, hS2⟩ := hSw; have cP := fun j => cell_of_row w _ j _ 70 (0, 0) hS1; go_simp; try with_reducible rfl
                simp only [Act.put, List.setIfInBounds_toArray, List.set_cons_zero, List.set_cons_succ]
                refine wpAnyH_take (i := 7) (oi := { dst := some 128, op := Op.nilCheck (Operand.tmp 121), type := 0, pos := "run.go:230", after := #[{ on := 0, ground := Ground.data }], guard := none }) (v := ?_) rfl (by kernel_rfl) (by kernel_rfl) (by kernel_rfl) (fun _ _ _ h => h) (Or.inl ⟨by rfl, ?_⟩) (by assumption) ?_
                rotate_left
                · intro w hSw; obtain ⟨hS1, hS2⟩ := hSw; have cP := fun j => cell_of_row w _ j _ 70 (0, 0) hS1; go_simp; try with_reducible rfl
                simp only [Act.put, List.setIfInBounds_toArray, List.set_cons_zero, List.set_cons_succ]
                refine wpAnyH_take (i := 8) (oi := { dst := some 129, op := Op.fieldAddr 180 (Operand.tmp 128) 5, type := 0, pos := "run.go:230", after := #[{ on := 7, ground := Ground.data }], guard := none }) (v := ?_) rfl (by kernel_rfl) (by kernel_rfl) (by kernel_rfl) (fun _ _ _ h => h) (Or.inl ⟨by rfl, ?_⟩) (by assumption) ?_
                rotate_left
                · intro w hSw; obtain ⟨hS1, hS2⟩ := hSw; have cP := fun j => cell_of_row w _ j _ 70 (0, 0) hS1; go_simp; try with_reducible rfl
                simp only [Act.put, List.setIfInBounds_toArray, List.set_cons_zero, List.set_cons_succ]
                refine wpAnyH_take (i := 9) (oi := { dst := some 130, op := Op.indexAddr 35 (Operand.tmp 129) (Operand.tmp 123), type := 0, pos := "run.go:230", after := #[{ on := 8, ground := Ground.data }, { on := 2, ground := Ground.data }, { on := 0, ground := Ground.phase }, { on := 1, ground := Ground.phase }, { on := 2, ground := Ground.phase }, { on := 3, ground := Ground.phase }, { on := 4, ground := Ground.phase }, { on := 5, ground := Ground.phase }, { on := 6, ground := Ground.phase }], guard := none }) (v := ?_) rfl (by kernel_rfl) (by kernel_rfl) (by kernel_rfl) (fun _ _ _ h => h) (Or.inl ⟨by rfl, ?_⟩) (by assumption) ?_
                rotate_left
                · intro w hSw; obtain ⟨hS1, hS2⟩ := hSw; have cP := fun j => cell_of_row w _ j _ 70 (0, 0) hS1; go_simp; try with_reducible rfl
                simp only [Act.put, List.setIfInBounds_toArray, List.set_cons_zero, List.set_cons_succ]
                refine wpAnyH_ready (rs := [10]) (by kernel_rfl) (by simp) ?_
                refine AllReadyH.cons (o := { dst := none, op := Op.store 2 (Operand.tmp 130) (Operand.tmp 127), type := 0, pos := "run.go:230", after := #[{ on := 9, ground := Ground.data }, { on := 6, ground := Ground.data }, { on := 0, ground := Ground.phase }, { on := 1, ground := Ground.phase }, { on := 2, ground := Ground.phase }, { on := 3, ground := Ground.phase }, { on := 4, ground := Ground.phase }, { on := 5, ground := Ground.phase }, { on := 6, ground := Ground.phase }], guard := none }) rfl (fun K' hK' => ?_) AllReadyH.nil
                go_simp
                refine hK'.out _ _ ?_ (fun hHeld => ?_)
                · exact ⟨(Below.heap_setCell _ _ _ _ hnP).trans gg, (((unhide P1).cells.set (10 + a.toNat) (.int .i64 R.n) (by omega)) 14 (by omega)).1.trans (by unfold setC; rw [if_neg (by omega), limg_clock])⟩
                clear hK' K'
                try simp only [Act.put, List.setIfInBounds_toArray, List.set_cons_zero, List.set_cons_succ]
                refine wpAnyH_done (by kernel_rfl) ?_ _
                go_wp2
                go_roundg k'
                case rel =>
                  have e3 := unhide E
                  have e4 := unhide HNV
                  rw [show opM ask (7, a, v) { s' with fuel := s'.fuel - 1, next := s'.next + 1 } x' = ({ s' with fuel := s'.fuel - 1, next := s'.next + 1, heard := wrap64 (s'.heard + 1), clock := R.n, reg := upd s'.reg a.toNat R.n }, x2) from by simp only [opM, unhide HRR]; simp only [unhide HBB]; simp [unhide HCK]] at e3 e4
                  exact qrel_next (((unhide P1).set L (10 + a.toNat) (.int .i64 R.n) _ (by omega) (lset_reg a.toNat R.n (by omega)) rfl ((unhide P1).rel.of rfl rfl) rfl).drew L) (unhide P0q) ((((unhide Q2).trans (unhide P2)).setCell _ _ (unhide HSb)).drew) e3 e4 (by show _ = Value.int .i64 (s'.next + 1); go_num) (.inl rfl) e1 e2 hn q7
                case measure => omega
              · have hnx : (ckS { s' with fuel := s'.fuel - 1, next := s'.next + 1 } R).next = s'.next + 1 := ckS_next _ _
                have hne : (ckS { s' with fuel := s'.fuel - 1, next := s'.next + 1 } R).fin ≠ 0 := by
                  unfold ckB at hB
                  unfold ckS
                  by_cases he : R.e = 0
                  · by_cases hl : R.n < s'.clock
                    · rw [if_pos he, if_pos hl]; show (4 : Int) ≠ 0; omega
                    · refine absurd ?_ hB; simp [he]; exact Int.not_lt.1 hl
                  · rw [if_neg he]; exact he
                have hop : opM ask (7, a, v) { s' with fuel := s'.fuel - 1, next := s'.next + 1 } x' = (ckS { s' with fuel := s'.fuel - 1, next := s'.next + 1 } R, x2) := by
                  simp only [opM, hR]
                  simp [hB]
                generalize hsk : ckS { s' with fuel := s'.fuel - 1, next := s'.next + 1 } R = sk at *
                have hnb : (sk.fin == 0) = false := by simpa using hne
                have HC := hide hc
                have HOP := hide hop
                have HNXX := hide hnx
                clear hc hR hB hsk hop hnx
                go_wp2_with fail
                go_at_call 127
                refine (unhide HC).mono ?_
                rintro e w3 ⟨rfl, S3, pv3, T3, p1, p0, p2⟩
                have P1 := hide p1
                have P2 := hide p2
                have P0q := hide (show ∀ i, i < 3 → pv3 i = pv i from fun i hi => (p0 i hi).trans (unhide Q0 i hi))
                have k27 := (p1.cell 27 (by omega)).trans (by rw [limg_fin])
                clear p1 p2 p0 HC
                go_wp2
                go_roundg k'
                case rel =>
                  have e3 := unhide E
                  have e4 := unhide HNV
                  rw [unhide HOP] at e3 e4
                  exact qrel_next (unhide P1) (unhide P0q) ((unhide Q2).trans (unhide P2)) e3 e4 (by rw [unhide HNXX]) (.inl (unhide HNXX)) e1 e2 hn q7
                case measure => omega
          · as_aux_lemma =>
              obtain ⟨r1, r2⟩ := right_reg (show rightB 8 a v nt nf = true from unhide HRT) (by omega)
              obtain ⟨r3, r4⟩ := right_lot (show rightB 8 a v nt nf = true from unhide HRT)
              have hc := K.calls (unhide H2) (unhide HFI) (hm4 v r3 r4)
              obtain ⟨R, x2, hR⟩ : ∃ R x2, ask x' 4 v = (R, x2) := ⟨_, _, rfl⟩
              rw [hR] at hc
              dsimp only at hc
              by_cases he : R.e = 0
              · have hhs : hearS { s' with fuel := s'.fuel - 1, next := s'.next + 1 } R = { s' with fuel := s'.fuel - 1, next := s'.next + 1, heard := wrap64 (s'.heard + 1) } := by unfold hearS; rw [if_pos he]
                have hop : opM ask (8, a, v) { s' with fuel := s'.fuel - 1, next := s'.next + 1 } x' = ({ s' with fuel := s'.fuel - 1, next := s'.next + 1, heard := wrap64 (s'.heard + 1), reg := upd s'.reg a.toNat R.n }, x2) := by
                  simp only [opM, hR]
                  simp [lotS, he]
                rw [hhs] at hc
                have HC := hide hc
                have HOP := hide hop
                have HE := hide he
                clear hc hhs hR hop he
                go_wp2_with fail
                go_at_call 141
                refine (unhide HC).mono ?_
                rintro e w3 ⟨kd, of_, rn, fa, fl, fc, rfl, ⟨S3, pv3, T3, p1, p0, p2⟩, hn3⟩
                obtain ⟨hn4, _⟩ := hn3 (unhide HE)
                subst hn4
                have p1a := p1.alloc L (.cells #[.int .i64 kd, .int .i64 of_, .int .i64 R.n, .slice fa fl fc] 49)
                have P1 := hide p1a
                have P2 := hide (p2.alloc (.cells #[.int .i64 kd, .int .i64 of_, .int .i64 R.n, .slice fa fl fc] 49))
                have P0q := hide (show ∀ i, i < 3 → pv3 i = pv i from fun i hi => (p0 i hi).trans (unhide Q0 i hi))
                have hb3 := p1.blt
                have gg := (Below.heap_alloc w3 (.cells #[.int .i64 kd, .int .i64 of_, .int .i64 R.n, .slice fa fl fc] 49) _ (Nat.lt_of_lt_of_le hpl p2.size)).trans ((p2.same wr.heap.size hpl (unhide HPS)).trans (unhide HPB))
                have g49 := heap_alloc_new w3 (.cells #[.int .i64 kd, .int .i64 of_, .int .i64 R.n, .slice fa fl fc] 49)
                have k27 : w3.cell? ⟨b, 27, none⟩ = some (.int .i64 0) := (p1.cell 27 (by omega)).trans (by rw [limg_fin]; exact congrArg (fun z => some (Value.int .i64 z)) (unhide HFI))
                have hn5 : w3.heap.size ≠ b := by omega
                have hn6 : ¬ b = w3.heap.size := by omega
                clear p1 p1a p2 p0 HC hn3
                go_wp2
                generalize hW3 : w3.alloc (.cells #[.int .i64 kd, .int .i64 of_, .int .i64 R.n, .slice fa fl fc] 49) = W3 at *
                clear hW3
                have cr := ((unhide P1).cell (10 + a.toNat) (by omega)).trans (by rw [limg_reg _ _ _ _ _ _ (by omega)])
                have fr := (unhide P1).free (10 + a.toNat) (by omega)
                refine wp_region_held_drew (S := fun w' => w'.heap[wr.heap.size]? = some (.cells #[.int .i64 8, .int .i64 a, .int .i64 v] 70) ∧ w'.heap[w3.heap.size]? = some (.cells #[.int .i64 kd, .int .i64 of_, .int .i64 R.n, .slice fa fl fc] 49)) (by kernel_rfl) ?_ (fun hHeld => ?_)
                · exact ⟨gg, g49⟩
                refine wpAnyH_take (i := 0) (oi := { dst := some 142, op := Op.move (Operand.tmp 0), type := 177, pos := "run.go:235", after := #[], guard := none }) (v := ?_) rfl (by kernel_rfl) (by kernel_rfl) (by kernel_rfl) (fun _ _ _ h => h) (Or.inl ⟨by rfl, ?_⟩) (by assumption) ?_
                rotate_left
                · intro w hSw; obtain ⟨hS1, hS2⟩ := hSw; have cP := fun j => cell_of_row w _ j _ 70 (0, 0) hS1; have cQ := fun j => cell_of_row w _ j _ 49 (0, 0) hS2; go_simp; try with_reducible rfl
                simp only [Act.put, List.setIfInBounds_toArray, List.set_cons_zero, List.set_cons_succ]
                refine wpAnyH_take (i := 1) (oi := { dst := some 143, op := Op.fieldAddr 70 (Operand.tmp 5) 1, type := 0, pos := "run.go:235", after := #[], guard := none }) (v := ?_) rfl (by kernel_rfl) (by kernel_rfl) (by kernel_rfl) (fun _ _ _ h => h) (Or.inl ⟨by rfl, ?_⟩) (by assumption) ?_
                rotate_left
                · intro w hSw; obtain ⟨hS1, hS2⟩ := hSw; have cP := fun j => cell_of_row w _ j _ 70 (0, 0) hS1; have cQ := fun j => cell_of_row w _ j _ 49 (0, 0) hS2; go_simp; try with_reducible rfl
                simp only [Act.put, List.setIfInBounds_toArray, List.set_cons_zero, List.set_cons_succ]
                refine wpAnyH_take (i := 2) (oi := { dst := some 144, op := Op.load 3 (Operand.tmp 143), type := 3, pos := "run.go:235", after := #[{ on := 1, ground := Ground.data }], guard := none }) (v := ?_) rfl (by kernel_rfl) (by kernel_rfl) (by kernel_rfl) (fun _ _ _ h => h) (Or.inl ⟨by rfl, ?_⟩) (by assumption) ?_
                rotate_left
                · intro w hSw; obtain ⟨hS1, hS2⟩ := hSw; have cP := fun j => cell_of_row w _ j _ 70 (0, 0) hS1; have cQ := fun j => cell_of_row w _ j _ 49 (0, 0) hS2; go_simp; try with_reducible rfl
                simp only [Act.put, List.setIfInBounds_toArray, List.set_cons_zero, List.set_cons_succ]
                refine wpAnyH_take (i := 3) (oi := { dst := some 145, op := Op.fieldAddr 49 (Operand.tmp 6) 2, type := 0, pos := "run.go:235", after := #[], guard := none }) (v := ?_) rfl (by kernel_rfl) (by kernel_rfl) (by kernel_rfl) (fun _ _ _ h => h) (Or.inl ⟨by rfl, ?_⟩) (by assumption) ?_
                rotate_left
                · intro w hSw; obtain ⟨hS1, hS2⟩ := hSw; have cP := fun j => cell_of_row w _ j _ 70 (0, 0) hS1; have cQ := fun j => cell_of_row w _ j _ 49 (0, 0) hS2; go_simp; try with_reducible rfl
                simp only [Act.put, List.setIfInBounds_toArray, List.set_cons_zero, List.set_cons_succ]
                refine wpAnyH_take (i := 4) (oi := { dst := some 146, op := Op.load 3 (Operand.tmp 145), type := 3, pos := "run.go:235", after := #[{ on := 3, ground := Ground.data }], guard := none }) (v := ?_) rfl (by kernel_rfl) (by kernel_rfl) (by kernel_rfl) (fun _ _ _ h => h) (Or.inl ⟨by rfl, ?_⟩) (by assumption) ?_
                rotate_left
                · intro w hSw; obtain ⟨hS1, hS2⟩ := hSw; have cP := fun j => cell_of_row w _ j _ 70 (0, 0) hS1; have cQ := fun j => cell_of_row w _ j _ 49 (0, 0) hS2; go_simp; try with_reducible rfl
                simp only [Act.put, List.setIfInBounds_toArray, List.set_cons_zero, List.set_cons_succ]
                refine wpAnyH_take (i := 5) (oi := { dst := some 147, op := Op.nilCheck (Operand.tmp 142), type := 0, pos := "run.go:235", after := #[{ on := 0, ground := Ground.data }], guard := none }) (v := ?_) rfl (by kernel_rfl) (by kernel_rfl) (by kernel_rfl) (fun _ _ _ h => h) (Or.inl ⟨by rfl, ?_⟩) (by assumption) ?_
                rotate_left
                · intro w hSw; obtain ⟨hS1, hS2⟩ := hSw; have cP := fun j => cell_of_row w _ j _ 70 (0, 0) hS1; have cQ := fun j => cell_of_row w _ j _ 49 (0, 0) hS2; go_simp; try with_reducible rfl
                simp only [Act.put, List.setIfInBounds_toArray, List.set_cons_zero, List.set_cons_succ]
                refine wpAnyH_take (i := 6) (oi := { dst := some 148, op := Op.fieldAddr 180 (Operand.tmp 147) 5, type := 0, pos := "run.go:235", after := #[{ on := 5, ground := Ground.data }], guard := none }) (v := ?_) rfl (by kernel_rfl) (by kernel_rfl) (by kernel_rfl) (fun _ _ _ h => h) (Or.inl ⟨by rfl, ?_⟩) (by assumption) ?_
                rotate_left
                · intro w hSw; obtain ⟨hS1, hS2⟩ := hSw; have cP := fun j => cell_of_row w _ j _ 70 (0, 0) hS1; have cQ := fun j => cell_of_row w _ j _ 49 (0, 0) hS2; go_simp; try with_reducible rfl
                simp only [Act.put, List.setIfInBounds_toArray, List.set_cons_zero, List.set_cons_succ]
                refine wpAnyH_take (i := 7) (oi := { dst := some 149, op := Op.indexAddr 35 (Operand.tmp 148) (Operand.tmp 144), type := 0, pos := "run.go:235", after := #[{ on := 6, ground := Ground.data }, { on := 2, ground := Ground.data }, { on := 0, ground := Ground.phase }, { on := 1, ground := Ground.phase }, { on := 2, ground := Ground.phase }, { on := 3, ground := Ground.phase }, { on := 4, ground := Ground.phase }], guard := none }) (v := ?_) rfl (by kernel_rfl) (by kernel_rfl) (by kernel_rfl) (fun _ _ _ h => h) (Or.inl ⟨by rfl, ?_⟩) (by assumption) ?_
                rotate_left
                · intro w hSw; obtain ⟨hS1, hS2⟩ := hSw; have cP := fun j => cell_of_row w _ j _ 70 (0, 0) hS1; have cQ := fun j => cell_of_row w _ j _ 49 (0, 0) hS2; go_simp; try with_reducible rfl
                simp only [Act.put, List.setIfInBounds_toArray, List.set_cons_zero, List.set_cons_succ]
                refine wpAnyH_ready (rs := [8]) (by kernel_rfl) (by simp) ?_
                refine AllReadyH.cons (o := { dst := none, op := Op.store 2 (Operand.tmp 149) (Operand.tmp 146), type := 0, pos := "run.go:235", after := #[{ on := 7, ground := Ground.data }, { on := 4, ground := Ground.data }, { on := 0, ground := Ground.phase }, { on := 1, ground := Ground.phase }, { on := 2, ground := Ground.phase }, { on := 3, ground := Ground.phase }, { on := 4, ground := Ground.phase }], guard := none }) rfl (fun K' hK' => ?_) AllReadyH.nil
                go_simp
                refine hK'.out _ _ ?_ (fun hHeld => ?_)
                · exact ⟨(Below.heap_setCell _ _ _ _ hnP).trans gg, (Below.heap_setCell _ _ _ _ hn5).trans g49⟩
                clear hK' K'
                try simp only [Act.put, List.setIfInBounds_toArray, List.set_cons_zero, List.set_cons_succ]
                refine wpAnyH_done (by kernel_rfl) ?_ _
                go_wp2
                go_roundg k'
                case rel =>
                  have e3 := unhide E
                  have e4 := unhide HNV
                  rw [unhide HOP] at e3 e4
                  exact qrel_next (((unhide P1).set L (10 + a.toNat) (.int .i64 R.n) _ (by omega) (lset_reg a.toNat R.n (by omega)) rfl ((unhide P1).rel.of rfl rfl) rfl).drew L) (unhide P0q) ((((unhide Q2).trans (unhide P2)).setCell _ _ (unhide HSb)).drew) e3 e4 (by show _ = Value.int .i64 (s'.next + 1); go_num) (.inl rfl) e1 e2 hn q7
                case measure => omega
              · have hhs : hearS { s' with fuel := s'.fuel - 1, next := s'.next + 1 } R = { s' with fuel := s'.fuel - 1, next := s'.next + 1, fin := R.e } := by unfold hearS; rw [if_neg he]
                have hop : opM ask (8, a, v) { s' with fuel := s'.fuel - 1, next := s'.next + 1 } x' = ({ s' with fuel := s'.fuel - 1, next := s'.next + 1, fin := R.e }, x2) := by
                  simp only [opM, hR]
                  simp [lotS, he]
                have heb : (R.e == 0) = false := by simpa using he
                rw [hhs] at hc
                have HC := hide hc
                have HOP := hide hop
                clear hc hhs hR hop
                go_wp2_with fail
                go_at_call 141
                refine (unhide HC).mono ?_
                rintro e w3 ⟨kd, of_, rn, fa, fl, fc, rfl, ⟨S3, pv3, T3, p1, p0, p2⟩, hn3⟩
                have p1a := p1.alloc L (.cells #[.int .i64 kd, .int .i64 of_, .int .i64 rn, .slice fa fl fc] 49)
                have P1 := hide p1a
                have P2 := hide (p2.alloc (.cells #[.int .i64 kd, .int .i64 of_, .int .i64 rn, .slice fa fl fc] 49))
                have P0q := hide (show ∀ i, i < 3 → pv3 i = pv i from fun i hi => (p0 i hi).trans (unhide Q0 i hi))
                have hb3 := p1.blt
                have k27 := (p1.cell 27 (by omega)).trans (by rw [limg_fin])
                change w3.cell? _ = some (.int .i64 R.e) at k27
                have hn5 : w3.heap.size ≠ b := by omega
                have hn6 : ¬ b = w3.heap.size := by omega
                clear p1 p1a p2 p0 HC hn3
                go_wp2
                go_roundg k'
                case rel =>
                  have e3 := unhide E
                  have e4 := unhide HNV
                  rw [unhide HOP] at e3 e4
                  exact qrel_next (unhide P1) (unhide P0q) ((unhide Q2).trans (unhide P2)) e3 e4 (by show _ = Value.int .i64 (s'.next + 1); go_num) (.inl rfl) e1 e2 hn q7
                case measure => omega
          · as_aux_lemma =>
              obtain ⟨r1, r2⟩ := right_reg (show rightB 9 a v nt nf = true from unhide HRT) (by omega)
              obtain ⟨ta, tc, rfl⟩ := row_shape (unhide H2).row
              go_wp2
              generalize hW2 : ((wr.setCell ⟨b, 25, none⟩ (.int .i64 (s'.fuel - 1))).alloc (.cells #[.int .i64 9, .int .i64 a, .int .i64 v] 70)) = W2 at *
              clear hW2
              have cr := (unhide H2).cell (10 + a.toNat) (by omega)
              rw [limg_reg _ _ _ _ _ _ (by omega)] at cr
              change W2.cell? _ = some (.int .i64 (s'.reg a.toNat)) at cr
              have ct := (unhide H2).cell 26 (by omega)
              rw [limg_trace] at ct
              change W2.cell? _ = some (.slice ta s'.trace.length tc) at ct
              have cq : ∀ o, (W2.alloc o).drew.cell? ⟨b, 10 + a.toNat, none⟩ = some (.int .i64 (s'.reg a.toNat)) := fun o => (((unhide H2).fr L ((Fr.refl _ _).alloc o).drew).cell (10 + a.toNat) (by omega)).trans (by rw [limg_reg _ _ _ _ _ _ (by omega)])
              have tq : ∀ o, (W2.alloc o).drew.cell? ⟨b, 26, none⟩ = some (.slice ta s'.trace.length tc) := fun o => (((unhide H2).fr L ((Fr.refl _ _).alloc o).drew).cell 26 (by omega)).trans (by rw [limg_trace])
              have pq : ∀ o, (W2.alloc o).drew.heap[wr.heap.size]? = some (.cells #[.int .i64 9, .int .i64 a, .int .i64 v] 70) := fun o => (Below.heap_alloc _ _ _ hpl).trans (unhide HPB)
              have hln : s'.trace.length ≤ 100000000 := by have := (unhide HQ).trace; omega
              refine wp_region_held_drew (S := fun w' => w'.heap[wr.heap.size]? = some (.cells #[.int .i64 9, .int .i64 a, .int .i64 v] 70) ∧ w'.cell? ⟨b, 10 + a.toNat, none⟩ = some (.int .i64 (s'.reg a.toNat))) (by kernel_rfl) ?_ (fun hHeld => ?_)
              · exact ⟨unhide HPB, cr⟩
              refine wpAnyH_take (i := 0) (oi := { dst := some 152, op := Op.move (Operand.tmp 0), type := 177, pos := "run.go:238", after := #[], guard := none }) (v := ?_) rfl (by kernel_rfl) (by kernel_rfl) (by kernel_rfl) (fun _ _ _ h => h) (Or.inl ⟨by rfl, ?_⟩) (by assumption) ?_
              rotate_left
              · intro w hSw; obtain ⟨hS1, hS2⟩ := hSw; have cP := fun j => cell_of_row w _ j _ 70 (0, 0) hS1; go_simp; try with_reducible rfl
              simp only [Act.put, List.setIfInBounds_toArray, List.set_cons_zero, List.set_cons_succ]
              refine wpAnyH_take (i := 1) (oi := { dst := some 153, op := Op.move (Operand.tmp 0), type := 177, pos := "run.go:238", after := #[], guard := none }) (v := ?_) rfl (by kernel_rfl) (by kernel_rfl) (by kernel_rfl) (fun _ _ _ h => h) (Or.inl ⟨by rfl, ?_⟩) (by assumption) ?_
              rotate_left
              · intro w hSw; obtain ⟨hS1, hS2⟩ := hSw; have cP := fun j => cell_of_row w _ j _ 70 (0, 0) hS1; go_simp; try with_reducible rfl
              simp only [Act.put, List.setIfInBounds_toArray, List.set_cons_zero, List.set_cons_succ]
              refine wpAnyH_take (i := 2) (oi := { dst := some 154, op := Op.nilCheck (Operand.tmp 153), type := 0, pos := "run.go:238", after := #[{ on := 1, ground := Ground.data }], guard := none }) (v := ?_) rfl (by kernel_rfl) (by kernel_rfl) (by kernel_rfl) (fun _ _ _ h => h) (Or.inl ⟨by rfl, ?_⟩) (by assumption) ?_
              rotate_left
              · intro w hSw; obtain ⟨hS1, hS2⟩ := hSw; have cP := fun j => cell_of_row w _ j _ 70 (0, 0) hS1; go_simp; try with_reducible rfl
              simp only [Act.put, List.setIfInBounds_toArray, List.set_cons_zero, List.set_cons_succ]
              refine wpAnyH_take (i := 3) (oi := { dst := some 155, op := Op.fieldAddr 180 (Operand.tmp 154) 11, type := 0, pos := "run.go:238", after := #[{ on := 2, ground := Ground.data }], guard := none }) (v := ?_) rfl (by kernel_rfl) (by kernel_rfl) (by kernel_rfl) (fun _ _ _ h => h) (Or.inl ⟨by rfl, ?_⟩) (by assumption) ?_
              rotate_left
              · intro w hSw; obtain ⟨hS1, hS2⟩ := hSw; have cP := fun j => cell_of_row w _ j _ 70 (0, 0) hS1; go_simp; try with_reducible rfl
              simp only [Act.put, List.setIfInBounds_toArray, List.set_cons_zero, List.set_cons_succ]
              refine wpAnyH_take (i := 5) (oi := { dst := some 157, op := Op.fieldAddr 70 (Operand.tmp 5) 1, type := 0, pos := "run.go:238", after := #[], guard := none }) (v := ?_) rfl (by kernel_rfl) (by kernel_rfl) (by kernel_rfl) (fun _ _ _ h => h) (Or.inl ⟨by rfl, ?_⟩) (by assumption) ?_
              rotate_left
              · intro w hSw; obtain ⟨hS1, hS2⟩ := hSw; have cP := fun j => cell_of_row w _ j _ 70 (0, 0) hS1; go_simp; try with_reducible rfl
              simp only [Act.put, List.setIfInBounds_toArray, List.set_cons_zero, List.set_cons_succ]
              refine wpAnyH_take (i := 6) (oi := { dst := some 158, op := Op.load 3 (Operand.tmp 157), type := 3, pos := "run.go:238", after := #[{ on := 5, ground := Ground.data }], guard := none }) (v := ?_) rfl (by kernel_rfl) (by kernel_rfl) (by kernel_rfl) (fun _ _ _ h => h) (Or.inl ⟨by rfl, ?_⟩) (by assumption) ?_
              rotate_left
              · intro w hSw; obtain ⟨hS1, hS2⟩ := hSw; have cP := fun j => cell_of_row w _ j _ 70 (0, 0) hS1; go_simp; try with_reducible rfl
              simp only [Act.put, List.setIfInBounds_toArray, List.set_cons_zero, List.set_cons_succ]
              refine wpAnyH_take (i := 7) (oi := { dst := some 159, op := Op.move (Operand.tmp 0), type := 177, pos := "run.go:238", after := #[], guard := none }) (v := ?_) rfl (by kernel_rfl) (by kernel_rfl) (by kernel_rfl) (fun _ _ _ h => h) (Or.inl ⟨by rfl, ?_⟩) (by assumption) ?_
              rotate_left
              · intro w hSw; obtain ⟨hS1, hS2⟩ := hSw; have cP := fun j => cell_of_row w _ j _ 70 (0, 0) hS1; go_simp; try with_reducible rfl
              simp only [Act.put, List.setIfInBounds_toArray, List.set_cons_zero, List.set_cons_succ]
              refine wpAnyH_take (i := 8) (oi := { dst := some 160, op := Op.fieldAddr 70 (Operand.tmp 5) 1, type := 0, pos := "run.go:238", after := #[], guard := none }) (v := ?_) rfl (by kernel_rfl) (by kernel_rfl) (by kernel_rfl) (fun _ _ _ h => h) (Or.inl ⟨by rfl, ?_⟩) (by assumption) ?_
              rotate_left
              · intro w hSw; obtain ⟨hS1, hS2⟩ := hSw; have cP := fun j => cell_of_row w _ j _ 70 (0, 0) hS1; go_simp; try with_reducible rfl
              simp only [Act.put, List.setIfInBounds_toArray, List.set_cons_zero, List.set_cons_succ]
              refine wpAnyH_take (i := 9) (oi := { dst := some 161, op := Op.load 3 (Operand.tmp 160), type := 3, pos := "run.go:238", after := #[{ on := 8, ground := Ground.data }], guard := none }) (v := ?_) rfl (by kernel_rfl) (by kernel_rfl) (by kernel_rfl) (fun _ _ _ h => h) (Or.inl ⟨by rfl, ?_⟩) (by assumption) ?_
              rotate_left
              · intro w hSw; obtain ⟨hS1, hS2⟩ := hSw; have cP := fun j => cell_of_row w _ j _ 70 (0, 0) hS1; go_simp; try with_reducible rfl
              simp only [Act.put, List.setIfInBounds_toArray, List.set_cons_zero, List.set_cons_succ]
              refine wpAnyH_take (i := 10) (oi := { dst := some 162, op := Op.nilCheck (Operand.tmp 159), type := 0, pos := "run.go:238", after := #[{ on := 7, ground := Ground.data }], guard := none }) (v := ?_) rfl (by kernel_rfl) (by kernel_rfl) (by kernel_rfl) (fun _ _ _ h => h) (Or.inl ⟨by rfl, ?_⟩) (by assumption) ?_
              rotate_left
              · intro w hSw; obtain ⟨hS1, hS2⟩ := hSw; have cP := fun j => cell_of_row w _ j _ 70 (0, 0) hS1; go_simp; try with_reducible rfl
              simp only [Act.put, List.setIfInBounds_toArray, List.set_cons_zero, List.set_cons_succ]
              refine wpAnyH_take (i := 11) (oi := { dst := some 163, op := Op.fieldAddr 180 (Operand.tmp 162) 5, type := 0, pos := "run.go:238", after := #[{ on := 10, ground := Ground.data }], guard := none }) (v := ?_) rfl (by kernel_rfl) (by kernel_rfl) (by kernel_rfl) (fun _ _ _ h => h) (Or.inl ⟨by rfl, ?_⟩) (by assumption) ?_
              rotate_left
              · intro w hSw; obtain ⟨hS1, hS2⟩ := hSw; have cP := fun j => cell_of_row w _ j _ 70 (0, 0) hS1; go_simp; try with_reducible rfl
              simp only [Act.put, List.setIfInBounds_toArray, List.set_cons_zero, List.set_cons_succ]
              refine wpAnyH_take (i := 12) (oi := { dst := some 164, op := Op.indexAddr 35 (Operand.tmp 163) (Operand.tmp 161), type := 0, pos := "run.go:238", after := #[{ on := 11, ground := Ground.data }, { on := 9, ground := Ground.data }], guard := none }) (v := ?_) rfl (by kernel_rfl) (by kernel_rfl) (by kernel_rfl) (fun _ _ _ h => h) (Or.inl ⟨by rfl, ?_⟩) (by assumption) ?_
              rotate_left
              · intro w hSw; obtain ⟨hS1, hS2⟩ := hSw; have cP := fun j => cell_of_row w _ j _ 70 (0, 0) hS1; go_simp; try with_reducible rfl
              simp only [Act.put, List.setIfInBounds_toArray, List.set_cons_zero, List.set_cons_succ]
              refine wpAnyH_take (i := 13) (oi := { dst := some 165, op := Op.load 2 (Operand.tmp 164), type := 2, pos := "run.go:238", after := #[{ on := 12, ground := Ground.data }], guard := none }) (v := ?_) rfl (by kernel_rfl) (by kernel_rfl) (by kernel_rfl) (fun _ _ _ h => h) (Or.inl ⟨by rfl, ?_⟩) (by assumption) ?_
              rotate_left
              · intro w hSw; obtain ⟨hS1, hS2⟩ := hSw; have cP := fun j => cell_of_row w _ j _ 70 (0, 0) hS1; go_simp; try with_reducible rfl
              simp only [Act.put, List.setIfInBounds_toArray, List.set_cons_zero, List.set_cons_succ]
              refine wpAnyH_take (i := 14) (oi := { dst := some 166, op := Op.build 72 #[(0, Operand.const (Value.int IntKind.i64 3)), (1, Operand.tmp 158), (2, Operand.tmp 165)], type := 72, pos := "run.go:238", after := #[{ on := 6, ground := Ground.data }, { on := 13, ground := Ground.data }], guard := none }) (v := ?_) rfl (by kernel_rfl) (by kernel_rfl) (by kernel_rfl) (fun _ _ _ h => h) (Or.inl ⟨by rfl, ?_⟩) (by assumption) ?_
              rotate_left
              · intro w hSw; obtain ⟨hS1, hS2⟩ := hSw; have cP := fun j => cell_of_row w _ j _ 70 (0, 0) hS1; go_simp; try with_reducible rfl
              simp only [Act.put, List.setIfInBounds_toArray, List.set_cons_zero, List.set_cons_succ]
              refine wpAnyH_ready (rs := [4, 15]) (by kernel_rfl) (by simp) ?_
              refine AllReadyH.cons (o := { dst := some 156, op := Op.load 34 (Operand.tmp 155), type := 34, pos := "run.go:238", after := #[{ on := 3, ground := Ground.data }], guard := none }) rfl (fun K' hK' => ?_) (AllReadyH.cons (o := { dst := some 167, op := Op.buildSlice 34 1 #[(0, Operand.tmp 166)], type := 34, pos := "run.go:238", after := #[{ on := 14, ground := Ground.data }], guard := none }) rfl (fun K' hK' => ?_) AllReadyH.nil)
              · go_simp
                refine hK'.out _ _ ?_ (fun hHeld => ?_)
                · exact ⟨unhide HPB, cr⟩
                clear hK' K'
                try simp only [Act.put, List.setIfInBounds_toArray, List.set_cons_zero, List.set_cons_succ]
                refine wpAnyH_ready (rs := [15]) (by kernel_rfl) (by simp) ?_
                refine AllReadyH.cons (o := { dst := some 167, op := Op.buildSlice 34 1 #[(0, Operand.tmp 166)], type := 34, pos := "run.go:238", after := #[{ on := 14, ground := Ground.data }], guard := none }) rfl (fun K' hK' => ?_) AllReadyH.nil
                go_simp
                refine hK'.out _ _ ?_ (fun hHeld => ?_)
                · exact ⟨pq _, cq _⟩
                clear hK' K'
                try simp only [Act.put, List.setIfInBounds_toArray, List.set_cons_zero, List.set_cons_succ]
                refine wpAnyH_ready (rs := [16]) (by kernel_rfl) (by simp) ?_
                refine AllReadyH.cons (o := { dst := some 168, op := Op.call { callee := Callee.builtin Builtin.append, args := #[Operand.tmp 156, Operand.tmp 167], argTypes := #[34, 34] }, type := 34, pos := "run.go:238", after := #[{ on := 4, ground := Ground.data }, { on := 15, ground := Ground.data }], guard := none }) rfl (fun K' hK' => ?_) AllReadyH.nil
                refine step_grown (d := 168) rfl elemE (by decide) (by decide) (v := .slice ta s'.trace.length tc) (n := s'.trace.length) (m := 1) (xs := flatE s'.trace) (news := [.int .i64 3, .int .i64 a, .int .i64 (s'.reg a.toNat)]) (B := B) (ad := ⟨W2.heap.size, 0, none⟩) (cap := 1) rfl (.tmp 156) (.tmp 167) rfl rfl rfl ((unhide H2).fr L ((Fr.refl _ _).alloc (.cells #[.int .i64 3, .int .i64 a, .int .i64 (s'.reg a.toNat)] 72)).drew).row rfl (World.news_of_block (heap_alloc_new W2 _)) (by simp [Value.oneCell']) (by omega) (by omega) ((unhide H2).fr L ((Fr.refl _ _).alloc (.cells #[.int .i64 3, .int .i64 a, .int .i64 (s'.reg a.toNat)] 72)).drew).below ?_
                intro v3 w3 o3 f3 sh3
                obtain ⟨av, cv, rfl⟩ := sh3
                have h3 := (unhide H2).fr L ((Fr.refl _ _).alloc (.cells #[.int .i64 3, .int .i64 a, .int .i64 (s'.reg a.toNat)] 72)).drew
                have c3 := h3.cells.block (f3.same b h3.blt (fun e => (h3.inV b e).2.1 rfl))
                have gr : w3.cell? ⟨b, 10 + a.toNat, none⟩ = some (.int .i64 (s'.reg a.toNat)) := (c3 (10 + a.toNat) (by omega)).1.trans (by rw [limg_reg _ _ _ _ _ _ (by omega)])
                have pc := (c3 26 (by omega)).1.trans (by rw [limg_trace])
                have pz := (c3 26 (by omega)).2
                have gp : w3.heap[wr.heap.size]? = some (.cells #[.int .i64 9, .int .i64 a, .int .i64 v] 70) := (f3.same _ (Array.getElem?_eq_some_iff.1 (pq _)).1 (fun e => unhide HPS (h3.inV _ e).1)).trans (pq (.cells #[.int .i64 3, .int .i64 a, .int .i64 (s'.reg a.toNat)] 72))
                have FIN := hide (h3.setTrace L (o := (3, a, s'.reg a.toNat)) o3 f3)
                clear o3 f3 h3 c3
                refine hK'.out _ _ ⟨gp, gr⟩ (fun hHeld => ?_)
                clear hK' K'
                simp only [List.setIfInBounds_toArray, List.set_cons_zero, List.set_cons_succ]
                refine wpAnyH_take (i := 17) (oi := { dst := some 169, op := Op.nilCheck (Operand.tmp 152), type := 0, pos := "run.go:238", after := #[{ on := 0, ground := Ground.data }, { on := 0, ground := Ground.phase }, { on := 1, ground := Ground.phase }, { on := 2, ground := Ground.phase }, { on := 3, ground := Ground.phase }, { on := 4, ground := Ground.phase }, { on := 5, ground := Ground.phase }, { on := 6, ground := Ground.phase }, { on := 7, ground := Ground.phase }, { on := 8, ground := Ground.phase }, { on := 9, ground := Ground.phase }, { on := 10, ground := Ground.phase }, { on := 11, ground := Ground.phase }, { on := 12, ground := Ground.phase }, { on := 13, ground := Ground.phase }, { on := 14, ground := Ground.phase }, { on := 15, ground := Ground.phase }, { on := 16, ground := Ground.phase }], guard := none }) (v := ?_) rfl (by kernel_rfl) (by kernel_rfl) (by kernel_rfl) (fun _ _ _ h => h) (Or.inl ⟨by rfl, ?_⟩) (by assumption) ?_
                rotate_left
                · intro w hSw; obtain ⟨hS1, hS2⟩ := hSw; have cP := fun j => cell_of_row w _ j _ 70 (0, 0) hS1; go_simp; try with_reducible rfl
                simp only [Act.put, List.setIfInBounds_toArray, List.set_cons_zero, List.set_cons_succ]
                refine wpAnyH_take (i := 18) (oi := { dst := some 170, op := Op.fieldAddr 180 (Operand.tmp 169) 11, type := 0, pos := "run.go:238", after := #[{ on := 17, ground := Ground.data }, { on := 0, ground := Ground.phase }, { on := 1, ground := Ground.phase }, { on := 2, ground := Ground.phase }, { on := 3, ground := Ground.phase }, { on := 4, ground := Ground.phase }, { on := 5, ground := Ground.phase }, { on := 6, ground := Ground.phase }, { on := 7, ground := Ground.phase }, { on := 8, ground := Ground.phase }, { on := 9, ground := Ground.phase }, { on := 10, ground := Ground.phase }, { on := 11, ground := Ground.phase }, { on := 12, ground := Ground.phase }, { on := 13, ground := Ground.phase }, { on := 14, ground := Ground.phase }, { on := 15, ground := Ground.phase }, { on := 16, ground := Ground.phase }], guard := none }) (v := ?_) rfl (by kernel_rfl) (by kernel_rfl) (by kernel_rfl) (fun _ _ _ h => h) (Or.inl ⟨by rfl, ?_⟩) (by assumption) ?_
                rotate_left
                · intro w hSw; obtain ⟨hS1, hS2⟩ := hSw; have cP := fun j => cell_of_row w _ j _ 70 (0, 0) hS1; go_simp; try with_reducible rfl
                simp only [Act.put, List.setIfInBounds_toArray, List.set_cons_zero, List.set_cons_succ]
                refine wpAnyH_ready (rs := [19]) (by kernel_rfl) (by simp) ?_
                refine AllReadyH.cons (o := { dst := none, op := Op.store 34 (Operand.tmp 170) (Operand.tmp 168), type := 0, pos := "run.go:238", after := #[{ on := 18, ground := Ground.data }, { on := 16, ground := Ground.data }, { on := 16, ground := Ground.chain }, { on := 0, ground := Ground.phase }, { on := 1, ground := Ground.phase }, { on := 2, ground := Ground.phase }, { on := 3, ground := Ground.phase }, { on := 4, ground := Ground.phase }, { on := 5, ground := Ground.phase }, { on := 6, ground := Ground.phase }, { on := 7, ground := Ground.phase }, { on := 8, ground := Ground.phase }, { on := 9, ground := Ground.phase }, { on := 10, ground := Ground.phase }, { on := 11, ground := Ground.phase }, { on := 12, ground := Ground.phase }, { on := 13, ground := Ground.phase }, { on := 14, ground := Ground.phase }, { on := 15, ground := Ground.phase }, { on := 16, ground := Ground.phase }], guard := none }) rfl (fun K' hK' => ?_) AllReadyH.nil
                go_simp
                refine hK'.out _ _ ?_ (fun hHeld => ?_)
                · exact ⟨(Below.heap_setCell _ _ _ _ hnP).trans gp, by simp [go_sem, gr]⟩
                clear hK' K'
                try simp only [Act.put, List.setIfInBounds_toArray, List.set_cons_zero, List.set_cons_succ]
                refine wpAnyH_done (by kernel_rfl) ?_ _
                go_wp2
                go_roundg k'
                case rel =>
                  have e3 := unhide E
                  have e4 := unhide HNV
                  rw [show opM ask (9, a, v) { s' with fuel := s'.fuel - 1, next := s'.next + 1 } x' = ({ s' with fuel := s'.fuel - 1, next := s'.next + 1, trace := s'.trace ++ [(3, a, s'.reg a.toNat)] }, x') from by simp [opM]] at e3 e4
                  exact qrel_next ((unhide FIN).1) (unhide Q0) (((unhide Q2).alloc (.cells #[.int .i64 3, .int .i64 a, .int .i64 (s'.reg a.toNat)] 72)).drew.trans (unhide FIN).2) e3 e4 (by show _ = Value.int .i64 (s'.next + 1); go_num) (.inl rfl) e1 e2 hn q7
                case measure => omega
              · go_simp
                refine hK'.out _ _ ?_ (fun hHeld => ?_)
                · exact ⟨pq _, cq _⟩
                clear hK' K'
                try simp only [Act.put, List.setIfInBounds_toArray, List.set_cons_zero, List.set_cons_succ]
                refine wpAnyH_ready (rs := [4]) (by kernel_rfl) (by simp) ?_
                refine AllReadyH.cons (o := { dst := some 156, op := Op.load 34 (Operand.tmp 155), type := 34, pos := "run.go:238", after := #[{ on := 3, ground := Ground.data }], guard := none }) rfl (fun K' hK' => ?_) AllReadyH.nil
                go_simp
                refine hK'.out _ _ ?_ (fun hHeld => ?_)
                · exact ⟨pq _, cq _⟩
                clear hK' K'
                try simp only [Act.put, List.setIfInBounds_toArray, List.set_cons_zero, List.set_cons_succ]
                refine wpAnyH_ready (rs := [16]) (by kernel_rfl) (by simp) ?_
                refine AllReadyH.cons (o := { dst := some 168, op := Op.call { callee := Callee.builtin Builtin.append, args := #[Operand.tmp 156, Operand.tmp 167], argTypes := #[34, 34] }, type := 34, pos := "run.go:238", after := #[{ on := 4, ground := Ground.data }, { on := 15, ground := Ground.data }], guard := none }) rfl (fun K' hK' => ?_) AllReadyH.nil
                refine step_grown (d := 168) rfl elemE (by decide) (by decide) (v := .slice ta s'.trace.length tc) (n := s'.trace.length) (m := 1) (xs := flatE s'.trace) (news := [.int .i64 3, .int .i64 a, .int .i64 (s'.reg a.toNat)]) (B := B) (ad := ⟨W2.heap.size, 0, none⟩) (cap := 1) rfl (.tmp 156) (.tmp 167) rfl rfl rfl ((unhide H2).fr L ((Fr.refl _ _).alloc (.cells #[.int .i64 3, .int .i64 a, .int .i64 (s'.reg a.toNat)] 72)).drew).row rfl (World.news_of_block (heap_alloc_new W2 _)) (by simp [Value.oneCell']) (by omega) (by omega) ((unhide H2).fr L ((Fr.refl _ _).alloc (.cells #[.int .i64 3, .int .i64 a, .int .i64 (s'.reg a.toNat)] 72)).drew).below ?_
                intro v3 w3 o3 f3 sh3
                obtain ⟨av, cv, rfl⟩ := sh3
                have h3 := (unhide H2).fr L ((Fr.refl _ _).alloc (.cells #[.int .i64 3, .int .i64 a, .int .i64 (s'.reg a.toNat)] 72)).drew
                have c3 := h3.cells.block (f3.same b h3.blt (fun e => (h3.inV b e).2.1 rfl))
                have gr : w3.cell? ⟨b, 10 + a.toNat, none⟩ = some (.int .i64 (s'.reg a.toNat)) := (c3 (10 + a.toNat) (by omega)).1.trans (by rw [limg_reg _ _ _ _ _ _ (by omega)])
                have pc := (c3 26 (by omega)).1.trans (by rw [limg_trace])
                have pz := (c3 26 (by omega)).2
                have gp : w3.heap[wr.heap.size]? = some (.cells #[.int .i64 9, .int .i64 a, .int .i64 v] 70) := (f3.same _ (Array.getElem?_eq_some_iff.1 (pq _)).1 (fun e => unhide HPS (h3.inV _ e).1)).trans (pq (.cells #[.int .i64 3, .int .i64 a, .int .i64 (s'.reg a.toNat)] 72))
                have FIN := hide (h3.setTrace L (o := (3, a, s'.reg a.toNat)) o3 f3)
                clear o3 f3 h3 c3
                refine hK'.out _ _ ⟨gp, gr⟩ (fun hHeld => ?_)
                clear hK' K'
                simp only [List.setIfInBounds_toArray, List.set_cons_zero, List.set_cons_succ]
                refine wpAnyH_take (i := 17) (oi := { dst := some 169, op := Op.nilCheck (Operand.tmp 152), type := 0, pos := "run.go:238", after := #[{ on := 0, ground := Ground.data }, { on := 0, ground := Ground.phase }, { on := 1, ground := Ground.phase }, { on := 2, ground := Ground.phase }, { on := 3, ground := Ground.phase }, { on := 4, ground := Ground.phase }, { on := 5, ground := Ground.phase }, { on := 6, ground := Ground.phase }, { on := 7, ground := Ground.phase }, { on := 8, ground := Ground.phase }, { on := 9, ground := Ground.phase }, { on := 10, ground := Ground.phase }, { on := 11, ground := Ground.phase }, { on := 12, ground := Ground.phase }, { on := 13, ground := Ground.phase }, { on := 14, ground := Ground.phase }, { on := 15, ground := Ground.phase }, { on := 16, ground := Ground.phase }], guard := none }) (v := ?_) rfl (by kernel_rfl) (by kernel_rfl) (by kernel_rfl) (fun _ _ _ h => h) (Or.inl ⟨by rfl, ?_⟩) (by assumption) ?_
                rotate_left
                · intro w hSw; obtain ⟨hS1, hS2⟩ := hSw; have cP := fun j => cell_of_row w _ j _ 70 (0, 0) hS1; go_simp; try with_reducible rfl
                simp only [Act.put, List.setIfInBounds_toArray, List.set_cons_zero, List.set_cons_succ]
                refine wpAnyH_take (i := 18) (oi := { dst := some 170, op := Op.fieldAddr 180 (Operand.tmp 169) 11, type := 0, pos := "run.go:238", after := #[{ on := 17, ground := Ground.data }, { on := 0, ground := Ground.phase }, { on := 1, ground := Ground.phase }, { on := 2, ground := Ground.phase }, { on := 3, ground := Ground.phase }, { on := 4, ground := Ground.phase }, { on := 5, ground := Ground.phase }, { on := 6, ground := Ground.phase }, { on := 7, ground := Ground.phase }, { on := 8, ground := Ground.phase }, { on := 9, ground := Ground.phase }, { on := 10, ground := Ground.phase }, { on := 11, ground := Ground.phase }, { on := 12, ground := Ground.phase }, { on := 13, ground := Ground.phase }, { on := 14, ground := Ground.phase }, { on := 15, ground := Ground.phase }, { on := 16, ground := Ground.phase }], guard := none }) (v := ?_) rfl (by kernel_rfl) (by kernel_rfl) (by kernel_rfl) (fun _ _ _ h => h) (Or.inl ⟨by rfl, ?_⟩) (by assumption) ?_
                rotate_left
                · intro w hSw; obtain ⟨hS1, hS2⟩ := hSw; have cP := fun j => cell_of_row w _ j _ 70 (0, 0) hS1; go_simp; try with_reducible rfl
                simp only [Act.put, List.setIfInBounds_toArray, List.set_cons_zero, List.set_cons_succ]
                refine wpAnyH_ready (rs := [19]) (by kernel_rfl) (by simp) ?_
                refine AllReadyH.cons (o := { dst := none, op := Op.store 34 (Operand.tmp 170) (Operand.tmp 168), type := 0, pos := "run.go:238", after := #[{ on := 18, ground := Ground.data }, { on := 16, ground := Ground.data }, { on := 16, ground := Ground.chain }, { on := 0, ground := Ground.phase }, { on := 1, ground := Ground.phase }, { on := 2, ground := Ground.phase }, { on := 3, ground := Ground.phase }, { on := 4, ground := Ground.phase }, { on := 5, ground := Ground.phase }, { on := 6, ground := Ground.phase }, { on := 7, ground := Ground.phase }, { on := 8, ground := Ground.phase }, { on := 9, ground := Ground.phase }, { on := 10, ground := Ground.phase }, { on := 11, ground := Ground.phase }, { on := 12, ground := Ground.phase }, { on := 13, ground := Ground.phase }, { on := 14, ground := Ground.phase }, { on := 15, ground := Ground.phase }, { on := 16, ground := Ground.phase }], guard := none }) rfl (fun K' hK' => ?_) AllReadyH.nil
                go_simp
                refine hK'.out _ _ ?_ (fun hHeld => ?_)
                · exact ⟨(Below.heap_setCell _ _ _ _ hnP).trans gp, by simp [go_sem, gr]⟩
                clear hK' K'
                try simp only [Act.put, List.setIfInBounds_toArray, List.set_cons_zero, List.set_cons_succ]
                refine wpAnyH_done (by kernel_rfl) ?_ _
                go_wp2
                go_roundg k'
                case rel =>
                  have e3 := unhide E
                  have e4 := unhide HNV
                  rw [show opM ask (9, a, v) { s' with fuel := s'.fuel - 1, next := s'.next + 1 } x' = ({ s' with fuel := s'.fuel - 1, next := s'.next + 1, trace := s'.trace ++ [(3, a, s'.reg a.toNat)] }, x') from by simp [opM]] at e3 e4
                  exact qrel_next ((unhide FIN).1) (unhide Q0) (((unhide Q2).alloc (.cells #[.int .i64 3, .int .i64 a, .int .i64 (s'.reg a.toNat)] 72)).drew.trans (unhide FIN).2) e3 e4 (by show _ = Value.int .i64 (s'.next + 1); go_num) (.inl rfl) e1 e2 hn q7
                case measure => omega
          · as_aux_lemma =>
              obtain ⟨r1, r2⟩ := right_reg (show rightB 10 a v nt nf = true from unhide HRT) (by omega)
              go_wp2
              generalize hW2 : ((wr.setCell ⟨b, 25, none⟩ (.int .i64 (s'.fuel - 1))).alloc (.cells #[.int .i64 10, .int .i64 a, .int .i64 v] 70)) = W2 at *
              clear hW2
              have cr := (unhide H2).cell (10 + a.toNat) (by omega)
              rw [limg_reg _ _ _ _ _ _ (by omega)] at cr
              change W2.cell? _ = some (.int .i64 (s'.reg a.toNat)) at cr
              have cP := fun j => cell_of_row W2 _ j _ 70 (0, 0) (unhide HPB)
              by_cases hs : s'.reg a.toNat = v
              · have hsb : (s'.reg a.toNat == v) = true := by simpa using hs
                have hop : opM ask (10, a, v) { s' with fuel := s'.fuel - 1, next := s'.next + 1 } x' = ({ s' with fuel := s'.fuel - 1, next := s'.next + 1 + 1 }, x') := by simp [opM, hs]
                have HOP := hide hop
                clear hop
                have h3 : LQ SQ B S' W2 b pv' vt' va' T' { s' with fuel := s'.fuel - 1, next := s'.next + 1 + 1 } A' tn sq x' := ⟨(unhide H2).bound, (unhide H2).cells, (unhide H2).row, (unhide H2).arow, (unhide H2).rel.of rfl rfl, (unhide H2).src, (unhide H2).hc, (unhide H2).inB, (unhide H2).inV, (unhide H2).inA, (unhide H2).inT⟩
                have H3 := hide h3
                clear h3
                go_quiet (fail)
                go_wp2
                go_roundg k'
                case rel =>
                  have e3 := unhide E
                  have e4 := unhide HNV
                  rw [unhide HOP] at e3 e4
                  exact qrel_next ((unhide H3).drewN L _) (unhide Q0) ((unhide Q2).drewN _) e3 e4 (by show _ = Value.int .i64 (s'.next + 1 + 1); go_num) (.inr rfl) e1 e2 hn q7
                case measure => omega
              · have hsb : (s'.reg a.toNat == v) = false := by simpa using hs
                have hop : opM ask (10, a, v) { s' with fuel := s'.fuel - 1, next := s'.next + 1 } x' = ({ s' with fuel := s'.fuel - 1, next := s'.next + 1 }, x') := by simp [opM, hs]
                have HOP := hide hop
                clear hop
                go_quiet (fail)
                go_wp2
                go_roundg k'
                case rel =>
                  have e3 := unhide E
                  have e4 := unhide HNV
                  rw [unhide HOP] at e3 e4
                  exact qrel_next ((unhide H2).drewN L _) (unhide Q0) ((unhide Q2).drewN _) e3 e4 (by show _ = Value.int .i64 (s'.next + 1); go_num) (.inl rfl) e1 e2 hn q7
                case measure => omega
          · as_aux_lemma =>
              go_wp2
              go_roundg k'
              case rel =>
                have e3 := unhide E
                have e4 := unhide HNV
                rw [show opM ask (11, a, v) { s' with fuel := s'.fuel - 1, next := s'.next + 1 } x' = ({ s' with fuel := s'.fuel - 1, next := s'.next + 1, fin := 1 }, x') from by simp [opM]] at e3 e4
                exact qrel_next (((unhide H1A).set L 27 (.int .i64 1) _ (by omega) (lset_fin 1) rfl ((unhide H1A).rel.of rfl rfl) rfl).alloc L _) (unhide Q0) (((unhide Q2A).setCell _ _ (unhide HSb)).alloc _) e3 e4 (by show _ = Value.int .i64 (s'.next + 1); go_num) (.inl rfl) e1 e2 hn q7
              case measure => omega
      · have e := hM_stop (ask := ask) f n gk s' x' (fun hh => hfi hh.2)
        have hfb : (s'.fin == 0) = false := by simpa using hfi
        have Q1 := hide q1
        have Q2 := hide q2
        have Q0 := hide q0
        have E := hide (q3.symm.trans e)
        clear q1 q2 q3 q4 e hfi q0 hSb
        generalize s'.next = nx at *
        generalize s'.fin = fi at *
        go_wp2
        go_end0
        rw [unhide E]
        exact ⟨rfl, S', pv', vt', va', T', A', unhide Q1, unhide Q0, unhide Q2⟩
    · have e := hM_stop (ask := ask) f n gk s' x' (fun hh => hlt hh.1)
      have Q1 := hide q1
      have Q2 := hide q2
      have Q0 := hide q0
      have E := hide (q3.symm.trans e)
      clear q1 q2 q3 q4 e q0 hSb
      generalize s'.next = nx at *
      generalize s'.fin = fi at *
      go_wp2
      go_end0
      rw [unhide E]
      exact ⟨rfl, S', pv', vt', va', T', A', unhide Q1, unhide Q0, unhide Q2⟩
end
end Go.Proofs.YtfmbebofllgmoaaGreatDoor
namespace Go.Proofs.YtfmbebofllgmoaaGreatDoor
open Go.RowKit
attribute [local go_sem ↓] Go.wp_at_zero Go.wp_at_succ

theorem wpList_grown {ops : Array Oper} {rest : List Oper} {o : Oper} {a : Act} {Q : Exit → Act → World → Prop} {w : World} {B t e size bytes : Nat} (E : Elem t e size bytes) (hs0 : 0 < size) (hs1 : bytes ≤ 140) {v : Value} {n m : Nat} {xs news : List Value} (hgd : o.guard = none) (sv xv : Operand)
    (ho : o.op = .call { callee := .builtin .append, args := #[sv, xv], argTypes := #[t, t] }) {ad : Addr} {cap : Nat} (hs : a.eval sv = v) (hx : a.eval xv = .slice (some ad) m cap) (hrow : w.ownsRow B e size v n xs) (hl : news.length = m * size)
    (hc : ∀ j u, news[j]? = some u → w.cell? (ad.add j) = some u) (h1 : ∀ u ∈ news, u.oneCell' = true) (hm : 0 < m) (hn : n + m ≤ 1000000000000) (hB : B ≤ w.heap.size)
    (h : ∀ v' w', w'.ownsRow B e size v' (n + m) (xs ++ news) → Fr (own v) w w' (own v') → (∃ a c, v' = .slice a (n + m) c) → wpList Tryz.prog ops Q rest (a.put o.dst v') w') : wpList Tryz.prog ops Q (o :: rest) a w := by
  obtain ⟨i, z, hi, hz, hsz, hby, hzc⟩ := E.i
  have hmx : n + m ≤ maxLen := by simp only [maxLen]; omega
  have hbb : (n + m) * bytes ≤ 140737488355328 := Nat.le_trans (Nat.mul_le_mul hn hs1) (by omega)
  refine wpList_append_lies _ hgd sv xv t ho B e i z size bytes E.u hi hz hsz hby hzc hs0 v n xs hs hrow ad m cap news hx hl hc h1 hm hmx hbb hB w.heap.size rfl ?_
  intro g cp w' h1 h2 h3 h4
  exact h _ w' h1 (grow_fr h2 h3) ⟨_, _, rfl⟩

section
variable {σ : Type} {SQ : (Nat → Value) → (Nat → Prop) → World → σ → Prop} {ask : σ → Int → Int → Rep × σ} {may : Int → Int → Prop} {mes : σ → Nat} {B : Nat} {S T : Nat → Prop} {w : World} {b : Nat} {pv : Nat → Value} {vt va : Value} {s : PS} {A : List AT} {tn sq : Int} {x : σ}

theorem rinv_arm {p : Pg} {N : Nat} {s : PS} (h : RInv p N s) : s.armings ≤ 5000 := by have := h.1.armings.2; have := h.1.fuel.1; omega
/-- How far the timers have come. -/
def TRel (SQ : (Nat → Value) → (Nat → Prop) → World → σ → Prop) (ask : σ → Int → Int → Rep × σ) (B : Nat) (S : Nat → Prop) (w : World) (b : Nat) (pv : Nat → Value) (tn sq : Int) (p : Pg) (now : Int) (M : Nat) (tot : PS × σ) (k : Nat) (u : Value) (wr : World) : Prop :=
  ∃ S' pv' vt' va' T' A' s' x' N l, LQ SQ B S' wr b pv' vt' va' T' s' A' tn sq x' ∧ (∀ i, i < 3 → pv' i = pv i) ∧ Fr S w wr S' ∧ frM (gT ask p) l s' x' = tot ∧ TL s' l now sq ∧ RInv p N s' ∧ N + l.length ≤ M ∧ l.length = k ∧ u = .int .i64 (dueI A' now tn A'.length)

set_option maxHeartbeats 4000000 in
set_option maxRecDepth 20000 in
theorem timersQ_any (L : SQLaw SQ B) (K : HearQ SQ ask may B) (hm : may 1 0) (hm4 : ∀ v, 1 ≤ v → v ≤ 1000000 → may 4 v) (hs : SrcOk ask mes)
    {w0 : World} (hB : B = w0.heap.size) (hbel : Below w0.heap.size w0 w) {p : Pg} (pg : PgAt w0 pv p) (ok : PgOk p) (h : LQ SQ B S w b pv vt va T s A tn sq x) {N : Nat} (hq : RInv p N s) (hN : N + 8 ≤ 100000000) (hsq : s.armings ≤ sq) :
    Calls Tryz.prog 128 #[.pointer (some ⟨b, 0, none⟩)] w fun e w' => e = .returned (.tuple #[]) ∧ LPost SQ B S w b pv tn sq (frM (gT ask p) (dueS s) s x).1 (frM (gT ask p) (dueS s) s x).2 w' := by
  have hst := TL.start h.rel hsq
  have hdl := due_length s
  have hSB : ∀ k, S k → B ≤ k := fun k hk => (h.bound k hk).1
  have hBw : B ≤ w.heap.size := h.below
  have HD := hide (dueQ_any L h s.clock (rinv_arm hq))
  have k14 := (h.cell 14 (by omega)).trans (by rw [limg_clock])
  have r0 : ∀ W, Fr (fun _ => False) w W (fun _ => False) → TRel SQ ask B S w b pv tn sq p s.clock (N + 8) (frM (gT ask p) (dueS s) s x) (dueS s).length (.int .i64 (dueI A s.clock tn A.length)) W := fun W hW =>
    ⟨S, pv, vt, va, T, A, s, x, N, dueS s, h.fr L hW, fun _ _ => rfl, hW.wide _, rfl, hst, hq, by omega, rfl, rfl⟩
  obtain ⟨ta, tc, htv, _, htf⟩ := pg.t
  generalize frM (gT ask p) (dueS s) s x = tot at *
  generalize s.clock = now at *
  generalize (dueS s).length = dl at *
  have R0 := hide r0
  have HSB := hide hSB
  have HBW := hide hBw
  have HBEL := hide hbel
  have HBE := hide hB
  have HTF := hide htf
  clear h r0 hst hSB hBw hbel hB hq htf
  go_enter Tryz.func128, Tryz.ntmps128
  go_wp2_with fail
  go_at_call 142
  refine (unhide HD).mono ?_
  rintro e w1 ⟨rfl, f1⟩
  have R1 := hide (unhide R0 w1 f1)
  clear f1 R0 HD k14
  go_wp2
  go_loopg [3] dl (fun k u wr => TRel SQ ask B S w b pv tn sq p now (N + 8) tot k u wr)
  case atStart => exact unhide R1
  case round =>
    obtain ⟨S', pv', vt', va', T', A', s', x', N', l, q1, q0, q2, q3, q4, q5, q6, rfl, rfl⟩ := hrel
    have c27 := (q1.cell 27 (by omega)).trans (by rw [limg_fin])
    have hdk := dueI_ok A' now tn A'.length (Nat.le_refl _)
    have hbr := q1.blt
    rcases hdk with ⟨hr1, hr2⟩ | ⟨m, pp, hml, hrm, hpm, hcd, hall⟩
    · have e := TL.none q4 q1.rel hr2 x' (g := gT ask p)
      have Q1 := hide q1
      have Q2 := hide q2
      have Q0 := hide q0
      have E := hide (q3.symm.trans e)
      rw [hr1]
      clear q1 q2 q3 q4 q5 e q0 hr2 hr1
      go_wp2
      go_end0
      rw [unhide E]
      exact ⟨rfl, S', pv', vt', va', T', A', unhide Q1, unhide Q0, unhide Q2⟩
    · rw [hrm]
      by_cases hfi : s'.fin = 0
      · obtain ⟨l2, hl2, hfr, htl⟩ := TL.next q4 q1.rel hpm hcd hall hfi x' (g := gT ask p)
        obtain ⟨aa, ca, hva⟩ := row_shape q1.arow
        subst hva
        obtain ⟨g, cg, hv, k0, k1, k2⟩ := at_cells q1.arow hpm
        injection hv with hv hv2 hv3
        subst hv
        clear hv2 hv3 k1 k2
        have c16 := (q1.cell 16 (by omega)).trans (by rw [limg_armed])
        obtain ⟨a1, a2, a3, a4⟩ := q1.rel.mem pp (List.mem_of_getElem? hpm)
        have hwt : pp.1.2.2.2 < (p.tn : Int) := by
          have := q5.2.num pp.1.2.2.2.toNat (by rw [a4]; exact a1)
          omega
        obtain ⟨z, hz⟩ : ∃ z, pp.1.2.2.2 = z := ⟨_, rfl⟩
        rw [hz] at k0 hwt a2 a3 a4 hfr htl
        obtain ⟨ua, uc, hut⟩ := row_shape q1.row
        subst hut
        rcases unhide HTF with hz0 | ⟨tb, toff, rfl, htb⟩
        · omega
        obtain ⟨vi, hvi, hops⟩ := htb z.toNat (by omega)
        have htbl : tb < w0.heap.size := World.block_lt_of_cell? _ _ hvi
        have HC := hide (cancelQ_any L q1 z a2 (rinv_arm q5))
        have hln : s'.trace.length ≤ 100000000 := by have := q5.1.trace; omega
        have hq2 : RInv p (N' + 1) (offS s' z) := off_rinv z q5
        have hq3 := hM_rinv hs (ok.tr z.toNat (by omega)) (offS s' z) x' hq2
        have hold : Olds sq (offS s' z) (hM ask (p.tf z.toNat) (p.tl z.toNat) (p.tl z.toNat) { offS s' z with next := 0 } x').1 := by
          have h1 := hM_old (ask := ask) (f := p.tf z.toNat) (n := p.tl z.toNat) (p.tl z.toNat) { offS s' z with next := 0 } x' (sq := sq) q1.rel.sq
          exact Olds.trans (.of rfl rfl) h1
        have htl' := htl _ hold
        have hk0 : (0 : Int) ≤ (m : Int) := by omega
        have hk1 : (m : Int) < (A'.length : Int) := by omega
        have hfb : (s'.fin == 0) = true := by simpa using hfi
        have E := hide (q3.symm.trans hfr)
        have Q0 := hide q0
        have Q1 := hide q1
        have Q2 := hide q2
        have HQ2 := hide hq2
        have HQ3 := hide hq3
        have HTL := hide htl'
        have HOPS := hide hops
        have HVI := hide hvi
        clear q1 q2 q3 q4 q5 q0 hfr htl hq2 hq3 hold htl' hops hvi htb hpm hcd hall a1 a3 a4 hz hfi
        go_wp2_with fail
        go_at_call 140
        refine (unhide HC).mono ?_
        rintro e w2 ⟨rfl, S2, va2, h2, f2⟩
        have k26 := (h2.cell 26 (by omega)).trans (by rw [limg_trace])
        have nb := heap_alloc_new w2 (.cells #[.int .i64 1, .int .i64 z, .int .i64 0] 72)
        have h2a := h2.alloc L (.cells #[.int .i64 1, .int .i64 z, .int .i64 0] 72)
        have hb2 := h2.blt
        have hB2 := h2a.below
        have NB := hide nb
        have H2A := hide h2a
        have F2A := hide (f2.alloc (.cells #[.int .i64 1, .int .i64 z, .int .i64 0] 72))
        clear nb h2 h2a f2 HC
        go_wp2_with (at_builtin; refine wpList_grown elemE (by omega) (by omega) (B := B) (n := s'.trace.length) (m := 1) (xs := flatE s'.trace) (news := [.int .i64 1, .int .i64 z, .int .i64 0]) rfl (.tmp 39) (.tmp 42) rfl (ad := ⟨w2.heap.size, 0, none⟩) (cap := 1) rfl rfl (unhide H2A).row rfl (World.news_of_block (unhide NB)) (by simp [Value.oneCell']) (by omega) (by omega) hB2 ?_; intro v3 w3 o3 f3 sh3; obtain ⟨av, cv, rfl⟩ := sh3; have c3 := (unhide H2A).cells.block (f3.same b (unhide H2A).blt (fun e => ((unhide H2A).inV b e).2.1 rfl)); have k26' := (c3 26 (by omega)).1.trans (by rw [limg_trace]); have z26 := (c3 26 (by omega)).2; have FIN := hide ((unhide H2A).setTrace L (o := (1, z, 0)) o3 f3); have k1 := ((unhide FIN).1.cell 1 (by omega)).trans (by rw [limg_pv _ _ _ _ _ _ (by omega), unhide Q0 1 (by omega), htv]); have hbel4 : Below w0.heap.size w0 (w3.setCell ⟨b, 26, none⟩ (.slice av (s'.trace.length + 1) cv)) := (unhide HBEL).trans (unhide HBE ▸ ((unhide Q2).trans ((unhide F2A).trans (unhide FIN).2)).below (unhide HSB) (unhide HBW)); have kvi := (bcel hbel4 tb (toff + z.toNat) htbl).trans (unhide HVI); have htw4 : tb < (w3.setCell ⟨b, 26, none⟩ (.slice av (s'.trace.length + 1) cv)).heap.size := Nat.lt_of_lt_of_le htbl hbel4.size; have HBEL4 := hide hbel4; clear o3 f3 c3 hbel4)
        refine (handlerQ_any L K hm hm4 hs.clock (unhide HBE) (unhide HBEL4) (unhide FIN).1 (unhide HOPS) (ok.tl z.toNat (by omega)) ok.tn ok.fn (ok.tr z.toNat (by omega)) (unhide HQ2).1 (by omega)).mono ?_
        rintro e w5 ⟨rfl, S5, pv5, vt5, va5, T5, A5, h5, p5, f5⟩
        have HD5 := hide (dueQ_any L h5 now (rinv_arm (unhide HQ3)))
        have H5 := hide h5
        have P5 := hide p5
        have F5 := hide f5
        clear h5 p5 f5 kvi k1 k26' z26 htw4
        go_wp2_with fail
        go_at_call 142
        refine (unhide HD5).mono ?_
        rintro e w6 ⟨rfl, f6⟩
        have F6 := hide f6
        clear f6 HD5
        go_wp2
        go_roundg l2.length
        case rel =>
          refine ⟨S5, pv5, vt5, va5, T5, A5, _, _, N' + 1, l2, (unhide H5).fr L (unhide F6), fun i hi => (unhide P5 i hi).trans (unhide Q0 i hi), ((unhide Q2).trans ((unhide F2A).trans ((unhide FIN).2.trans (unhide F5)))).trans ((unhide F6).wide _), (unhide E).symm, unhide HTL, unhide HQ3, by omega, rfl, rfl⟩
        case measure => omega
      · have e := frM_stop (g := gT ask p) l s' x' hfi
        have hfb : (s'.fin == 0) = false := by simpa using hfi
        have hk0 : (0 : Int) ≤ (m : Int) := by omega
        have Q1 := hide q1
        have Q2 := hide q2
        have Q0 := hide q0
        have E := hide (q3.symm.trans e)
        clear q1 q2 q3 q4 q5 e q0 hall hcd hpm hfi
        go_wp2
        go_end0
        rw [unhide E]
        exact ⟨rfl, S', pv', vt', va', T', A', unhide Q1, unhide Q0, unhide Q2⟩
end
end Go.Proofs.YtfmbebofllgmoaaGreatDoor
