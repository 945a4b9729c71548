/-
  PROVED HERE: the document's reader: bodies of lots. the document's reader: the input of a body. one step of kind KRead of a script is as the document says. what a script, its programs and their handlers look like in memory, out of the form's own reading and reach. what raw handlers and a raw world look like in memory, out of the form's own reading and bulk. what a script looks like in memory, its logs' sizes within its bulk. all steps of kind KRead of a script are as the document says.
-/
import Derived.Test.YtfmbebofllgmoaaGreatDoorProg
import Derived.WalkKit
import Derived.WalkSpells
import Derived.WalkLawsBesides
import Derived.Deep.QuietTactic
import Derived.BigQuiet
import Derived.Deep.RegionHeld3
import Derived.Deep.AppendLies
import Derived.Laws.EntriesVeiled
import Derived.Deep.DrawnRows
import Derived.BigRegion
import Derived.Deep.LoopGhost
import Derived.Deep.RegionLaw
import Derived.Lib.SliceRun
import Derived.Laws.BytesString
import Derived.ArgAppend
import Derived.Laws.BitsAllLaws
import Derived.Deep.MidRow
import Derived.Shelf.SlSortCmp.SmallK
import Derived.Shelf.SlicesG.Cmp
import Derived.Shelf.Small.Bits
import Derived.Laws.StructEq
import Derived.Deep.DeepCutAuto
import Derived.Conc.LoneCalls
import Derived.Calls
import Derived.Tactics
import Derived.KernelRfl
import Derived.Laws.Rows
import Derived.Lib.SlBytesConst
import Derived.RangeFuncOwn
import Derived.Laws.IdiomStrings
import Derived.RangeFuncNested
import Derived.RangeFuncBound
import Derived.RangeFuncCalls
import Derived.RangeFuncLeaves
import Derived.Shelf.RegionOpen
import Derived.OwnWalkIn
import Derived.TacticsInMore
import Derived.Maps.OwnIn
import Derived.Maps.AppendAt
import Derived.LoopNIn
import Derived.LoopIn
import Derived.ChangeKeysEq
import Derived.Deep.DeepAppendRoom
import Derived.ProofKit
import Derived.OpenShut
import Derived.SizedLaws
import Derived.Deep.Slices
import Derived.Deep.Strs
import Derived.Lib.SmallJoins
import Derived.Test.YtfmbebofllgmoaaGreatDoorRows
import Derived.Deep.DeepHandedRow
import Derived.Lib.LaidTab
import Derived.Test.YtfmbebofllgmoaaGreatDoorSreadsc
namespace Go.Proofs.YtfmbebofllgmoaaGreatDoor
open Go.RowKit
attribute [local go_sem ↓] Go.wp_at_zero Go.wp_at_succ

set_option maxHeartbeats 4000000 in
set_option maxRecDepth 20000 in
theorem parsed_k4 (s : ByteArray) (hs : s.size ≤ 100) (w : World) (h0 : 0 < s.size) (hkk : byteAt s 0 = 4) : Calls Tryz.prog 77 #[.string s] w (PdPost s w) := by
  obtain ⟨t0, t1⟩ := two_allocsD w.heap (.cells #[.int .i64 0, .int .i64 0, .int .i64 0, .slice none 0 0] 49) (.cells #[.int .i64 0, .int .i64 0, .int .i64 0, .slice none 0 0] 49)
  change ((w.alloc _).alloc _).heap[_]? = _ at t0 t1
  have hfw : Fr (fun _ => False) w ((w.alloc (.cells #[.int .i64 0, .int .i64 0, .int .i64 0, .slice none 0 0] 49)).alloc (.cells #[.int .i64 0, .int .i64 0, .int .i64 0, .slice none 0 0] 49)) (fun _ => False) := ((Fr.refl _ _).alloc _).alloc _
  have HFW := hide hfw
  · obtain ⟨r, hbs, hrl⟩ := bs_cons h0
    obtain ⟨W, hW⟩ : ∃ W, ((w.alloc (.cells #[.int .i64 0, .int .i64 0, .int .i64 0, .slice none 0 0] 49)).alloc (.cells #[.int .i64 0, .int .i64 0, .int .i64 0, .slice none 0 0] 49)) = W := ⟨_, rfl⟩
    have hb1 : bs (s.extract 1 s.size) = r := by rw [bs_extract, hbs]; rfl
    have hsz1 : (s.extract 1 s.size).size = r.length := by rw [← bs_len, hb1]
    have hnd : numsD (s.extract 1 s.size) = nsGo r.length r := by unfold numsD; rw [hb1, hsz1]
    have h111 := numbers_any (s.extract 1 s.size) (by omega) W
    have hbyte := byteAt_eq s 0 h0
    have hblt := byteAt_lt s 0
    obtain ⟨k, hk⟩ : ∃ k, byteAt s 0 = k := ⟨_, rfl⟩
    rw [hk] at hbs hbyte hblt hkk
    have HKK := hide hkk
    clear hkk
    rw [hW] at t0 t1 HFW
    have H111 := hide h111
    have HW := hide hW
    have T0 := hide t0
    have T1 := hide t1
    have HBS := hide hbs
    have HND := hide hnd
    have hi1 : (1 : Int) ≤ (s.size : Int) := by omega
    have hne := str_pos h0
    clear h111 hW t0 t1 hbs hnd hb1 hsz1 hrl
    go_enter Tryz.func77, Tryz.ntmps77
    go_wp2_with fail
    rw [unhide HW]
    go_at_call 111
    refine (unhide H111).mono ?_
    rintro e w1 ⟨f1, hm⟩
    rw [unhide HND] at hm
    have hf1 := (unhide HFW).trans f1
    have x0 := (f1.same _ (Array.getElem?_eq_some_iff.1 (unhide T0)).1 (fun h => h)).trans (unhide T0)
    have x1 := (f1.same _ (Array.getElem?_eq_some_iff.1 (unhide T1)).1 (fun h => h)).trans (unhide T1)
    have hz1 : w.heap.size + 1 < w1.heap.size := (Array.getElem?_eq_some_iff.1 x1).1
    have c0 := fun j => cell_of_row w1 _ j _ 49 (0, 0) x0
    have c1 := fun j => cell_of_row w1 _ j _ 49 (0, 0) x1
    have z0 := fun j => frozen_rowE x0 j
    have z1 := fun j => frozen_rowE x1 j
    have HF1 := hide hf1
    have X0 := hide x0
    have X1 := hide x1
    have HWW := hide f1.size
    have HWZ := hide (show W.heap.size = w.heap.size + 2 by rw [← unhide HW]; simp)
    clear f1 hf1 x0 x1 HFW T0 T1 H111
    cases hns : nsGo r.length r with
    | none =>
      rw [hns] at hm
      have hm' : e = .returned (.tuple #[.slice none 0 0, .bool false]) := hm
      subst hm'
      have hip := hide (parse_nums (unhide HBS) hns)
      clear hm hns
      go_wp2
      refine bodyPost_ret (v := .tuple #[.agg #[.int .i64 0, .int .i64 0, .int .i64 0, .slice none 0 0], .bool false]) (by simp [results, Tryz.results77, go_sem, c0]) rfl ?_
      refine pd_none (unhide hip) ?_
      repeat (first | exact unhide HF1 | refine Fr.setCell ?_ _ _ (.inr (Nat.le_refl _)))
    | some ns =>
      rw [hns] at hm
      obtain ⟨hnl, v, he, ho⟩ := hm
      have hnl : ns.length ≤ 200 := by have h : (s.extract 1 s.size).size ≤ s.size := by simp [ByteArray.size_extract]
                                       omega
      subst he
      obtain ⟨va, vc, rfl⟩ := ownI_slice ho
      rw [zs_len]
      rw [zs_len] at ho
      cases ns with
      | nil =>
        have hip := hide (parse_bad (unhide HBS) hns rfl)
        clear hns ho hnl
        go_wp2
        refine bodyPost_ret (v := .tuple #[.agg #[.int .i64 0, .int .i64 0, .int .i64 0, .slice none 0 0], .bool false]) (by simp [results, Tryz.results77, go_sem, c0]) rfl ?_
        refine pd_none (unhide hip) ?_
        repeat (first | exact unhide HF1 | refine Fr.setCell ?_ _ _ (.inr (Nat.le_refl _)))
      | cons a t =>
        obtain ⟨g, cap, cur, hv, hg1, hg2, hg3, hg4, hg5, hg6⟩ := ownI_parts ho (by simp [zs])
        injection hv with hv1 hv2 hv3
        subst hv1 hv3
        have hgz : g < w1.heap.size := (Array.getElem?_eq_some_iff.1 hg2).1
        have hg1' : w.heap.size + 1 < g := by have := unhide HWZ; omega
        have l0 : w1.cell? ⟨g, 0, none⟩ = some (.int .i64 (a : Nat)) := by have := hg6 0 (by simp [zs]); simpa [zs] using this
        have HG6 := hide hg6
        have HNS := hide hns
        have hlen : (a :: t).length = t.length + 1 := rfl
        rw [hlen]
        have htl : t.length ≤ 200 := by have : (a :: t).length ≤ 200 := by omega
                                        simpa using Nat.le_of_succ_le this
        have ht0 : (0 : Int) < (t.length : Int) + 1 := by omega
        have hkc : ((s[0]'h0).toNat : Int) = (k : Int) := by rw [hbyte]
        clear hg6 hg5 hg4 hg2 hns ho hv2 hlen hbyte
        have y1 := setCell_row w1 (w.heap.size + 1) 0 _ 49 (.int .i64 (k : Int)) (unhide X1)
        have y0 : (w1.setCell ⟨w.heap.size + 1, 0, none⟩ (.int .i64 (k : Int))).heap[w.heap.size]? = _ := (Below.heap_setCell w1 ⟨w.heap.size + 1, 0, none⟩ (.int .i64 (k : Int)) w.heap.size (by simp)).trans (unhide X0)
        have yl : (w1.setCell ⟨w.heap.size + 1, 0, none⟩ (.int .i64 (k : Int))).heap[g]? = w1.heap[g]? := Below.heap_setCell w1 ⟨w.heap.size + 1, 0, none⟩ (.int .i64 (k : Int)) g (by simp; omega)
        have hfy := (unhide HF1).setCell ⟨w.heap.size + 1, 0, none⟩ (.int .i64 (k : Int)) (.inr (by simp))
        have hyz : (w1.setCell ⟨w.heap.size + 1, 0, none⟩ (.int .i64 (k : Int))).heap.size = w1.heap.size := by simp [World.setCell]
        go_upto_region 9 with fail
        generalize hw2 : w1.setCell ⟨w.heap.size + 1, 0, none⟩ (.int .i64 (k : Int)) = w2 at *
        have lc : ∀ j, j < t.length + 1 → w2.cell? ⟨g, j, none⟩ = some (.int .i64 ((a :: t).getD j 0 : Nat)) := fun j hj => by
          rw [cellOf_heap yl]
          have h := unhide HG6 j (by rw [zs_len]; exact hj)
          rw [h, zs_getD]
        have c0 := fun j => cell_of_row w2 _ j _ 49 (0, 0) y0
        have c1 := fun j => cell_of_row w2 _ j _ 49 (0, 0) y1
        have z1 := fun j => frozen_rowE y1 j
        have z0 := fun j => frozen_rowE y0 j
        have l0 := lc 0 (by omega)
        have LC := hide lc
        have Y0 := hide y0
        have Y1 := hide y1
        have HFY := hide hfy
        have hz2 : w.heap.size + 1 < w2.heap.size := by omega
        have hg2 : g < w2.heap.size := by omega
        clear y0 y1 yl hfy hyz hw2 lc X0 X1 HF1 HG6 hz1 hgz hg1 HWW
        have hkk := unhide HKK
        subst hkk
        rcases t with _ | ⟨b, _ | ⟨b2, t⟩⟩
        · have HIP := hide (parse_bad (unhide HBS) (unhide HNS) (by simp only [candD]; rw [if_neg (by decide), if_neg (by decide), if_neg (by decide), if_pos trivial]))
          go_wp2
          refine bodyPost_ret (v := .tuple #[.agg #[.int .i64 4, .int .i64 0, .int .i64 0, .slice none 0 0], .bool false]) (by simp [results, Tryz.results77, go_sem, c0]) rfl ?_
          refine pd_none (unhide HIP) ?_
          repeat (first | exact unhide HFY | refine Fr.setCell ?_ _ _ (.inr (Nat.le_refl _)))
        · have l1 : w2.cell? ⟨g, 1, none⟩ = some (.int .i64 (b : Nat)) := unhide LC 1 (by simp)
          by_cases hba : b < a
          · have hbi : (b : Int) < (a : Int) := by omega
            by_cases h8 : a ≤ 1000000
            · have h8i : (a : Int) ≤ 1000000 := by omega
              have hcd : candD 4 [a, b] = some (4, a, b, []) := by simp only [candD]; rw [if_neg (by decide), if_neg (by decide), if_neg (by decide), if_pos trivial, if_pos ⟨hba, h8⟩]
              have hbd := fun W => body_two 4 a b (.slice none 0 0) none 0 0 rfl (.inr rfl) (by omega) (by omega) W
              go_upto_region 32 with fail
              have p1 := setCell_row w2 (w.heap.size + 1) 1 _ 49 (.int .i64 (a : Int)) (unhide Y1)
              have q1 := setCell_row _ (w.heap.size + 1) 2 _ 49 (.int .i64 (b : Int)) p1
              have q0 : ((w2.setCell ⟨w.heap.size + 1, 1, none⟩ (.int .i64 (a : Int))).setCell ⟨w.heap.size + 1, 2, none⟩ (.int .i64 (b : Int))).heap[w.heap.size]? = _ := (Below.heap_setCell (w2.setCell ⟨w.heap.size + 1, 1, none⟩ (.int .i64 (a : Int))) ⟨w.heap.size + 1, 2, none⟩ (.int .i64 (b : Int)) w.heap.size (by simp)).trans ((Below.heap_setCell w2 ⟨w.heap.size + 1, 1, none⟩ (.int .i64 (a : Int)) w.heap.size (by simp)).trans (unhide Y0))
              have qf := ((unhide HFY).setCell ⟨w.heap.size + 1, 1, none⟩ (.int .i64 (a : Int)) (.inr (by simp))).setCell ⟨w.heap.size + 1, 2, none⟩ (.int .i64 (b : Int)) (.inr (by simp))
              clear p1
              generalize hw3 : (w2.setCell ⟨w.heap.size + 1, 1, none⟩ (.int .i64 (a : Int))).setCell ⟨w.heap.size + 1, 2, none⟩ (.int .i64 (b : Int)) = w3 at *
              have d0 := fun j => cell_of_row w3 _ j _ 49 (0, 0) q0
              have d1 := fun j => cell_of_row w3 _ j _ 49 (0, 0) q1
              have u0 := fun j => frozen_rowE q0 j
              have HFQ := hide qf
              have hz3 : w.heap.size + 1 < w3.heap.size := (Array.getElem?_eq_some_iff.1 q1).1
              clear c0 c1 z1 z0 q0 q1 qf hw3
              obtain ⟨B, hB⟩ : ∃ B, bodyS 4 a b = B := ⟨_, rfl⟩
              have hpc := parse_cand (unhide HBS) (unhide HNS) hcd (b := B) (by rw [← hB]; exact bs_body2 4 a b [] (.inr rfl))
              rw [hB] at hbd
              have HBD := hide hbd
              clear hbd hB
              by_cases hBs : B = s
              · have hip := hide (hpc.1 hBs)
                clear hpc
                subst hBs
                go_region_held3 (fun w' => w'.cell? ⟨w.heap.size + 1, 0, none⟩ = some (.int .i64 (4)) ∧ w'.cell? ⟨w.heap.size + 1, 1, none⟩ = some (.int .i64 (a : Nat)) ∧ w'.cell? ⟨w.heap.size + 1, 2, none⟩ = some (.int .i64 (b : Nat)) ∧ w'.cell? ⟨w.heap.size + 1, 3, none⟩ = some (.slice none 0 0)) (first | (simp [go_sem, d1]; done) | (simp [go_sem, g1]; done)) (first | (go_at_call 112; refine (unhide HBD _).mono ?_; rintro e w4 ⟨rfl, f4⟩; have g0 := fun j => (f4.cell w.heap.size j (by simp; omega) (fun h => h)).trans (d0 j); have g1 := fun j => (f4.cell (w.heap.size + 1) j (by simp; omega) (fun h => h)).trans (d1 j); have v0 := fun j => (f4.frozen w.heap.size j (by simp; omega) (fun h => h)).trans (u0 j); have HF4 := hide ((unhide HFQ).trans (show Fr (fun _ => False) w3 w4 (fun _ => False) from ⟨f4.os, f4.tape, f4.output, f4.size, f4.same, f4.old⟩)); clear f4))
                all_goals
                  go_wp2_with fail
                  refine bodyPost_ret (v := .tuple #[.agg #[.int .i64 (4), .int .i64 (a : Nat), .int .i64 (b : Nat), .slice none 0 0], .bool true]) (by simp [results, Tryz.results77, go_sem, g0]) rfl ?_
                  refine pd_some (x := (4, a, b, [])) (unhide hip) ?_ ?_
                  · repeat (first | exact unhide HF4 | refine Fr.drew ?_ | refine Fr.setCell ?_ _ _ (.inr (Nat.le_refl _)))
                  · exact ⟨none, 0, rfl, .inl rfl⟩
              · have hip := hide (hpc.2 hBs)
                have hbq := str_ne hBs
                clear hpc hBs
                go_region_held3 (fun w' => w'.cell? ⟨w.heap.size + 1, 0, none⟩ = some (.int .i64 (4)) ∧ w'.cell? ⟨w.heap.size + 1, 1, none⟩ = some (.int .i64 (a : Nat)) ∧ w'.cell? ⟨w.heap.size + 1, 2, none⟩ = some (.int .i64 (b : Nat)) ∧ w'.cell? ⟨w.heap.size + 1, 3, none⟩ = some (.slice none 0 0)) (first | (simp [go_sem, d1]; done) | (simp [go_sem, g1]; done)) (first | (go_at_call 112; refine (unhide HBD _).mono ?_; rintro e w4 ⟨rfl, f4⟩; have g0 := fun j => (f4.cell w.heap.size j (by simp; omega) (fun h => h)).trans (d0 j); have g1 := fun j => (f4.cell (w.heap.size + 1) j (by simp; omega) (fun h => h)).trans (d1 j); have v0 := fun j => (f4.frozen w.heap.size j (by simp; omega) (fun h => h)).trans (u0 j); have HF4 := hide ((unhide HFQ).trans (show Fr (fun _ => False) w3 w4 (fun _ => False) from ⟨f4.os, f4.tape, f4.output, f4.size, f4.same, f4.old⟩)); clear f4))
                all_goals
                  go_wp2_with fail
                  refine bodyPost_ret (v := .tuple #[.agg #[.int .i64 (4), .int .i64 (a : Nat), .int .i64 (b : Nat), .slice none 0 0], .bool false]) (by simp [results, Tryz.results77, go_sem, g0, hbq]) rfl ?_
                  refine pd_none (unhide hip) ?_
                  repeat (first | exact unhide HF4 | refine Fr.drew ?_ | refine Fr.setCell ?_ _ _ (.inr (Nat.le_refl _)))
            · have h8i : ¬ (a : Int) ≤ 1000000 := by omega
              have HIP := hide (parse_bad (unhide HBS) (unhide HNS) (by simp only [candD]; rw [if_neg (by decide), if_neg (by decide), if_neg (by decide), if_pos trivial, if_neg (fun h => h8 h.2)]))
              go_upto_region 32 with fail
              have p1 := setCell_row w2 (w.heap.size + 1) 1 _ 49 (.int .i64 (a : Int)) (unhide Y1)
              have q1 := setCell_row _ (w.heap.size + 1) 2 _ 49 (.int .i64 (b : Int)) p1
              have q0 : ((w2.setCell ⟨w.heap.size + 1, 1, none⟩ (.int .i64 (a : Int))).setCell ⟨w.heap.size + 1, 2, none⟩ (.int .i64 (b : Int))).heap[w.heap.size]? = _ := (Below.heap_setCell (w2.setCell ⟨w.heap.size + 1, 1, none⟩ (.int .i64 (a : Int))) ⟨w.heap.size + 1, 2, none⟩ (.int .i64 (b : Int)) w.heap.size (by simp)).trans ((Below.heap_setCell w2 ⟨w.heap.size + 1, 1, none⟩ (.int .i64 (a : Int)) w.heap.size (by simp)).trans (unhide Y0))
              have qf := ((unhide HFY).setCell ⟨w.heap.size + 1, 1, none⟩ (.int .i64 (a : Int)) (.inr (by simp))).setCell ⟨w.heap.size + 1, 2, none⟩ (.int .i64 (b : Int)) (.inr (by simp))
              clear p1
              generalize hw3 : (w2.setCell ⟨w.heap.size + 1, 1, none⟩ (.int .i64 (a : Int))).setCell ⟨w.heap.size + 1, 2, none⟩ (.int .i64 (b : Int)) = w3 at *
              have d0 := fun j => cell_of_row w3 _ j _ 49 (0, 0) q0
              have d1 := fun j => cell_of_row w3 _ j _ 49 (0, 0) q1
              have u0 := fun j => frozen_rowE q0 j
              have HFQ := hide qf
              have hz3 : w.heap.size + 1 < w3.heap.size := (Array.getElem?_eq_some_iff.1 q1).1
              clear c0 c1 z1 z0 q0 q1 qf hw3
              go_region
              all_goals
                go_wp2_with fail
                refine bodyPost_ret (v := .tuple #[.agg #[.int .i64 (4), .int .i64 (a : Nat), .int .i64 (b : Nat), .slice none 0 0], .bool false]) (by simp [results, Tryz.results77, go_sem, d0]) rfl ?_
                refine pd_none (unhide HIP) ?_
                repeat (first | exact unhide HFQ | refine Fr.drew ?_ | refine Fr.setCell ?_ _ _ (.inr (Nat.le_refl _)))
          · have hbi : ¬ (b : Int) < (a : Int) := by omega
            have HIP := hide (parse_bad (unhide HBS) (unhide HNS) (by simp only [candD]; rw [if_neg (by decide), if_neg (by decide), if_neg (by decide), if_pos trivial, if_neg (fun h => hba h.1)]))
            go_upto_region 32 with fail
            have p1 := setCell_row w2 (w.heap.size + 1) 1 _ 49 (.int .i64 (a : Int)) (unhide Y1)
            have q1 := setCell_row _ (w.heap.size + 1) 2 _ 49 (.int .i64 (b : Int)) p1
            have q0 : ((w2.setCell ⟨w.heap.size + 1, 1, none⟩ (.int .i64 (a : Int))).setCell ⟨w.heap.size + 1, 2, none⟩ (.int .i64 (b : Int))).heap[w.heap.size]? = _ := (Below.heap_setCell (w2.setCell ⟨w.heap.size + 1, 1, none⟩ (.int .i64 (a : Int))) ⟨w.heap.size + 1, 2, none⟩ (.int .i64 (b : Int)) w.heap.size (by simp)).trans ((Below.heap_setCell w2 ⟨w.heap.size + 1, 1, none⟩ (.int .i64 (a : Int)) w.heap.size (by simp)).trans (unhide Y0))
            have qf := ((unhide HFY).setCell ⟨w.heap.size + 1, 1, none⟩ (.int .i64 (a : Int)) (.inr (by simp))).setCell ⟨w.heap.size + 1, 2, none⟩ (.int .i64 (b : Int)) (.inr (by simp))
            clear p1
            generalize hw3 : (w2.setCell ⟨w.heap.size + 1, 1, none⟩ (.int .i64 (a : Int))).setCell ⟨w.heap.size + 1, 2, none⟩ (.int .i64 (b : Int)) = w3 at *
            have d0 := fun j => cell_of_row w3 _ j _ 49 (0, 0) q0
            have d1 := fun j => cell_of_row w3 _ j _ 49 (0, 0) q1
            have u0 := fun j => frozen_rowE q0 j
            have HFQ := hide qf
            have hz3 : w.heap.size + 1 < w3.heap.size := (Array.getElem?_eq_some_iff.1 q1).1
            clear c0 c1 z1 z0 q0 q1 qf hw3
            go_region
            all_goals
              go_wp2_with fail
              refine bodyPost_ret (v := .tuple #[.agg #[.int .i64 (4), .int .i64 (a : Nat), .int .i64 (b : Nat), .slice none 0 0], .bool false]) (by simp [results, Tryz.results77, go_sem, d0]) rfl ?_
              refine pd_none (unhide HIP) ?_
              repeat (first | exact unhide HFQ | refine Fr.drew ?_ | refine Fr.setCell ?_ _ _ (.inr (Nat.le_refl _)))
        · have hq2 : ¬ (t.length : Int) + 1 + 1 + 1 = 2 := by omega
          have HIP := hide (parse_bad (unhide HBS) (unhide HNS) (by simp only [candD]; rw [if_neg (by decide), if_neg (by decide), if_neg (by decide), if_pos trivial]))
          go_wp2
          refine bodyPost_ret (v := .tuple #[.agg #[.int .i64 4, .int .i64 0, .int .i64 0, .slice none 0 0], .bool false]) (by simp [results, Tryz.results77, go_sem, c0]) rfl ?_
          refine pd_none (unhide HIP) ?_
          repeat (first | exact unhide HFY | refine Fr.setCell ?_ _ _ (.inr (Nat.le_refl _)))
end Go.Proofs.YtfmbebofllgmoaaGreatDoor
namespace Go.Proofs.YtfmbebofllgmoaaGreatDoor
open Go.RowKit
attribute [local go_sem ↓] Go.wp_at_zero Go.wp_at_succ

set_option maxHeartbeats 1000000 in
theorem parsed_any (s : ByteArray) (hs : s.size ≤ 100) (w : World) : Calls Tryz.prog 77 #[.string s] w (PdPost s w) := by
  by_cases h0 : 0 < s.size
  · by_cases h1 : byteAt s 0 = 1
    · exact parsed_k1 s hs w h0 h1
    by_cases h2 : byteAt s 0 = 2
    · exact parsed_k2 s hs w h0 h2
    by_cases h3 : byteAt s 0 = 3
    · exact parsed_k3 s hs w h0 h3
    by_cases h4 : byteAt s 0 = 4
    · exact parsed_k4 s hs w h0 h4
    by_cases h5 : byteAt s 0 = 5
    · exact parsed_k5 s hs w h0 h5
    exact parsed_k0 s hs w h0 ⟨h1, h2, h3, h4, h5⟩
  · have hfw : Fr (fun _ => False) w ((w.alloc (.cells #[.int .i64 0, .int .i64 0, .int .i64 0, .slice none 0 0] 49)).alloc (.cells #[.int .i64 0, .int .i64 0, .int .i64 0, .slice none 0 0] 49)) (fun _ => False) := ((Fr.refl _ _).alloc _).alloc _
    have HFW := hide hfw
    clear hfw
    cases str_zero h0
    have hip := hide (show ipL (bs ⟨#[]⟩) = none from rfl)
    go_enter Tryz.func77, Tryz.ntmps77
    go_wp2
    refine bodyPost_ret (v := .tuple #[.agg #[.int .i64 0, .int .i64 0, .int .i64 0, .slice none 0 0], .bool false]) (by simp [results, Tryz.results77, go_sem]) rfl ?_
    refine pd_none (unhide hip) ?_
    repeat (first | exact unhide HFW | refine Fr.setCell ?_ _ _ (.inr (Nat.le_refl _)))
end Go.Proofs.YtfmbebofllgmoaaGreatDoor
namespace Go.Proofs.YtfmbebofllgmoaaGreatDoor
open Go.RowKit
attribute [local go_sem ↓] Go.wp_at_zero Go.wp_at_succ

theorem rcL_two (l : List Nat) (x : Inp) (k : Nat) (h : rcL l = .inr (x, k)) : 2 ≤ k := by
  cases l with
  | nil => simp [rcL] at h
  | cons n t =>
    simp only [rcL] at h
    split at h
    · cases h
    split at h
    · cases h
    split at h
    · cases h
    split at h
    · cases h
    split at h
    · cases h
    · injection h with h
      injection h with _ h
      omega
theorem rdL_half : ∀ (f : Nat) (l : List Nat) (a : Nat), 2 * (rdL f l a).1.length ≤ l.length
  | 0, l, a => by simp [rdL]
  | f + 1, l, a => by
    simp only [rdL]
    cases h : rcL l with
    | inl w => simp
    | inr q =>
      obtain ⟨x, k⟩ := q
      have h1 := rcL_two l x k h
      have h2 := rcL_size l x k h
      simp only
      split
      · simp; omega
      · have ih := rdL_half f (l.drop k) (a + k)
        rw [List.length_drop] at ih
        simp only [List.length_cons]
        omega
theorem readL_half (l : List Nat) : 2 * (readL l).1.length ≤ l.length := by
  unfold readL
  split
  · have h := rdL_half (l.length + 1) (l.drop 3) 3
    rw [List.length_drop] at h
    omega
  · split <;> simp
theorem InsKept.below {w w0 w' : World} {B bb : Nat} {vE : Value} {LI LE LN : List Ent} {k : Nat} (h : InsKept w w' B bb vE LI LE LN k) (hb : Below B w0 w) : InsKept w0 w' B bb vE LI LE LN k := by
  obtain ⟨n', vI', vN', LI', LN', K', h1, h2, h3, h4⟩ := h
  exact ⟨n', vI', vN', LI', LN', K', h1, h2, h3, hb.trans h4⟩

set_option maxHeartbeats 4000000 in
set_option maxRecDepth 20000 in
theorem plays_read {w : World} {B bb : Nat} {n0 : Int} {vI vE vN : Value} {LI LE LN : List Ent} {K : Nat → Prop} (h : BookK w B bb n0 vI vE vN LI LE LN K) (hbb : B ≤ bb) (hBw : B ≤ w.heap.size) (y1 y2 y3 y4 y5 y6 y7 y9 : Value) (lg : ByteArray) (hlg : lg.size ≤ 1100000) (hL : LI.length + 600000 ≤ 900000000000) (hLN : LN.length ≤ 900000000000) :
    Calls Tryz.prog 23 #[.pointer (some ⟨bb, 0, none⟩), .agg #[.int .i64 3, y1, y2, y3, y4, y5, y6, y7, .string lg, y9]] w fun e w' => e = .returned (.bool true) ∧ ∃ k, 2 * k ≤ lg.size ∧ InsKept w w' B bb vE LI LE LN k := by
  have hlen := readL_half (bs lg)
  rw [bs_len] at hlen
  have HLEN := hide hlen
  clear hlen
  obtain ⟨W0, hW⟩ : ∃ W0, W0 = w.alloc (.cells #[.int .i64 3, y1, y2, y3, y4, y5, y6, y7, .string lg, y9] 67) := ⟨_, rfl⟩
  have f0 : Fr (fun _ => False) w W0 (fun _ => False) := by subst hW; exact (Fr.refl _ _).alloc _
  have b0 : W0.heap[w.heap.size]? = some (.cells #[.int .i64 3, y1, y2, y3, y4, y5, y6, y7, .string lg, y9] 67) := by subst hW; exact heap_alloc_new _ _
  have l0 := (Array.getElem?_eq_some_iff.1 b0).1
  have H16 := hide (read_ps lg (by omega) W0)
  have H43 := hide (refRead_any parsed_any lg (by omega))
  have HH := hide h
  have F0 := hide f0
  have B0 := hide b0
  have HW := hide hW
  clear h f0 b0 hW
  go_enter Tryz.func23, Tryz.ntmps23
  go_wp2_with fail
  rw [← unhide HW]
  go_at_call 16
  refine (unhide H16).mono ?_
  rintro e w1 ⟨a1, c1, ps1, rfl, hi, hp, f1⟩
  have x1 := (f1.same _ l0 (fun h => h)).trans (unhide B0)
  have k1 := fun j => cell_of_row w1 w.heap.size j _ 67 (0, 0) x1
  have X1 := hide x1
  have HI := hide hi
  have HP := hide hp
  have F1 := hide f1
  clear hi hp f1 H16 HW x1
  go_wp2_with fail
  go_at_call 43
  refine (unhide H43 w1).mono ?_
  rintro e w2 ⟨a2, c2, ps2, rfl, hd, hp2, f2⟩
  have HI2 := (unhide HI).fr f2
  have hpe : 2 * ps1.length ≤ lg.size := by
    have h := unhide HLEN
    rw [← unhide HP, List.length_map] at h
    exact h
  have hfl : ∀ p, p ∈ ps1 → p.1.2.2.2.length ≤ 100 := fun p hp => by
    refine fit_files ((rdV lg).2 p.1 ?_)
    show p.1 ∈ (readL (bs lg)).1
    rw [← unhide HP]
    exact List.mem_map_of_mem hp
  have H44 := hide (sameInputs_any HI2 hd ((unhide HP).trans hp2.symm) (by omega) hfl)
  have HI2 := hide HI2
  have HFL := hide hfl
  have F2 := hide f2
  clear hd hp2 f2 H43 HI k1 hfl
  go_wp2_with fail
  go_at_call 44
  refine (unhide H44).mono ?_
  rintro e w3 ⟨rfl, f3⟩
  have f03 : Fr (fun _ => False) w w3 (fun _ => False) := (unhide F0).trans ((unhide F1).trans ((unhide F2).trans f3))
  have hi3 := (unhide HI2).fr f3
  have H45 := hide (keepInputs_any ((unhide HH).fr f03) hbb (Nat.le_trans hBw f03.size) (hi3.low (Nat.le_trans hBw (unhide F0).size)) (fun q hq hk => by
    have h1 := (hi3.lt hq).1
    have h2 := ((unhide HH).apart q hk).1
    have h3 := (unhide F0).size
    omega) (by omega) (unhide HFL) (by omega) hLN)
  have hbl : Below B w w3 := f03.below (fun k hk => hk.elim) hBw
  have HBL := hide hbl
  clear f03 hi3 H44 hbl HI2 f3
  go_wp2_with fail
  go_at_call 45
  refine (unhide H45).mono ?_
  rintro e w4 ⟨rfl, hk⟩
  have HKK := hide (hk.below (unhide HBL))
  clear hk H45
  go_wp2
  go_ret
  exact ⟨by simp, ps1.length, by omega, unhide HKK⟩
end Go.Proofs.YtfmbebofllgmoaaGreatDoor
namespace Go.Proofs.YtfmbebofllgmoaaGreatDoor
open Go.ChangeShapes Go.WideShapes Go.ChangeAt Go.RowKit Go.Deep

theorem cells72 : Tryz.prog.cellsOf 70 = 3 := by kernel_rfl
theorem cells31 : Tryz.prog.cellsOf 31 = 1 := by kernel_rfl
theorem cells32 : Tryz.prog.cellsOf 25 = 1 := by kernel_rfl
theorem cells34 : Tryz.prog.cellsOf 33 = 3 := by kernel_rfl
theorem cells35 : Tryz.prog.cellsOf 26 = 1 := by kernel_rfl
theorem cells36 : Tryz.prog.cellsOf 27 = 1 := by kernel_rfl
theorem cells38 : Tryz.prog.cellsOf 29 = 4 := by kernel_rfl
theorem cells40 : Tryz.prog.cellsOf 67 = 10 := by kernel_rfl
theorem cells3 : Tryz.prog.cellsOf 3 = 1 := by kernel_rfl
theorem cells9 : Tryz.prog.cellsOf 9 = 1 := by kernel_rfl
theorem bytes72 : Tryz.prog.bytesOf 70 = 24 := by kernel_rfl
theorem bytes31 : Tryz.prog.bytesOf 31 = 24 := by kernel_rfl
/-- Every part of a datum is within the form's own reach. -/
def Wt {H : Type} (t : TypeId) (d : DataW H) : Prop := ∀ n ∈ d.weights Tryz.prog t, n ≤ reachBytes

section
variable {H : Type} {enc : TypeId × Value → H} {w : World} {spare : Nat → Bool} {held : Bool}

theorem weightsAll_mem {e : TypeId} {d : DataW H} : ∀ {l : List (DataW H)}, d ∈ l → ∀ n ∈ d.weights Tryz.prog e, n ∈ DataW.weightsAll Tryz.prog e l
  | x :: r, h, n, hn => by
    rw [DataW.weightsAll, List.mem_append]
    rcases List.mem_cons.1 h with rfl | h
    · exact .inl hn
    · exact .inr (weightsAll_mem h n hn)

theorem Wt.len {t e : TypeId} {elems sp : List (DataW H)} (h : Wt t (.slice elems sp)) (hu : Tryz.prog.underlying t = some (.slice e)) : (elems.length + sp.length) * Tryz.prog.bytesOf e ≤ reachBytes :=
  h _ (by simp [DataW.weights, hu])
theorem Wt.elem {t e : TypeId} {elems sp : List (DataW H)} (h : Wt t (.slice elems sp)) (hu : Tryz.prog.underlying t = some (.slice e)) {d : DataW H} (hd : d ∈ elems) : Wt e d := fun n hn =>
  h n (by simp only [DataW.weights, hu, List.mem_cons, List.mem_append]; exact .inr (.inl (weightsAll_mem hd n hn)))
theorem Wt.field {t : TypeId} {fs : Array Field} {parts : List (DataW H)} (h : Wt t (.agg parts)) (hu : Tryz.prog.underlying t = some (.struct fs)) {j : Nat} {tj : TypeId} {d : DataW H} (hj : (fs.toList.map (·.type))[j]? = some tj) (hd : parts[j]? = some d) : Wt tj d := fun n hn =>
  h n (by simp only [DataW.weights, hu]; exact DataW.weights_mem_each hj hd n hn)

theorem addr_of {a : Addr} {n : Nat} {cs : List Value} (h : w.cells? 0 (a.add 0) n = some cs) (hn : 0 < n) : ∃ b off, a = ⟨b, off, none⟩ := by
  obtain ⟨_, hl, hc⟩ := World.cells?_some h
  obtain ⟨b, off, spot⟩ := a
  have h0 := hc 0 hn
  rw [List.getElem?_eq_getElem (by omega)] at h0
  have hspot : spot = none := by simpa [Addr.add] using World.cell?_spot h0
  subst hspot
  exact ⟨b, off, rfl⟩

/-- An operation in memory. -/
theorem down_op {fuel : Nat} {cs : List Value} {x : DataW H × List MemPlace} (h : DataW.trod enc Tryz.prog w 0 spare held fuel 70 cs = some x) : ∃ o : O3, cs = [.int .i64 o.1, .int .i64 o.2.1, .int .i64 o.2.2] := by
  obtain ⟨y0, y1, y2, n, rfl, hl, h0, h1, h2⟩ := trod_struct3 Tryz.underlying70 h
  rw [cells72] at hl
  simp only [cells3] at h0 h1 h2
  match cs, hl with
  | [c0, c1, c2], _ =>
    obtain ⟨a, e0, _, _⟩ := DataW.trod_int Tryz.underlying3 h0
    obtain ⟨b, e1, _, _⟩ := DataW.trod_int Tryz.underlying3 h1
    obtain ⟨c, e2, _, _⟩ := DataW.trod_int Tryz.underlying3 h2
    simp at e0 e1 e2
    subst e0 e1 e2
    exact ⟨(a, b, c), rfl⟩

/-- A handler in memory. -/
theorem down_ops {fuel : Nat} {cs : List Value} {x : DataW H × List MemPlace} (h : DataW.trod enc Tryz.prog w 0 spare held fuel 31 cs = some x) (hw : Wt 31 x.1) : ∃ v n f, cs = [v] ∧ OpsIn w v n f := by
  rcases open_slice Tryz.underlying31 h with ⟨rfl, rfl⟩ | ⟨a, len, cap, m, n, D, Pl, rfl, _, hlc, _, hm, rfl, hx⟩
  · exact ⟨_, 0, fun _ => (0, 0, 0), rfl, none, 0, rfl, by omega, .inl rfl⟩
  have hml : len ≤ m := by rw [hm]; split <;> omega
  have hb := hw.len Tryz.underlying31
  rw [bytes72, List.length_map, List.length_range] at hb
  have hb' : len * 24 ≤ 140737488351232 := Nat.le_trans (Nat.mul_le_mul_right 24 (Nat.le_add_right _ _)) hb
  rw [cells72] at hx
  have hall : ∀ i, i < len → ∃ o : O3, w.cells? 0 (a.add (i * 3)) 3 = some [.int .i64 o.1, .int .i64 o.2.1, .int .i64 o.2.2] := by
    intro i hi
    obtain ⟨cs', h1, h2⟩ := hx i (by omega)
    obtain ⟨o, rfl⟩ := down_op h2
    exact ⟨o, h1⟩
  obtain ⟨f, hf⟩ := choose_lt (α := O3) hall
  refine ⟨_, len, f, rfl, some a, cap, rfl, hb', ?_⟩
  by_cases h0 : len = 0
  · exact .inl h0
  right
  obtain ⟨b, off, rfl⟩ := addr_of (hf 0 (by omega)) (by omega)
  refine ⟨b, off, rfl, fun i hi => ?_⟩
  obtain ⟨_, _, hc⟩ := World.cells?_some (hf i hi)
  rw [Go.WideShapes.add_plain] at hc
  have g0 := hc 0 (by omega)
  have g1 := hc 1 (by omega)
  have g2 := hc 2 (by omega)
  rw [Go.WideShapes.add_plain] at g0 g1 g2
  exact ⟨by simpa using g0, by simpa using g1, by simpa using g2⟩

/-- A list of handlers in memory. -/
theorem down_hands {fuel : Nat} {cs : List Value} {x : DataW H × List MemPlace} (h : DataW.trod enc Tryz.prog w 0 spare held fuel 25 cs = some x) (hw : Wt 25 x.1) : ∃ v n l f, cs = [v] ∧ HandsIn w v n l f := by
  rcases open_slice1 Tryz.underlying25 cells31 h with ⟨rfl, rfl⟩ | ⟨a, len, cap, m, n, V, D, Pl, rfl, _, hlc, _, hm, rfl, hx⟩
  · exact ⟨_, 0, fun _ => 0, fun _ _ => (0, 0, 0), rfl, none, 0, rfl, by omega, .inl rfl⟩
  have hml : len ≤ m := by rw [hm]; split <;> omega
  have hb := hw.len Tryz.underlying25
  rw [bytes31, List.length_map, List.length_range] at hb
  have hb' : len * 24 ≤ 140737488351232 := Nat.le_trans (Nat.mul_le_mul_right 24 (Nat.le_add_right _ _)) hb
  have hall : ∀ i, i < len → ∃ p : Nat × (Nat → O3), OpsIn w (V i) p.1 p.2 := by
    intro i hi
    obtain ⟨_, h2⟩ := hx i (by omega)
    have hwi : Wt 31 (D i) := hw.elem Tryz.underlying25 (List.mem_map.2 ⟨i, List.mem_range.2 hi, rfl⟩)
    obtain ⟨v, k, f, e, ho⟩ := down_ops h2 hwi
    simp only [List.cons.injEq, and_true] at e
    subst e
    exact ⟨(k, f), ho⟩
  obtain ⟨p, hp⟩ := choose_lt (α := Nat × (Nat → O3)) hall
  refine ⟨_, len, fun i => (p i).1, fun i => (p i).2, rfl, some a, cap, rfl, hb', ?_⟩
  by_cases h0 : len = 0
  · exact .inl h0
  right
  obtain ⟨b, off, spot⟩ := a
  have hspot : spot = none := by simpa [Addr.add] using World.cell?_spot (hx 0 (by omega)).1
  subst hspot
  refine ⟨b, off, rfl, fun i hi => ⟨V i, ?_, hp i hi⟩⟩
  rw [← Go.WideShapes.add_plain]
  exact (hx i (by omega)).1

/-- A slice of whatever, as one cell. -/
theorem down_slice {t e : TypeId} (hu : Tryz.prog.underlying t = some (.slice e)) {fuel : Nat} {cs : List Value} {x : DataW H × List MemPlace} (h : DataW.trod enc Tryz.prog w 0 spare held fuel t cs = some x) : ∃ p n c, cs = [.slice p n c] := by
  rcases open_slice hu h with ⟨rfl, _⟩ | ⟨a, len, cap, _, _, _, _, rfl, _⟩
  · exact ⟨_, _, _, rfl⟩
  · exact ⟨_, _, _, rfl⟩

theorem list10 : ∀ {cs : List Value}, cs.length = 10 → ∃ k0 k1 k2 k3 k4 k5 k6 k7 k8 k9, cs = [k0, k1, k2, k3, k4, k5, k6, k7, k8, k9]
  | k0 :: k1 :: k2 :: k3 :: k4 :: k5 :: k6 :: k7 :: k8 :: k9 :: r, h => by
    have : r = [] := List.eq_nil_of_length_eq_zero (by simpa using h)
    subst this
    exact ⟨k0, k1, k2, k3, k4, k5, k6, k7, k8, k9, rfl⟩
theorem list5 {α : Type} : ∀ {cs : List α}, cs.length = 5 → ∃ k0 k1 k2 k3 k4, cs = [k0, k1, k2, k3, k4]
  | k0 :: k1 :: k2 :: k3 :: k4 :: r, h => by
    have : r = [] := List.eq_nil_of_length_eq_zero (by simpa using h)
    subst this
    exact ⟨k0, k1, k2, k3, k4, rfl⟩

end
end Go.Proofs.YtfmbebofllgmoaaGreatDoor
namespace Go.Proofs.YtfmbebofllgmoaaGreatDoor
open Go.ChangeShapes Go.WideShapes Go.ChangeAt Go.RowKit Go.Deep

section
variable {H : Type} {w : World}

end

theorem blk_one {H : Type} (d : DataW H) : 1 ≤ Rows.uptoBulk d := by
  cases d with
  | lit l => cases l <;> simp [Rows.uptoBulk]
  | nil => simp [Rows.uptoBulk]
  | ptr d => simp [Rows.uptoBulk]
  | slice elems spare => simp [Rows.uptoBulk]
  | agg parts => simp [Rows.uptoBulk]
  | iface t d => simp [Rows.uptoBulk]
  | map entries => simp [Rows.uptoBulk]
  | held h => simp [Rows.uptoBulk]
theorem blk_part {H : Type} {d : DataW H} {l : List (DataW H)} (h : d ∈ l) : Rows.uptoBulk d ≤ Rows.uptoBulkAll l := by
  induction l with
  | nil => cases h
  | cons x r ih =>
    simp only [Rows.uptoBulkAll]
    cases List.mem_cons.1 h with
    | inl e => subst e; omega
    | inr e => have := ih e; omega
theorem blk_length {H : Type} (l : List (DataW H)) : l.length ≤ Rows.uptoBulkAll l := by
  induction l with
  | nil => simp [Rows.uptoBulkAll]
  | cons x r ih => have := blk_one x; simp only [Rows.uptoBulkAll, List.length_cons]; omega
theorem blk_slice {H : Type} (elems spare : List (DataW H)) : elems.length + spare.length + 1 ≤ Rows.uptoBulk (.slice elems spare) := by
  have h1 := blk_length elems
  have h2 := blk_length spare
  simp only [Rows.uptoBulk]
  omega

section
variable {H : Type} {enc : TypeId × Value → H} {w : World} {spare : Nat → Bool} {held : Bool}

end
theorem kown : ownKnob Tryz.prog.godebug = none := by kernel_rfl
end Go.Proofs.YtfmbebofllgmoaaGreatDoor
namespace Go.Proofs.YtfmbebofllgmoaaGreatDoor
open Go.ChangeShapes Go.WideShapes Go.ChangeAt Go.RowKit Go.Deep

/-- Ten cells hold a step of a script. -/
def StepAtL (N : Nat) (w : World) (b o : Nat) : Prop :=
  ∃ (kd : Int) (v1 v2 v3 : Value) (p4 p5 p6 p7 : Option Addr) (n4 c4 n5 c5 n6 c6 n7 c7 : Nat) (lg : ByteArray) (fu : Int) (ns nt nf : Nat) (s : Nat → O3) (tl fl : Nat → Nat) (t f : Nat → Nat → O3),
    (w.cell? ⟨b, o, none⟩ = some (.int .i64 kd) ∧ w.cell? ⟨b, o + 1, none⟩ = some v1 ∧ w.cell? ⟨b, o + 2, none⟩ = some v2 ∧ w.cell? ⟨b, o + 3, none⟩ = some v3 ∧ w.cell? ⟨b, o + 4, none⟩ = some (.slice p4 n4 c4) ∧
      w.cell? ⟨b, o + 5, none⟩ = some (.slice p5 n5 c5) ∧ w.cell? ⟨b, o + 6, none⟩ = some (.slice p6 n6 c6) ∧ w.cell? ⟨b, o + 7, none⟩ = some (.slice p7 n7 c7) ∧ w.cell? ⟨b, o + 8, none⟩ = some (.string lg) ∧ w.cell? ⟨b, o + 9, none⟩ = some (.int .i64 fu)) ∧
    OpsIn w v1 ns s ∧ HandsIn w v2 nt tl t ∧ HandsIn w v3 nf fl f ∧ lg.size ≤ N

/-- A script in memory. -/
def ScriptInL (N : Nat) (w : World) (v : Value) (n : Nat) : Prop :=
  ∃ a c, v = .slice a n c ∧ n ≤ N ∧ (n = 0 ∨ ∃ b off, a = some ⟨b, off, none⟩ ∧ ∀ i, i < n → StepAtL N w b (off + i * 10))

section
variable {H : Type} {enc : TypeId × Value → H} {w : World} {spare : Nat → Bool} {held : Bool}
/-- A step of a script: its ten cells. -/
theorem down_stepL {fuel : Nat} {cs : List Value} {x : DataW H × List MemPlace} (h : DataW.trod enc Tryz.prog w 0 spare held fuel 67 cs = some x) (hw : Wt 67 x.1) :
    ∃ (kd : Int) (v1 v2 v3 : Value) (p4 p5 p6 p7 : Option Addr) (n4 c4 n5 c5 n6 c6 n7 c7 : Nat) (lg : ByteArray) (fu : Int) (ns nt nf : Nat) (s : Nat → O3) (tl fl : Nat → Nat) (t f : Nat → Nat → O3),
      cs = [.int .i64 kd, v1, v2, v3, .slice p4 n4 c4, .slice p5 n5 c5, .slice p6 n6 c6, .slice p7 n7 c7, .string lg, .int .i64 fu] ∧ OpsIn w v1 ns s ∧ HandsIn w v2 nt tl t ∧ HandsIn w v3 nf fl f ∧ lg.size ≤ Rows.uptoBulk x.1 := by
  obtain ⟨xs, n, _, rfl, hl, hlen, hf⟩ := DataW.trod_struct Tryz.underlying67 h
  rw [cells40] at hl
  obtain ⟨z0, z1, z2, z3, z4, rfl⟩ := list5 hlen
  have f0 : DataW.trod enc Tryz.prog w 0 spare held n 3 ((cs.drop 0).take (Tryz.prog.cellsOf 3)) = some z0 := hf 0 _ rfl
  have f1 : DataW.trod enc Tryz.prog w 0 spare held n 33 ((cs.drop 1).take (Tryz.prog.cellsOf 33)) = some z1 := hf 1 _ rfl
  have f2 : DataW.trod enc Tryz.prog w 0 spare held n 29 ((cs.drop 4).take (Tryz.prog.cellsOf 29)) = some z2 := hf 2 _ rfl
  have f3 : DataW.trod enc Tryz.prog w 0 spare held n 9 ((cs.drop 8).take (Tryz.prog.cellsOf 9)) = some z3 := hf 3 _ rfl
  have f4 : DataW.trod enc Tryz.prog w 0 spare held n 3 ((cs.drop 9).take (Tryz.prog.cellsOf 3)) = some z4 := hf 4 _ rfl
  rw [cells3] at f0 f4
  rw [cells34] at f1
  rw [cells38] at f2
  rw [cells9] at f3
  obtain ⟨k0, k1, k2, k3, k4, k5, k6, k7, k8, k9, rfl⟩ := list10 hl
  simp at f0 f1 f2 f3 f4
  obtain ⟨kd, e0, _, _⟩ := DataW.trod_int Tryz.underlying3 f0
  obtain ⟨fu, e4, _, _⟩ := DataW.trod_int Tryz.underlying3 f4
  obtain ⟨lg, e3, hx3, _⟩ := DataW.trod_string Tryz.underlying9 f3
  obtain ⟨y0, y1, y2, n', hz1, _, g0, g1, g2⟩ := trod_struct3 Tryz.underlying33 f1
  simp only [cells31, cells32] at g0 g1 g2
  simp at g0 g1 g2
  obtain ⟨u0, u1, u2, u3, n'', _, _, q0, q1, q2, q3⟩ := Go.Joins.trod_struct4 Tryz.underlying29 f2
  simp only [cells35, cells36] at q0 q1 q2 q3
  simp at q0 q1 q2 q3
  have hw1 : Wt 33 z1.1 := hw.field (j := 1) Tryz.underlying67 rfl rfl
  rw [hz1] at hw1
  have w0 : Wt 31 y0.1 := hw1.field (j := 0) Tryz.underlying33 rfl rfl
  have w1 : Wt 25 y1.1 := hw1.field (j := 1) Tryz.underlying33 rfl rfl
  have w2 : Wt 25 y2.1 := hw1.field (j := 2) Tryz.underlying33 rfl rfl
  obtain ⟨v1, ns, s, a1, o1⟩ := down_ops g0 w0
  obtain ⟨v2, nt, tl, t, a2, o2⟩ := down_hands g1 w1
  obtain ⟨v3, nf, fl, f, a3, o3⟩ := down_hands g2 w2
  obtain ⟨p4, n4, c4, a4⟩ := down_slice Tryz.underlying26 q0
  obtain ⟨p5, n5, c5, a5⟩ := down_slice Tryz.underlying27 q1
  obtain ⟨p6, n6, c6, a6⟩ := down_slice Tryz.underlying26 q2
  obtain ⟨p7, n7, c7, a7⟩ := down_slice Tryz.underlying26 q3
  simp only [List.cons.injEq, and_true] at e0 e3 e4 a1 a2 a3 a4 a5 a6 a7
  subst e0 e3 e4 a1 a2 a3 a4 a5 a6 a7
  exact ⟨kd, k1, k2, k3, p4, p5, p6, p7, n4, c4, n5, c5, n6, c6, n7, c7, lg, fu, ns, nt, nf, s, tl, fl, t, f, rfl, o1, o2, o3, by
    have hb : Rows.uptoBulk z3.1 ≤ Rows.uptoBulkAll [z0.1, z1.1, z2.1, z3.1, z4.1] := blk_part (by simp)
    have hz : Rows.uptoBulk z3.1 = lg.size + 1 := by rw [hx3]; simp [Rows.uptoBulk]
    have ha : Rows.uptoBulkAll [z0.1, z1.1, z2.1, z3.1, z4.1] ≤ Rows.uptoBulk (DataW.agg [z0.1, z1.1, z2.1, z3.1, z4.1]) := by simp only [Rows.uptoBulk]; omega
    exact Nat.le_trans (by omega) ha⟩

/-- A script in memory. -/
theorem down_scriptL {fuel : Nat} {cs : List Value} {x : DataW H × List MemPlace} (h : DataW.trod enc Tryz.prog w 0 spare held fuel 22 cs = some x) (hw : Wt 22 x.1) : ∃ v n, cs = [v] ∧ ScriptInL (Rows.uptoBulk x.1) w v n := by
  rcases open_slice Tryz.underlying22 h with ⟨rfl, rfl⟩ | ⟨a, len, cap, m, n, D, Pl, rfl, _, hlc, _, hm, rfl, hx⟩
  · exact ⟨_, 0, rfl, none, 0, rfl, Nat.zero_le _, .inl rfl⟩
  have hml : len ≤ m := by rw [hm]; split <;> omega
  have hbk := blk_slice ((List.range len).map D) ((List.range (m - len)).map fun j => D (len + j))
  simp only [List.length_map, List.length_range] at hbk
  have hb' : len ≤ Rows.uptoBulk (DataW.slice ((List.range len).map D) ((List.range (m - len)).map fun j => D (len + j))) := by omega
  rw [cells40] at hx
  refine ⟨_, len, rfl, some a, cap, rfl, hb', ?_⟩
  by_cases h0 : len = 0
  · exact .inl h0
  right
  have ha : ∃ b off, a = ⟨b, off, none⟩ := by
    obtain ⟨cs', h1, _⟩ := hx 0 (by omega)
    rw [Nat.zero_mul] at h1
    exact addr_of h1 (by omega)
  obtain ⟨b, off, rfl⟩ := ha
  refine ⟨b, off, rfl, fun i hi => ?_⟩
  obtain ⟨cs', h1, h2⟩ := hx i (by omega)
  have hwi : Wt 67 (D i) := hw.elem Tryz.underlying22 (List.mem_map.2 ⟨i, List.mem_range.2 hi, rfl⟩)
  obtain ⟨kd, v1, v2, v3, p4, p5, p6, p7, n4, c4, n5, c5, n6, c6, n7, c7, lg, fu, ns, nt, nf, s, tl, fl, t, f, rfl, o1, o2, o3, hlg⟩ := down_stepL h2 hwi
  obtain ⟨_, _, hc⟩ := World.cells?_some h1
  rw [Go.WideShapes.add_plain] at hc
  have hc' : ∀ j, j < 10 → w.cell? ⟨b, off + i * 10 + j, none⟩ = ([.int .i64 kd, v1, v2, v3, .slice p4 n4 c4, .slice p5 n5 c5, .slice p6 n6 c6, .slice p7 n7 c7, .string lg, .int .i64 fu] : List Value)[j]? := fun j hj => by rw [← Go.WideShapes.add_plain]; exact hc j hj
  exact ⟨kd, v1, v2, v3, p4, p5, p6, p7, n4, c4, n5, c5, n6, c6, n7, c7, lg, fu, ns, nt, nf, s, tl, fl, t, f,
    ⟨by exact hc' 0 (by omega), by exact hc' 1 (by omega), by exact hc' 2 (by omega), by exact hc' 3 (by omega), by exact hc' 4 (by omega), by exact hc' 5 (by omega), by exact hc' 6 (by omega), by exact hc' 7 (by omega), by exact hc' 8 (by omega), by exact hc' 9 (by omega)⟩, o1, o2, o3, Nat.le_trans hlg (by
      have h1 : Rows.uptoBulk (D i) ≤ Rows.uptoBulkAll ((List.range len).map D) := blk_part (List.mem_map.2 ⟨i, List.mem_range.2 hi, rfl⟩)
      have h2 : Rows.uptoBulkAll ((List.range len).map D) ≤ Rows.uptoBulk (DataW.slice ((List.range len).map D) ((List.range (m - len)).map fun j => D (len + j))) := by simp only [Rows.uptoBulk]; omega
      exact Nat.le_trans h1 h2)⟩
end
end Go.Proofs.YtfmbebofllgmoaaGreatDoor
namespace Go.Proofs.YtfmbebofllgmoaaGreatDoor
open Go.RowKit
attribute [local go_sem ↓] Go.wp_at_zero Go.wp_at_succ

/-- The Book between two steps. -/
def BookR (wr : World) (B k : Nat) : Prop := ∃ n vI vE vN LI LN K, BookK wr B B n vI vE vN LI [] LN K ∧ 2 * LI.length ≤ 1048576 * k ∧ LN.length ≤ k
theorem BookR.fr {w W : World} {B k : Nat} (h : BookR w B k) (hf : Fr (fun _ => False) w W (fun _ => False)) : BookR W B k := by
  obtain ⟨n, vI, vE, vN, LI, LN, K, h1, h2⟩ := h
  exact ⟨n, vI, vE, vN, LI, LN, K, h1.fr hf, h2⟩
theorem BookR.more {w : World} {B k : Nat} (h : BookR w B k) : BookR w B (k + 1) := by
  obtain ⟨n, vI, vE, vN, LI, LN, K, h1, h2, h3⟩ := h
  exact ⟨n, vI, vE, vN, LI, LN, K, h1, by omega, by omega⟩
theorem bookR_new (w : World) : BookR (w.alloc (.cells #[.int .i64 0, .slice none 0 0, .slice none 0 0, .slice none 0 0] 65)) w.heap.size 0 :=
  ⟨0, _, _, _, [], [], fun _ => False, ⟨⟨heap_alloc_new _ _, World.ownsRow_nil _ _ _ _, World.ownsRow_nil _ _ _ _, World.ownsRow_nil _ _ _ _, fun _ h => absurd h (by simp), fun _ h => absurd h (by simp), fun _ h => absurd h (by simp)⟩, fun _ h => absurd h (by simp), fun _ h => absurd h (by simp), fun _ h => absurd h (by simp), fun _ h => h.elim⟩, by simp, by simp⟩
/-- A step that reads, and the look behind it. -/
theorem BookR.plays {W : World} {B k : Nat} (h : BookR W B k) (hk : k ≤ 1048576) (hBw : B ≤ W.heap.size) (y1 y2 y3 y4 y5 y6 y7 y9 : Value) (lg : ByteArray) (hlg : lg.size ≤ 1048576) :
    Calls Tryz.prog 23 #[.pointer (some ⟨B, 0, none⟩), .agg #[.int .i64 3, y1, y2, y3, y4, y5, y6, y7, .string lg, y9]] W fun e w' => e = .returned (.bool true) ∧ Below B W w' ∧ BookR w' B (k + 1) := by
  obtain ⟨n, vI, vE, vN, LI, LN, K, h1, h2, h3⟩ := h
  refine (plays_read h1 (Nat.le_refl _) hBw y1 y2 y3 y4 y5 y6 y7 y9 lg (by omega) (by omega) (by omega)).mono ?_
  rintro e w' ⟨rfl, j, hj, n', vI', vN', LI', LN', K', hb, e1, e2, hbl⟩
  exact ⟨rfl, hbl, n', vI', vE, vN', LI', LN', K', hb, by omega, by omega⟩
theorem BookR.looks {W : World} {B k : Nat} (h : BookR W B k) (hk : k ≤ 1048577) : Calls Tryz.prog 24 #[.pointer (some ⟨B, 0, none⟩)] W fun e w' => e = .returned (.bool true) ∧ Fr (fun _ => False) W w' (fun _ => False) := by
  obtain ⟨n, vI, vE, vN, LI, LN, K, h1, h2, h3⟩ := h
  exact looks_any h1.bk (by omega) (by simp) (by omega)

set_option maxHeartbeats 1000000 in
theorem upTo_read {N : Nat} (hN : N ≤ 1048576) (v : Value) (n : Nat) (w : World) (hv : ScriptInL N w v n) :
    Calls Tryz.prog 12 #[v, .int .i64 3, .int .i64 3] w fun e w' => e = .returned (.bool true) ∧ Below w.heap.size w w' := by
  obtain ⟨a, c, rfl, hn, hf⟩ := hv
  have HF := hide hf
  have HST := hide (bookR_new w)
  clear hf
  go_enter Tryz.func12, Tryz.ntmps12
  go_wp2
  go_loopw [8] (fun i wr => ∃ k : Nat, k ≤ n ∧ i = .int .i64 k ∧ Below w.heap.size w wr ∧ w.heap.size < wr.heap.size ∧ Hid (BookR wr w.heap.size k)) (fun i _ => n - (intOf i).toNat)
  case atStart => exact ⟨0, Nat.zero_le _, rfl, (Below.refl _ _).alloc (Nat.le_refl _) _, by simp, HST⟩
  case round =>
    obtain ⟨k, hk, rfl, hb, hsz, hbk⟩ := hrel
    by_cases hlt : k < n
    · rcases unhide HF with hz | ⟨b, off, rfl, hf⟩
      · omega
      obtain ⟨kd, v1, v2, v3, p4, p5, p6, p7, n4, c4, n5, c5, n6, c6, n7, c7, lg, fu, ns, nt, nf, s, tl, fl, t, f, ⟨d0, d1, d2, d3, d4, d5, d6, d7, d8, d9⟩, h1, h2, h3, hlg⟩ := hf k hlt
      have hlb : b < w.heap.size := World.block_lt_of_cell? _ _ d0
      rw [← bcel hb b _ hlb] at d0 d1 d2 d3 d4 d5 d6 d7 d8 d9
      have hlb' : b < wr.heap.size := by have := hb.size; omega
      obtain ⟨a1, c1, rfl, _, _⟩ := h1
      obtain ⟨a2, c2, rfl, _, _⟩ := h2
      obtain ⟨a3, c3, rfl, _, _⟩ := h3
      clear hf
      obtain ⟨W1, hW⟩ : ∃ W1, W1 = wr.alloc (.cells #[.int .i64 kd, .slice a1 ns c1, .slice a2 nt c2, .slice a3 nf c3, .slice p4 n4 c4, .slice p5 n5 c5, .slice p6 n6 c6, .slice p7 n7 c7, .string lg, .int .i64 fu] 67) := ⟨_, rfl⟩
      have fr1 : Fr (fun _ => False) wr W1 (fun _ => False) := by subst hW; exact (Fr.refl _ _).alloc _
      have hb1 : Below w.heap.size w W1 := hb.trans (fr1.below (fun k hk => hk.elim) (Nat.le_of_lt hsz))
      have hsw : w.heap.size < W1.heap.size := Nat.lt_of_lt_of_le hsz fr1.size
      have hbk1 := (unhide hbk).fr fr1
      by_cases hk1 : kd = 3
      · subst hk1
        have HP := hide (hbk1.plays (by omega) (Nat.le_of_lt hsw) (.slice a1 ns c1) (.slice a2 nt c2) (.slice a3 nf c3) (.slice p4 n4 c4) (.slice p5 n5 c5) (.slice p6 n6 c6) (.slice p7 n7 c7) (.int .i64 fu) lg (by omega))
        have HW := hide hW
        have HB1 := hide hb1
        clear hW hbk hbk1 fr1 hb1
        go_wp2_with fail
        rw [← unhide HW]
        refine (unhide HP).mono ?_
        rintro e w2 ⟨rfl, hb2, hbk2⟩
        have HL := hide (hbk2.looks (by omega))
        have HBK := hide hbk2
        have HB2 := hide ((unhide HB1).trans hb2)
        have hs2 : w.heap.size < w2.heap.size := Nat.lt_of_lt_of_le hsw hb2.size
        clear HP HW hb2 hbk2 HB1
        go_wp2_with fail
        refine (unhide HL).mono ?_
        rintro e w3 ⟨rfl, f3⟩
        have HBK3 := hide ((unhide HBK).fr f3)
        have hb3 : Below w.heap.size w w3 := (unhide HB2).trans (f3.below (fun k hk => hk.elim) (Nat.le_of_lt hs2))
        have hs3 : w.heap.size < w3.heap.size := Nat.lt_of_lt_of_le hs2 f3.size
        clear HL f3 HBK HB2
        go_wp2
        go_roundw
        case rel => exact ⟨k + 1, by omega, by go_num, hb3, hs3, HBK3⟩
        case measure => simp [intOf]; omega
      · have HM := hide hbk1.more
        have HW := hide hW
        clear hW hbk hbk1 fr1
        by_cases hk2 : 3 ≤ kd
        · have hk3 : ¬ kd ≤ 3 := by omega
          go_wp2
          rw [← unhide HW]
          go_roundw
          case rel => exact ⟨k + 1, by omega, by go_num, hb1, hsw, HM⟩
          case measure => simp [intOf]; omega
        · go_wp2
          rw [← unhide HW]
          go_roundw
          case rel => exact ⟨k + 1, by omega, by go_num, hb1, hsw, HM⟩
          case measure => simp [intOf]; omega
    · go_wp2
      go_ret
      exact ⟨rfl, hb⟩

theorem reads_any {N : Nat} (hN : N ≤ 1048576) (v : Value) (n : Nat) (w : World) (hv : ScriptInL N w v n) :
    Calls Tryz.prog 5 #[v] w fun e w' => e = .returned (.bool true) ∧ Below w.heap.size w w' := by
  have HU := hide (upTo_read hN v n w hv)
  clear hv
  go_enter Tryz.func5, Tryz.ntmps5
  go_wp2_with fail
  refine (unhide HU).mono ?_
  rintro e w1 ⟨rfl, hb⟩
  go_wp2
  go_ret
  exact ⟨rfl, hb⟩
end Go.Proofs.YtfmbebofllgmoaaGreatDoor
