/-
  PROVED HERE: the document's Replay. the law's replay: what the program's Replay answers is what the document's does, and the Book is kept. one step of kind KReplay or KAgain of a script is as the document says.
-/
import Derived.Test.YtfmbebofllgmoaaGreatDoorProg
import Derived.WalkKit
import Derived.WalkSpells
import Derived.WalkLawsBesides
import Derived.Deep.QuietTactic
import Derived.BigQuiet
import Derived.Deep.RegionHeld3
import Derived.Deep.AppendLies
import Derived.Laws.EntriesVeiled
import Derived.Deep.DrawnRows
import Derived.BigRegion
import Derived.Deep.LoopGhost
import Derived.Deep.MidRow
import Derived.Shelf.SlSortCmp.SmallK
import Derived.Shelf.SlicesG.Cmp
import Derived.Shelf.Small.Bits
import Derived.Deep.RegionLaw
import Derived.Lib.SliceRun
import Derived.Laws.StructEq
import Derived.Laws.BytesString
import Derived.ArgAppend
import Derived.Deep.DeepCutAuto
import Derived.Conc.LoneCalls
import Derived.Calls
import Derived.Tactics
import Derived.KernelRfl
import Derived.Laws.Rows
import Derived.Lib.SlBytesConst
import Derived.Laws.BitsAllLaws
import Derived.RangeFuncOwn
import Derived.Laws.IdiomStrings
import Derived.RangeFuncNested
import Derived.RangeFuncBound
import Derived.RangeFuncCalls
import Derived.RangeFuncLeaves
import Derived.Shelf.RegionOpen
import Derived.OwnWalkIn
import Derived.TacticsInMore
import Derived.Maps.OwnIn
import Derived.Maps.AppendAt
import Derived.LoopNIn
import Derived.LoopIn
import Derived.ChangeKeysEq
import Derived.Deep.DeepAppendRoom
import Derived.Deep.Upon
import Derived.Test.YtfmbebofllgmoaaGreatDoorSreplaysbg
namespace Go.Proofs.YtfmbebofllgmoaaGreatDoor
open Go.RowKit
attribute [local go_sem ↓] Go.wp_at_zero Go.wp_at_succ

theorem sqp_start {w W : World} {p1 p2 p3 v8 : Value} {ps : List (Inp × Value)} {y : VL} (hW : Fr (fun _ => False) w W (fun _ => False)) (h : InpsC w v8 ps (fun q => q < w.heap.size)) (hp : ps.map (·.1) = y.1) (hn : y.1.length ≤ 2000000) : SQP w.heap.size (pv10 p1 p2 p3 (.slice none 0 0) (.slice none 0 0) (.slice none 0 0) (.slice none 0 0) (.bool true) v8 (.slice none 0 0)) (fun _ => False) W y :=
  ⟨rfl, ⟨ps, h.keep (fun q hq => hW.same q hq (fun h => h)), hp⟩, [], World.ownsRow_nil _ _ _ _, fun q hq => by simp [own, Value.ownBlock, pv10] at hq, by simp only [List.length_nil]; omega⟩

set_option maxHeartbeats 4000000 in
set_option maxRecDepth 20000 in
theorem refReplay_any {w : World} {p1 p2 p3 : Value} {p : Pg} (hv : PgAt w (pvOf p1 p2 p3 undef) p) (f : Int) (lg : ByteArray) (hs : lg.size ≤ 1000000000) (hcnt : (readL (bs lg)).1.length ≤ 2000000) :
    Calls Tryz.prog 80 #[.agg #[p1, p2, p3], .string lg, .int .i64 f] w (RepPost w p f lg) := by
  obtain ⟨sa, sc, es, _⟩ := hv.s
  obtain ⟨ta, tc, et, _⟩ := hv.t
  obtain ⟨fa, fc, ef, _⟩ := hv.f
  change p1 = _ at es
  change p2 = _ at et
  change p3 = _ at ef
  have hB2 : Below w.heap.size w ((w.alloc (.cells #[p1, p2, p3] 33)).alloc (.cells #[.int .i64 0, .int .i64 0, .int .i64 0, .int .i64 0, .int .i64 0, .int .i64 0, .int .i64 0] 37)) := bl2 _ _
  have hck := rcheck_any p1 p2 p3 p.sn p.tn p.fn p.sf p.tl p.fl p.tf p.ff _ (opsIn_below hB2 hv.s) (handsIn_below hB2 hv.t) (handsIn_below hB2 hv.f)
  have h43 := fun W => refReadB_any parsed_any lg hs W
  have HCK := hide hck
  have HV := hide hv
  have HB2 := hide hB2
  have H43 := hide h43
  have HCNT := hide hcnt
  clear hck hv hB2 h43 hcnt hs
  subst es et ef
  go_enter Tryz.func80, Tryz.ntmps80
  go_wp2_with fail
  go_at_call 41
  refine (unhide HCK).mono ?_
  rintro e w1 ⟨x, rfl, hans, hb1⟩
  have z0 : (w.alloc (.cells #[.slice sa p.sn sc, .slice ta p.tn tc, .slice fa p.fn fc] 33)).heap.size = w.heap.size + 1 := by simp
  have z1 : ((w.alloc (.cells #[.slice sa p.sn sc, .slice ta p.tn tc, .slice fa p.fn fc] 33)).alloc (.cells #[.int .i64 0, .int .i64 0, .int .i64 0, .int .i64 0, .int .i64 0, .int .i64 0, .int .i64 0] 37)).heap.size = w.heap.size + 1 + 1 := by simp
  have b3 : w1.heap[w.heap.size]? = some (.cells #[.slice sa p.sn sc, .slice ta p.tn tc, .slice fa p.fn fc] 33) := (hb1.block _ (by rw [z1]; omega)).trans ((Below.heap_alloc _ _ _ (by rw [z0]; omega)).trans (heap_alloc_new _ _))
  have b8 : w1.heap[w.heap.size + 1]? = some (.cells #[.int .i64 0, .int .i64 0, .int .i64 0, .int .i64 0, .int .i64 0, .int .i64 0, .int .i64 0] 37) := (hb1.block _ (by rw [z1]; omega)).trans (by have h := heap_alloc_new (w.alloc (.cells #[.slice sa p.sn sc, .slice ta p.tn tc, .slice fa p.fn fc] 33)) (.cells #[.int .i64 0, .int .i64 0, .int .i64 0, .int .i64 0, .int .i64 0, .int .i64 0, .int .i64 0] 37); rwa [z0] at h)
  have hw1 : Below w.heap.size w w1 := (unhide HB2).trans (hb1.mono (by rw [z1]; omega))
  have hge : w.heap.size ≤ w.heap.size + 1 := by omega
  have c3 := fun j => cell_of_row w1 _ j _ 33 (0, 0) b3
  have c8 := fun j => cell_of_row w1 _ j _ 37 (0, 0) b8
  have t8 := fun j => frozen_rowE b8 j
  have l8 := (Array.getElem?_eq_some_iff.1 b8).1
  have B3 := hide b3
  have B8 := hide b8
  have HW1 := hide hw1
  have HANS := hide hans
  clear z0 z1 b3 b8 hw1 hans hb1 HCK HB2
  by_cases hx : x = 0
  · subst hx
    have ok := pgok_of_ans (unhide HANS)
    have HOK := hide ok
    clear ok c8 t8
    go_wp2_with fail
    go_at_call 43
    refine (unhide H43 w1).mono ?_
    rintro e w2 ⟨a2, c2, ps2, rfl, hd, hp2, f2⟩
    have f12 : Fr (fun _ => False) w w2 (fun _ => False) := (Fr.of_below (unhide HW1)).trans f2
    have b3 := (f2.same _ (Array.getElem?_eq_some_iff.1 (unhide B3)).1 (fun h => h)).trans (unhide B3)
    have b8 := (f2.same _ l8 (fun h => h)).trans (unhide B8)
    have c3 := fun j => cell_of_row w2 _ j _ 33 (0, 0) b3
    have c8 := fun j => cell_of_row w2 _ j _ 37 (0, 0) b8
    have t8 := fun j => frozen_rowE b8 j
    have l8 := (Array.getElem?_eq_some_iff.1 b8).1
    have lh3 := (Array.getElem?_eq_some_iff.1 b3).1
    have B3 := hide b3
    have B8 := hide b8
    have F12 := hide f12
    have HD := hide hd
    have HP2 := hide hp2
    clear b3 b8 f12 hd hp2 f2 H43 HW1
    obtain ⟨at_, hat⟩ : ∃ at_, at_ = (readL (bs lg)).2.1 := ⟨_, rfl⟩
    obtain ⟨wy, hwy⟩ : ∃ wy, wy = (readL (bs lg)).2.2 := ⟨_, rfl⟩
    rw [← hat, ← hwy]
    have HAT := hide hat
    clear hat hwy
    by_cases h0 : at_ = 0
    · subst h0
      go_wp2
      have y8 := out7 (unhide B8) (.int .i64 0) (.int .i64 0) (.int .i64 0) (.int .i64 0) (.int .i64 0) (.int .i64 0) (.int .i64 0)
      have ky := fun j => cell_of_row _ _ j _ 37 (0, 0) y8
      refine bodyPost_ret (v := .tuple #[.slice none 0 0, .agg #[.int .i64 0, .int .i64 0, .int .i64 0, .int .i64 0, .int .i64 0, .int .i64 0, .int .i64 0], .int .i64 5]) (by simp [results, Tryz.results80, go_sem, ky]) rfl ?_
      exact ⟨((((((((unhide F12).setCell ⟨w.heap.size + 1, 0, none⟩ _ (.inr hge)).setCell ⟨w.heap.size + 1, 1, none⟩ _ (.inr hge)).setCell ⟨w.heap.size + 1, 2, none⟩ _ (.inr hge)).setCell ⟨w.heap.size + 1, 3, none⟩ _ (.inr hge)).setCell ⟨w.heap.size + 1, 4, none⟩ _ (.inr hge)).setCell ⟨w.heap.size + 1, 5, none⟩ _ (.inr hge)).setCell ⟨w.heap.size + 1, 6, none⟩ _ (.inr hge)), 0, unhide HANS, .inr (.inl ⟨rfl, (unhide HAT).symm, rfl⟩)⟩
    have h0i : ¬ (at_ : Int) = 0 := by omega
    have h0b : ((at_ : Int) == 0) = false := by simpa using h0
    have bw2 : Below w.heap.size w w2 := (unhide F12).below (fun k h => h.elim) (Nat.le_refl _)
    have fW : Fr (fun _ => False) w2 (w2.alloc (.cells (cells28 (.slice sa p.sn sc) (.slice ta p.tn tc) (.slice fa p.fn fc) (.slice none 0 0) (.slice none 0 0) (.slice none 0 0) (.slice none 0 0) (.bool true) (.slice a2 ps2.length c2) (.slice none 0 0) (min (max f 0) 5000)) 180)).drew (fun _ => False) := ((Fr.refl _ _).alloc _).drew
    have bW : Below w2.heap.size w2 (w2.alloc (.cells (cells28 (.slice sa p.sn sc) (.slice ta p.tn tc) (.slice fa p.fn fc) (.slice none 0 0) (.slice none 0 0) (.slice none 0 0) (.slice none 0 0) (.bool true) (.slice a2 ps2.length c2) (.slice none 0 0) (min (max f 0) 5000)) 180)).drew := fW.below (fun k h => h.elim) (Nat.le_refl _)
    have hcnt2 : (rdV lg).1.length ≤ 2000000 := unhide HCNT
    have hl0 := loop_start (SQ := SQP w2.heap.size) (B := w2.heap.size) (fu := min (max f 0) 5000) (x := rdV lg) (Nat.le_refl _) rfl (sqp_start (p1 := .slice sa p.sn sc) (p2 := .slice ta p.tn tc) (p3 := .slice fa p.fn fc) fW (unhide HD).inps (unhide HP2) hcnt2)
    have pgq : PgAt w2 (pv10 (.slice sa p.sn sc) (.slice ta p.tn tc) (.slice fa p.fn fc) (.slice none 0 0) (.slice none 0 0) (.slice none 0 0) (.slice none 0 0) (.bool true) (.slice a2 ps2.length c2) (.slice none 0 0)) p := ⟨opsIn_below bw2 (unhide HV).s, handsIn_below bw2 (unhide HV).t, handsIn_below bw2 (unhide HV).f⟩
    have hrun := runQ_any (SQP.law w2.heap.size) (repQ_hear w2.heap.size) mayR_ok repAskQ_ok (w0 := w2) rfl bW pgq (unhide HOK) f hl0 rfl (by show (rdV lg).1.length ≤ 5000000; omega)
    have HRUN := hide hrun
    have FW := hide fW
    have D8 := hide (show ((w2.alloc (.cells (cells28 (.slice sa p.sn sc) (.slice ta p.tn tc) (.slice fa p.fn fc) (.slice none 0 0) (.slice none 0 0) (.slice none 0 0) (.slice none 0 0) (.bool true) (.slice a2 ps2.length c2) (.slice none 0 0) (min (max f 0) 5000)) 180)).drew).heap[w.heap.size + 1]? = some _ from (Below.heap_alloc w2 _ _ l8).trans (unhide B8))
    have D3 := hide (show ((w2.alloc (.cells (cells28 (.slice sa p.sn sc) (.slice ta p.tn tc) (.slice fa p.fn fc) (.slice none 0 0) (.slice none 0 0) (.slice none 0 0) (.slice none 0 0) (.bool true) (.slice a2 ps2.length c2) (.slice none 0 0) (min (max f 0) 5000)) 180)).drew).heap[w.heap.size]? = some _ from (Below.heap_alloc w2 _ _ lh3).trans (unhide B3))
    clear fW bW hl0 hrun pgq bw2 hcnt2 c8 t8
    go_wp2
    refine wp_region_held_drew (S := fun w' => w'.heap[w.heap.size]? = some (.cells #[.slice sa p.sn sc, .slice ta p.tn tc, .slice fa p.fn fc] 33)) (by kernel_rfl) ?_ (fun hHeld => ?_)
    · exact unhide B3
    refine wpAnyH_take (i := 0) (oi := { dst := some 29, op := Op.load 33 (Operand.tmp 3), type := 33, pos := "run.go:363", after := #[], guard := none }) (v := ?_) rfl (by kernel_rfl) (by kernel_rfl) (by kernel_rfl) (fun _ _ _ h => h) (Or.inl ⟨by rfl, ?_⟩) (by assumption) ?_
    rotate_left
    · intro w' hSw; have q3 := fun j => cell_of_row w' _ j _ 33 (0, 0) hSw; go_simp; try with_reducible rfl
    simp only [Act.put, List.setIfInBounds_toArray, List.set_cons_zero, List.set_cons_succ]
    refine wpAnyH_take (i := 1) (oi := { dst := some 30, op := Op.move (Operand.tmp 10), type := 44, pos := "run.go:363", after := #[], guard := none }) (v := ?_) rfl (by kernel_rfl) (by kernel_rfl) (by kernel_rfl) (fun _ _ _ h => h) (Or.inl ⟨by rfl, ?_⟩) (by assumption) ?_
    rotate_left
    · intro w' hSw; have q3 := fun j => cell_of_row w' _ j _ 33 (0, 0) hSw; go_simp; try with_reducible rfl
    simp only [Act.put, List.setIfInBounds_toArray, List.set_cons_zero, List.set_cons_succ]
    refine wpAnyH_take (i := 2) (oi := { dst := some 31, op := Op.move (Operand.tmp 2), type := 3, pos := "run.go:363", after := #[], guard := none }) (v := ?_) rfl (by kernel_rfl) (by kernel_rfl) (by kernel_rfl) (fun _ _ _ h => h) (Or.inl ⟨by rfl, ?_⟩) (by assumption) ?_
    rotate_left
    · intro w' hSw; have q3 := fun j => cell_of_row w' _ j _ 33 (0, 0) hSw; go_simp; try with_reducible rfl
    simp only [Act.put, List.setIfInBounds_toArray, List.set_cons_zero, List.set_cons_succ]
    refine wpAnyH_ready (rs := [3]) (by kernel_rfl) (by simp) ?_
    refine AllReadyH.cons (o := { dst := some 32, op := Op.call { callee := Callee.value (Operand.func 106), args := #[Operand.tmp 31], argTypes := #[3] }, type := 3, pos := "run.go:363", after := #[{ on := 2, ground := Ground.data }], guard := none }) rfl (fun K' hK' => ?_) AllReadyH.nil
    go_simp
    go_at_call 106
    refine (fuelledQ_any f _).mono ?_
    rintro e w3 ⟨rfl, hw3⟩
    rw [hw3]
    clear hw3 w3
    refine hK'.out _ _ ?_ (fun hHeld => ?_)
    · exact unhide B3
    clear hK' K'
    try simp only [Act.put, List.setIfInBounds_toArray, List.set_cons_zero, List.set_cons_succ]
    try simp only [List.setIfInBounds_toArray, List.set_cons_zero, List.set_cons_succ]
    refine wpAnyH_take (i := 4) (oi := { dst := some 33, op := Op.build 180 #[(0, Operand.tmp 29), (3, Operand.tmp 30), (2, Operand.const (Value.bool true)), (10, Operand.tmp 32)], type := 180, pos := "run.go:363", after := #[{ on := 0, ground := Ground.data }, { on := 1, ground := Ground.data }, { on := 3, ground := Ground.data }], guard := none }) (v := ?_) rfl (by kernel_rfl) (by kernel_rfl) (by kernel_rfl) (fun _ _ _ h => h) (Or.inl ⟨by rfl, ?_⟩) (by assumption) ?_
    rotate_left
    · intro w' hSw; have q3 := fun j => cell_of_row w' _ j _ 33 (0, 0) hSw; go_simp; try with_reducible rfl
    simp only [Act.put, List.setIfInBounds_toArray, List.set_cons_zero, List.set_cons_succ]
    refine wpAnyH_ready (rs := [5]) (by kernel_rfl) (by simp) ?_
    refine AllReadyH.cons (o := { dst := some 34, op := Op.box 180 (Operand.tmp 33), type := 177, pos := "run.go:363", after := #[{ on := 4, ground := Ground.data }], guard := none }) rfl (fun K' hK' => ?_) AllReadyH.nil
    go_simp
    refine hK'.out _ _ ?_ (fun hHeld => ?_)
    · exact unhide D3
    clear hK' K'
    try simp only [Act.put, List.setIfInBounds_toArray, List.set_cons_zero, List.set_cons_succ]
    refine wpAnyH_take (i := 6) (oi := { dst := some 13, op := Op.assign (Operand.tmp 34), type := 177, pos := "run.go:363", after := #[{ on := 5, ground := Ground.data }, { on := 3, ground := Ground.chain }, { on := 0, ground := Ground.phase }, { on := 1, ground := Ground.phase }, { on := 2, ground := Ground.phase }, { on := 3, ground := Ground.phase }, { on := 4, ground := Ground.phase }, { on := 5, ground := Ground.phase }], guard := none }) (v := ?_) rfl (by kernel_rfl) (by kernel_rfl) (by kernel_rfl) (fun _ _ _ h => h) (Or.inl ⟨by rfl, ?_⟩) (by assumption) ?_
    rotate_left
    · intro w' hSw; have q3 := fun j => cell_of_row w' _ j _ 33 (0, 0) hSw; go_simp; try with_reducible rfl
    simp only [Act.put, List.setIfInBounds_toArray, List.set_cons_zero, List.set_cons_succ]
    refine wpAnyH_done (by kernel_rfl) ?_ _
    go_wp2_with fail
    go_at_call 107
    refine (unhide HRUN).mono ?_
    rintro e w3 ⟨rfl, tn, sq, S3, pv3, vt3, va3, T3, A3, l3, q3, f3⟩
    obtain ⟨hq1, hq2⟩ := repQ_run (unhide HOK) f (rdV lg)
    have hfinO : FinOk (runM repAskQ p ((rdV lg).1.length + 1) f (rdV lg)).1 := runM_fin (ask := repAskQ) (fun y k o => repAsk_end y k o) p _ f _
    change LQ _ _ S3 w3 _ pv3 vt3 va3 T3 (runM repAskQ p ((rdV lg).1.length + 1) f (rdV lg)).1 A3 tn sq (runM repAskQ p ((rdV lg).1.length + 1) f (rdV lg)).2 at l3
    have hrs : repS p f (rdV lg) = { (runM repAskQ p ((rdV lg).1.length + 1) f (rdV lg)).1 with fin := endR (runM repAskQ p ((rdV lg).1.length + 1) f (rdV lg)).1.fin (runM repAskQ p ((rdV lg).1.length + 1) f (rdV lg)).2.1 } := by unfold repS; rw [hq1, hq2]
    generalize runM repAskQ p ((rdV lg).1.length + 1) f (rdV lg) = RM at *
    obtain ⟨s3, z3⟩ := RM
    dsimp only at l3 hrs hfinO
    clear hq1 hq2 q3 HRUN
    obtain ⟨ua, uc, hut⟩ := row_shape l3.row
    subst hut
    obtain ⟨s4, hs4⟩ : ∃ s4 : PS, s4 = { s3 with fin := endR s3.fin z3.1 } := ⟨_, rfl⟩
    rw [← hs4] at hrs
    have hlw : w.heap.size + 1 < w2.heap.size := l8
    have d8 : w3.heap[w.heap.size + 1]? = some (.cells #[.int .i64 0, .int .i64 0, .int .i64 0, .int .i64 0, .int .i64 0, .int .i64 0, .int .i64 0] 37) := (f3.same _ (Array.getElem?_eq_some_iff.1 (unhide D8)).1 (fun e => by have e' : w.heap.size + 1 = w2.heap.size := e; omega)).trans (unhide D8)
    have hP8 : ¬ S3 (w.heap.size + 1) := fun e => by have := f3.old _ (Array.getElem?_eq_some_iff.1 (unhide D8)).1 e; have e' : w.heap.size + 1 = w2.heap.size := this; omega
    have fw3 : Fr (fun _ => False) w w3 (fun _ => False) := by
      have hFW := (unhide F12).trans (unhide FW)
      have hz := (unhide F12).size
      exact ⟨f3.os.trans hFW.os, f3.tape.trans hFW.tape, f3.output.trans hFW.output, Nat.le_trans hFW.size f3.size, fun k hk _ => (f3.same k (Nat.lt_of_lt_of_le hk hFW.size) (fun e => by have e' : k = w2.heap.size := e; omega)).trans (hFW.same k hk (fun h => h)), fun _ _ h => h⟩
    have pack6 : endR s3.fin z3.1 = 6 → ∀ nq, Hid (LQ (SQP w2.heap.size) w2.heap.size S3 ((w3.drewN nq).setCell ⟨w2.heap.size, 27, none⟩ (.int .i64 6)) w2.heap.size pv3 (.slice ua s3.trace.length uc) va3 T3 s4 A3 tn sq z3 ∧ Fr (fun _ => False) w ((w3.drewN nq).setCell ⟨w2.heap.size, 27, none⟩ (.int .i64 6)) (fun _ => False) ∧ ((w3.drewN nq).setCell ⟨w2.heap.size, 27, none⟩ (.int .i64 6)).heap[w.heap.size + 1]? = some (.cells #[.int .i64 0, .int .i64 0, .int .i64 0, .int .i64 0, .int .i64 0, .int .i64 0, .int .i64 0] 37)) := by
      intro he nq
      have l3 := l3.drewN (SQP.law _) nq
      have e4 : s4 = { s3 with fin := 6 } := by rw [hs4, he]
      rw [e4]
      exact ⟨l3.set (SQP.law _) 27 (.int .i64 6) { s3 with fin := 6 } (by omega) (lset_fin 6) rfl (l3.rel.of rfl rfl) rfl, (fw3.drewN nq).setCell ⟨w2.heap.size, 27, none⟩ _ (.inr (by show w.heap.size ≤ w2.heap.size; omega)), (Below.heap_setCell _ _ _ _ (by show w.heap.size + 1 ≠ w2.heap.size; omega)).trans d8⟩
    have pack0 : endR s3.fin z3.1 = s3.fin → ∀ nq, Hid (LQ (SQP w2.heap.size) w2.heap.size S3 (w3.drewN nq) w2.heap.size pv3 (.slice ua s3.trace.length uc) va3 T3 s4 A3 tn sq z3 ∧ Fr (fun _ => False) w (w3.drewN nq) (fun _ => False) ∧ (w3.drewN nq).heap[w.heap.size + 1]? = some (.cells #[.int .i64 0, .int .i64 0, .int .i64 0, .int .i64 0, .int .i64 0, .int .i64 0, .int .i64 0] 37)) := by
      intro he nq
      have e4 : s4 = s3 := by rw [hs4, he]
      rw [e4]
      exact ⟨l3.drewN (SQP.law _) nq, fw3.drewN nq, d8⟩
    have g27 := (l3.cell 27 (by omega)).trans (by rw [limg_fin])
    have z27 := l3.free 27 (by omega)
    have g8 := (l3.cell 8 (by omega)).trans (by rw [limg_pv _ _ _ _ _ _ (by omega)])
    have hb3 := l3.blt
    obtain ⟨ps, hin, hps⟩ := l3.src.ins
    have htl : s4.trace.length = s3.trace.length := by rw [hs4]
    have HRS := hide hrs
    have HP8 := hide hP8
    have PACK6 := hide pack6
    have PACK0 := hide pack0
    have HTL := hide htl
    obtain ⟨fn3, hfn3⟩ : ∃ z : Int, z = s3.fin := ⟨_, rfl⟩
    rw [← hfn3] at g27 PACK6 PACK0
    have hf06 : 0 ≤ fn3 ∧ fn3 ≤ 6 := by rw [hfn3]; exact hfinO
    clear l3 hs4 hrs hP8 fw3 d8 pack6 pack0 htl f3 hfinO D3 B3 B8 FW c3 hfn3
    by_cases hf5 : fn3 < 5
    · have hfd : decide (fn3 < 5) = true := decide_eq_true hf5
      cases hpc : ps with
      | nil =>
        subst hpc
        have hld : decide ((0 : Int) < 0) = false := by decide
        have PK := unhide PACK0 (by rw [show z3.1 = [] from hps.symm]; unfold endR; split <;> rfl)
        obtain ⟨⟨ia, ic, hiv, _⟩, _⟩ := hin
        rw [hiv] at g8
        clear PACK0 PACK6 hiv hps
        go_wp2
        go_quiet (fail)
        go_wp2
        have PK := PK nq
        generalize hG : (w3.drewN nq) = W4 at PK ⊢
        clear hG g27 g8 z27
        obtain ⟨l4, fw4, d8⟩ := unhide PK
        clear PK
        have hb4 := l4.blt
        have g26 := (l4.cell 26 (by omega)).trans (by rw [limg_trace])
        have h109 : ∀ W, Fr (fun _ => False) W4 W (fun _ => False) → _ := fun W hW => finalQ_any (l4.fr (SQP.law w2.heap.size) hW)
        have hrow4 := l4.row
        rw [unhide HTL] at hrow4
        have hinV := l4.inV
        have hbnd := l4.bound
        have H109 := hide h109
        have HROW4 := hide hrow4
        have HINV := hide hinV
        have HBND := hide hbnd
        have FW4 := hide fw4
        have D84 := hide d8
        clear l4 h109 hrow4 hinV fw4 d8 hbnd
        refine wp_region_held_drew (S := fun w' => w'.heap[w2.heap.size]? = W4.heap[w2.heap.size]?) (by kernel_rfl) ?_ (fun hHeld => ?_)
        · exact rfl
        refine wpAnyH_take (i := 0) (oi := { dst := some 77, op := Op.move (Operand.tmp 13), type := 177, pos := "run.go:368", after := #[], guard := none }) (v := ?_) rfl (by kernel_rfl) (by kernel_rfl) (by kernel_rfl) (fun _ _ _ h => h) (Or.inl ⟨by rfl, ?_⟩) (by assumption) ?_
        rotate_left
        · intro w' hSw; have k26 := (World.cell?_of_block (w := W4) (a := ⟨w2.heap.size, 26, none⟩) hSw).trans g26; go_simp; try with_reducible rfl
        simp only [Act.put, List.setIfInBounds_toArray, List.set_cons_zero, List.set_cons_succ]
        refine wpAnyH_take (i := 1) (oi := { dst := some 78, op := Op.nilCheck (Operand.tmp 77), type := 0, pos := "run.go:368", after := #[{ on := 0, ground := Ground.data }], guard := none }) (v := ?_) rfl (by kernel_rfl) (by kernel_rfl) (by kernel_rfl) (fun _ _ _ h => h) (Or.inl ⟨by rfl, ?_⟩) (by assumption) ?_
        rotate_left
        · intro w' hSw; have k26 := (World.cell?_of_block (w := W4) (a := ⟨w2.heap.size, 26, none⟩) hSw).trans g26; go_simp; try with_reducible rfl
        simp only [Act.put, List.setIfInBounds_toArray, List.set_cons_zero, List.set_cons_succ]
        refine wpAnyH_take (i := 2) (oi := { dst := some 79, op := Op.fieldAddr 180 (Operand.tmp 78) 11, type := 0, pos := "run.go:368", after := #[{ on := 1, ground := Ground.data }], guard := none }) (v := ?_) rfl (by kernel_rfl) (by kernel_rfl) (by kernel_rfl) (fun _ _ _ h => h) (Or.inl ⟨by rfl, ?_⟩) (by assumption) ?_
        rotate_left
        · intro w' hSw; have k26 := (World.cell?_of_block (w := W4) (a := ⟨w2.heap.size, 26, none⟩) hSw).trans g26; go_simp; try with_reducible rfl
        simp only [Act.put, List.setIfInBounds_toArray, List.set_cons_zero, List.set_cons_succ]
        refine wpAnyH_take (i := 3) (oi := { dst := some 80, op := Op.load 34 (Operand.tmp 79), type := 34, pos := "run.go:368", after := #[{ on := 2, ground := Ground.data }], guard := none }) (v := ?_) rfl (by kernel_rfl) (by kernel_rfl) (by kernel_rfl) (fun _ _ _ h => h) (Or.inl ⟨by rfl, ?_⟩) (by assumption) ?_
        rotate_left
        · intro w' hSw; have k26 := (World.cell?_of_block (w := W4) (a := ⟨w2.heap.size, 26, none⟩) hSw).trans g26; go_simp; try with_reducible rfl
        simp only [Act.put, List.setIfInBounds_toArray, List.set_cons_zero, List.set_cons_succ]
        refine wpAnyH_take (i := 4) (oi := { dst := some 81, op := Op.move (Operand.tmp 13), type := 177, pos := "run.go:368", after := #[], guard := none }) (v := ?_) rfl (by kernel_rfl) (by kernel_rfl) (by kernel_rfl) (fun _ _ _ h => h) (Or.inl ⟨by rfl, ?_⟩) (by assumption) ?_
        rotate_left
        · intro w' hSw; have k26 := (World.cell?_of_block (w := W4) (a := ⟨w2.heap.size, 26, none⟩) hSw).trans g26; go_simp; try with_reducible rfl
        simp only [Act.put, List.setIfInBounds_toArray, List.set_cons_zero, List.set_cons_succ]
        refine wpAnyH_take (i := 6) (oi := { dst := some 83, op := Op.move (Operand.tmp 9), type := 41, pos := "run.go:368", after := #[{ on := 8, ground := Ground.gcOnly Departure.lateStores }], guard := none }) (v := ?_) rfl (by kernel_rfl) (by kernel_rfl) (by kernel_rfl) (fun _ _ _ h => h) (Or.inl ⟨by rfl, ?_⟩) (by assumption) ?_
        rotate_left
        · intro w' hSw; have k26 := (World.cell?_of_block (w := W4) (a := ⟨w2.heap.size, 26, none⟩) hSw).trans g26; go_simp; try with_reducible rfl
        simp only [Act.put, List.setIfInBounds_toArray, List.set_cons_zero, List.set_cons_succ]
        refine wpAnyH_ready (rs := [5]) (by kernel_rfl) (by simp) ?_
        refine AllReadyH.cons (o := { dst := some 82, op := Op.call { callee := Callee.value (Operand.func 109), args := #[Operand.tmp 81], argTypes := #[177] }, type := 37, pos := "run.go:368", after := #[{ on := 4, ground := Ground.data }], guard := none }) rfl (fun K' hK' => ?_) AllReadyH.nil
        go_simp
        go_at_call 109
        refine (unhide H109 _ ((Fr.refl _ _).drew)).mono ?_
        rintro e w5 ⟨rfl, f5⟩
        have f45 : Fr (fun _ => False) W4 w5 (fun _ => False) := ((Fr.refl _ _).drew).trans f5
        have s5 : w5.heap[w2.heap.size]? = W4.heap[w2.heap.size]? := f45.same _ hb4 (fun h => h)
        have e8 : w5.heap[w.heap.size + 1]? = some (.cells #[.int .i64 0, .int .i64 0, .int .i64 0, .int .i64 0, .int .i64 0, .int .i64 0, .int .i64 0] 37) := (f45.same _ (Array.getElem?_eq_some_iff.1 (unhide D84)).1 (fun h => h)).trans (unhide D84)
        have ct8 := fun j => cell_of_row w5 _ j _ 37 (0, 0) e8
        have ft8 := fun j => frozen_rowE e8 j
        have el8 := (Array.getElem?_eq_some_iff.1 e8).1
        have E8 := hide e8
        have F45 := hide f45
        clear f5 f45 H109 e8
        refine hK'.out _ _ ?_ (fun hHeld => ?_)
        · exact s5
        clear hK' K'
        try simp only [Act.put, List.setIfInBounds_toArray, List.set_cons_zero, List.set_cons_succ]
        refine wpAnyH_take (i := 7) (oi := { dst := some 6, op := Op.assign (Operand.tmp 80), type := 34, pos := "run.go:368", after := #[{ on := 3, ground := Ground.data }, { on := 5, ground := Ground.chain }, { on := 0, ground := Ground.phase }, { on := 1, ground := Ground.phase }, { on := 2, ground := Ground.phase }, { on := 3, ground := Ground.phase }, { on := 4, ground := Ground.textOnly Departure.lateStores }, { on := 5, ground := Ground.textOnly Departure.lateStoresUnsure }, { on := 6, ground := Ground.textOnly Departure.lateStores }], guard := none }) (v := ?_) rfl (by kernel_rfl) (by kernel_rfl) (by kernel_rfl) (fun _ _ _ h => h) (Or.inl ⟨by rfl, ?_⟩) (by assumption) ?_
        rotate_left
        · intro w' hSw; have k26 := (World.cell?_of_block (w := W4) (a := ⟨w2.heap.size, 26, none⟩) hSw).trans g26; go_simp; try with_reducible rfl
        simp only [Act.put, List.setIfInBounds_toArray, List.set_cons_zero, List.set_cons_succ]
        simp only [finV]
        have hne8 : w2.heap.size ≠ w.heap.size + 1 := by omega
        have st : ∀ (V : World) (j : Nat) (u : Value), V.heap[w2.heap.size]? = W4.heap[w2.heap.size]? → (V.setCell ⟨w.heap.size + 1, j, none⟩ u).heap[w2.heap.size]? = W4.heap[w2.heap.size]? := fun V j u hv => (Below.heap_setCell _ _ _ _ hne8).trans hv
        have hs7 : (((((((w5.setCell ⟨w.heap.size + 1, 0, none⟩ (.int .i64 s4.fin)).setCell ⟨w.heap.size + 1, 1, none⟩ (.int .i64 (s4.reg 0))).setCell ⟨w.heap.size + 1, 2, none⟩ (.int .i64 (s4.reg 1))).setCell ⟨w.heap.size + 1, 3, none⟩ (.int .i64 (s4.reg 2))).setCell ⟨w.heap.size + 1, 4, none⟩ (.int .i64 (s4.reg 3))).setCell ⟨w.heap.size + 1, 5, none⟩ (.int .i64 s4.clock)).setCell ⟨w.heap.size + 1, 6, none⟩ (.int .i64 s4.heard)).heap[w2.heap.size]? = W4.heap[w2.heap.size]? := st _ _ _ (st _ _ _ (st _ _ _ (st _ _ _ (st _ _ _ (st _ _ _ (st _ _ _ s5))))))
        have hy7 := out7 (unhide E8) (.int .i64 s4.fin) (.int .i64 (s4.reg 0)) (.int .i64 (s4.reg 1)) (.int .i64 (s4.reg 2)) (.int .i64 (s4.reg 3)) (.int .i64 s4.clock) (.int .i64 s4.heard)
        have hrow7 : w5.ownsRow w2.heap.size 72 3 (.slice ua s3.trace.length uc) s3.trace.length (flatE s4.trace) := ownsRow_of_block (unhide HROW4) (fun q hq => (unhide F45).same q (World.ownsRow.lt (unhide HROW4) q hq).2 (fun h => h))
        have st8 : ∀ (V : World) (j : Nat) (u : Value), V.ownsRow w2.heap.size 72 3 (.slice ua s3.trace.length uc) s3.trace.length (flatE s4.trace) → (V.setCell ⟨w.heap.size + 1, j, none⟩ u).ownsRow w2.heap.size 72 3 (.slice ua s3.trace.length uc) s3.trace.length (flatE s4.trace) := fun V j u hv => ownsRow_of_block hv (fun q hq => Below.heap_setCell _ _ _ _ (fun e => unhide HP8 (by have e' : q = w.heap.size + 1 := e; rw [← e']; exact (unhide HINV q hq).1)))
        have hr7 := rowLow (st8 _ 6 (.int .i64 s4.heard) (st8 _ 5 (.int .i64 s4.clock) (st8 _ 4 (.int .i64 (s4.reg 3)) (st8 _ 3 (.int .i64 (s4.reg 2)) (st8 _ 2 (.int .i64 (s4.reg 1)) (st8 _ 1 (.int .i64 (s4.reg 0)) (st8 _ 0 (.int .i64 s4.fin) hrow7))))))) (show w.heap.size ≤ w2.heap.size by omega)
        have hf7 := (((((((((unhide FW4).trans (unhide F45)).setCell ⟨w.heap.size + 1, 0, none⟩ (.int .i64 s4.fin) (.inr hge)).setCell ⟨w.heap.size + 1, 1, none⟩ (.int .i64 (s4.reg 0)) (.inr hge)).setCell ⟨w.heap.size + 1, 2, none⟩ (.int .i64 (s4.reg 1)) (.inr hge)).setCell ⟨w.heap.size + 1, 3, none⟩ (.int .i64 (s4.reg 2)) (.inr hge)).setCell ⟨w.heap.size + 1, 4, none⟩ (.int .i64 (s4.reg 3)) (.inr hge)).setCell ⟨w.heap.size + 1, 5, none⟩ (.int .i64 s4.clock) (.inr hge)).setCell ⟨w.heap.size + 1, 6, none⟩ (.int .i64 s4.heard) (.inr hge))
        have HS7 := hide hs7
        have HY7 := hide hy7
        have HR7 := hide hr7
        have HF7 := hide hf7
        clear hs7 hy7 hr7 hf7 st st8 hrow7
        refine wpAnyH_ready (rs := [8]) (by kernel_rfl) (by simp) ?_
        refine AllReadyH.cons (o := { dst := none, op := Op.store 37 (Operand.tmp 7) (Operand.tmp 82), type := 0, pos := "run.go:368", after := #[{ on := 5, ground := Ground.data }, { on := 7, ground := Ground.chain }, { on := 0, ground := Ground.phase }, { on := 1, ground := Ground.phase }, { on := 2, ground := Ground.phase }, { on := 3, ground := Ground.phase }, { on := 4, ground := Ground.phase }, { on := 5, ground := Ground.phase }, { on := 6, ground := Ground.textOnly Departure.lateStores }, { on := 7, ground := Ground.phase }], guard := none }) rfl (fun K' hK' => ?_) AllReadyH.nil
        go_simp
        refine hK'.out _ _ ?_ (fun hHeld => ?_)
        · exact unhide HS7
        clear hK' K'
        try simp only [Act.put, List.setIfInBounds_toArray, List.set_cons_zero, List.set_cons_succ]
        refine wpAnyH_take (i := 9) (oi := { dst := some 8, op := Op.assign (Operand.tmp 83), type := 41, pos := "run.go:368", after := #[{ on := 6, ground := Ground.data }, { on := 8, ground := Ground.chain }, { on := 0, ground := Ground.phase }, { on := 1, ground := Ground.phase }, { on := 2, ground := Ground.phase }, { on := 3, ground := Ground.phase }, { on := 4, ground := Ground.phase }, { on := 5, ground := Ground.phase }, { on := 6, ground := Ground.phase }, { on := 7, ground := Ground.phase }, { on := 8, ground := Ground.phase }], guard := none }) (v := ?_) rfl (by kernel_rfl) (by kernel_rfl) (by kernel_rfl) (fun _ _ _ h => h) (Or.inl ⟨by rfl, ?_⟩) (by assumption) ?_
        rotate_left
        · intro w' hSw; have k26 := (World.cell?_of_block (w := W4) (a := ⟨w2.heap.size, 26, none⟩) hSw).trans g26; go_simp; try with_reducible rfl
        simp only [Act.put, List.setIfInBounds_toArray, List.set_cons_zero, List.set_cons_succ]
        refine wpAnyH_done (by kernel_rfl) ?_ _
        generalize hV : (((((((w5.setCell ⟨w.heap.size + 1, 0, none⟩ (.int .i64 s4.fin)).setCell ⟨w.heap.size + 1, 1, none⟩ (.int .i64 (s4.reg 0))).setCell ⟨w.heap.size + 1, 2, none⟩ (.int .i64 (s4.reg 1))).setCell ⟨w.heap.size + 1, 3, none⟩ (.int .i64 (s4.reg 2))).setCell ⟨w.heap.size + 1, 4, none⟩ (.int .i64 (s4.reg 3))).setCell ⟨w.heap.size + 1, 5, none⟩ (.int .i64 s4.clock)).setCell ⟨w.heap.size + 1, 6, none⟩ (.int .i64 s4.heard)) = V at *
        clear hV
        have ky := fun j => cell_of_row V _ j _ 37 (0, 0) (unhide HY7)
        go_wp2
        refine bodyPost_ret (v := .tuple #[.slice ua s3.trace.length uc, finV s4, .int .i64 0]) (by simp [results, Tryz.results80, go_sem, ky, finV]) rfl ?_
        refine ⟨unhide HF7, 0, unhide HANS, .inr (.inr ⟨rfl, fun e => h0 ((unhide HAT).trans e), .slice ua s3.trace.length uc, ?_, ?_⟩)⟩
        · rw [unhide HRS]
        · rw [unhide HRS, unhide HTL]; exact unhide HR7
      | cons y r =>
        subst hpc
        obtain ⟨⟨ik, io, in_, ifl⟩, fv⟩ := y
        have hz3 : z3.1 = (ik, io, in_, ifl) :: r.map (·.1) := hps.symm
        obtain ⟨q, off, c, hv8, hc, hq, ⟨u0, _, u2, _⟩, _, _⟩ := hin.cons
        dsimp only at u0 u2
        rw [hv8] at g8
        have hqw : q < w3.heap.size := by omega
        have hci : (r.length : Int) + 1 ≤ (c : Int) := by omega
        obtain ⟨m, hm⟩ : ∃ m, m = r.length := ⟨_, rfl⟩
        rw [← hm] at g8 hci
        have hld : decide ((0 : Int) < (m : Int) + 1) = true := decide_eq_true (by omega)
        have h56 : ¬ (fn3 = 5 ∨ fn3 = 6) := by omega
        by_cases hk5 : ik = 5
        · subst hk5
          have u0' : w3.cell? ⟨q, off, none⟩ = some (.int .i64 5) := u0
          by_cases hn : (in_ : Int) = fn3
          · have PK := unhide PACK0 (by rw [hz3]; unfold endR; rw [if_neg h56]; simp only; rw [if_pos ⟨trivial, hn⟩])
            clear PACK0 PACK6 hz3 hps hin u0 hv8 hc hm h56
            have hnb : ((in_ : Int) == fn3) = true := by simpa using hn
            go_wp2
            go_quiet (fail)
            go_wp2
            have PK := PK nq
            generalize hG : (w3.drewN nq) = W4 at PK ⊢
            clear hG g27 g8 z27
            obtain ⟨l4, fw4, d8⟩ := unhide PK
            clear PK
            have hb4 := l4.blt
            have g26 := (l4.cell 26 (by omega)).trans (by rw [limg_trace])
            have h109 : ∀ W, Fr (fun _ => False) W4 W (fun _ => False) → _ := fun W hW => finalQ_any (l4.fr (SQP.law w2.heap.size) hW)
            have hrow4 := l4.row
            rw [unhide HTL] at hrow4
            have hinV := l4.inV
            have hbnd := l4.bound
            have H109 := hide h109
            have HROW4 := hide hrow4
            have HINV := hide hinV
            have HBND := hide hbnd
            have FW4 := hide fw4
            have D84 := hide d8
            clear l4 h109 hrow4 hinV fw4 d8 hbnd
            refine wp_region_held_drew (S := fun w' => w'.heap[w2.heap.size]? = W4.heap[w2.heap.size]?) (by kernel_rfl) ?_ (fun hHeld => ?_)
            · exact rfl
            refine wpAnyH_take (i := 0) (oi := { dst := some 77, op := Op.move (Operand.tmp 13), type := 177, pos := "run.go:368", after := #[], guard := none }) (v := ?_) rfl (by kernel_rfl) (by kernel_rfl) (by kernel_rfl) (fun _ _ _ h => h) (Or.inl ⟨by rfl, ?_⟩) (by assumption) ?_
            rotate_left
            · intro w' hSw; have k26 := (World.cell?_of_block (w := W4) (a := ⟨w2.heap.size, 26, none⟩) hSw).trans g26; go_simp; try with_reducible rfl
            simp only [Act.put, List.setIfInBounds_toArray, List.set_cons_zero, List.set_cons_succ]
            refine wpAnyH_take (i := 1) (oi := { dst := some 78, op := Op.nilCheck (Operand.tmp 77), type := 0, pos := "run.go:368", after := #[{ on := 0, ground := Ground.data }], guard := none }) (v := ?_) rfl (by kernel_rfl) (by kernel_rfl) (by kernel_rfl) (fun _ _ _ h => h) (Or.inl ⟨by rfl, ?_⟩) (by assumption) ?_
            rotate_left
            · intro w' hSw; have k26 := (World.cell?_of_block (w := W4) (a := ⟨w2.heap.size, 26, none⟩) hSw).trans g26; go_simp; try with_reducible rfl
            simp only [Act.put, List.setIfInBounds_toArray, List.set_cons_zero, List.set_cons_succ]
            refine wpAnyH_take (i := 2) (oi := { dst := some 79, op := Op.fieldAddr 180 (Operand.tmp 78) 11, type := 0, pos := "run.go:368", after := #[{ on := 1, ground := Ground.data }], guard := none }) (v := ?_) rfl (by kernel_rfl) (by kernel_rfl) (by kernel_rfl) (fun _ _ _ h => h) (Or.inl ⟨by rfl, ?_⟩) (by assumption) ?_
            rotate_left
            · intro w' hSw; have k26 := (World.cell?_of_block (w := W4) (a := ⟨w2.heap.size, 26, none⟩) hSw).trans g26; go_simp; try with_reducible rfl
            simp only [Act.put, List.setIfInBounds_toArray, List.set_cons_zero, List.set_cons_succ]
            refine wpAnyH_take (i := 3) (oi := { dst := some 80, op := Op.load 34 (Operand.tmp 79), type := 34, pos := "run.go:368", after := #[{ on := 2, ground := Ground.data }], guard := none }) (v := ?_) rfl (by kernel_rfl) (by kernel_rfl) (by kernel_rfl) (fun _ _ _ h => h) (Or.inl ⟨by rfl, ?_⟩) (by assumption) ?_
            rotate_left
            · intro w' hSw; have k26 := (World.cell?_of_block (w := W4) (a := ⟨w2.heap.size, 26, none⟩) hSw).trans g26; go_simp; try with_reducible rfl
            simp only [Act.put, List.setIfInBounds_toArray, List.set_cons_zero, List.set_cons_succ]
            refine wpAnyH_take (i := 4) (oi := { dst := some 81, op := Op.move (Operand.tmp 13), type := 177, pos := "run.go:368", after := #[], guard := none }) (v := ?_) rfl (by kernel_rfl) (by kernel_rfl) (by kernel_rfl) (fun _ _ _ h => h) (Or.inl ⟨by rfl, ?_⟩) (by assumption) ?_
            rotate_left
            · intro w' hSw; have k26 := (World.cell?_of_block (w := W4) (a := ⟨w2.heap.size, 26, none⟩) hSw).trans g26; go_simp; try with_reducible rfl
            simp only [Act.put, List.setIfInBounds_toArray, List.set_cons_zero, List.set_cons_succ]
            refine wpAnyH_take (i := 6) (oi := { dst := some 83, op := Op.move (Operand.tmp 9), type := 41, pos := "run.go:368", after := #[{ on := 8, ground := Ground.gcOnly Departure.lateStores }], guard := none }) (v := ?_) rfl (by kernel_rfl) (by kernel_rfl) (by kernel_rfl) (fun _ _ _ h => h) (Or.inl ⟨by rfl, ?_⟩) (by assumption) ?_
            rotate_left
            · intro w' hSw; have k26 := (World.cell?_of_block (w := W4) (a := ⟨w2.heap.size, 26, none⟩) hSw).trans g26; go_simp; try with_reducible rfl
            simp only [Act.put, List.setIfInBounds_toArray, List.set_cons_zero, List.set_cons_succ]
            refine wpAnyH_ready (rs := [5]) (by kernel_rfl) (by simp) ?_
            refine AllReadyH.cons (o := { dst := some 82, op := Op.call { callee := Callee.value (Operand.func 109), args := #[Operand.tmp 81], argTypes := #[177] }, type := 37, pos := "run.go:368", after := #[{ on := 4, ground := Ground.data }], guard := none }) rfl (fun K' hK' => ?_) AllReadyH.nil
            go_simp
            go_at_call 109
            refine (unhide H109 _ ((Fr.refl _ _).drew)).mono ?_
            rintro e w5 ⟨rfl, f5⟩
            have f45 : Fr (fun _ => False) W4 w5 (fun _ => False) := ((Fr.refl _ _).drew).trans f5
            have s5 : w5.heap[w2.heap.size]? = W4.heap[w2.heap.size]? := f45.same _ hb4 (fun h => h)
            have e8 : w5.heap[w.heap.size + 1]? = some (.cells #[.int .i64 0, .int .i64 0, .int .i64 0, .int .i64 0, .int .i64 0, .int .i64 0, .int .i64 0] 37) := (f45.same _ (Array.getElem?_eq_some_iff.1 (unhide D84)).1 (fun h => h)).trans (unhide D84)
            have ct8 := fun j => cell_of_row w5 _ j _ 37 (0, 0) e8
            have ft8 := fun j => frozen_rowE e8 j
            have el8 := (Array.getElem?_eq_some_iff.1 e8).1
            have E8 := hide e8
            have F45 := hide f45
            clear f5 f45 H109 e8
            refine hK'.out _ _ ?_ (fun hHeld => ?_)
            · exact s5
            clear hK' K'
            try simp only [Act.put, List.setIfInBounds_toArray, List.set_cons_zero, List.set_cons_succ]
            refine wpAnyH_take (i := 7) (oi := { dst := some 6, op := Op.assign (Operand.tmp 80), type := 34, pos := "run.go:368", after := #[{ on := 3, ground := Ground.data }, { on := 5, ground := Ground.chain }, { on := 0, ground := Ground.phase }, { on := 1, ground := Ground.phase }, { on := 2, ground := Ground.phase }, { on := 3, ground := Ground.phase }, { on := 4, ground := Ground.textOnly Departure.lateStores }, { on := 5, ground := Ground.textOnly Departure.lateStoresUnsure }, { on := 6, ground := Ground.textOnly Departure.lateStores }], guard := none }) (v := ?_) rfl (by kernel_rfl) (by kernel_rfl) (by kernel_rfl) (fun _ _ _ h => h) (Or.inl ⟨by rfl, ?_⟩) (by assumption) ?_
            rotate_left
            · intro w' hSw; have k26 := (World.cell?_of_block (w := W4) (a := ⟨w2.heap.size, 26, none⟩) hSw).trans g26; go_simp; try with_reducible rfl
            simp only [Act.put, List.setIfInBounds_toArray, List.set_cons_zero, List.set_cons_succ]
            simp only [finV]
            have hne8 : w2.heap.size ≠ w.heap.size + 1 := by omega
            have st : ∀ (V : World) (j : Nat) (u : Value), V.heap[w2.heap.size]? = W4.heap[w2.heap.size]? → (V.setCell ⟨w.heap.size + 1, j, none⟩ u).heap[w2.heap.size]? = W4.heap[w2.heap.size]? := fun V j u hv => (Below.heap_setCell _ _ _ _ hne8).trans hv
            have hs7 : (((((((w5.setCell ⟨w.heap.size + 1, 0, none⟩ (.int .i64 s4.fin)).setCell ⟨w.heap.size + 1, 1, none⟩ (.int .i64 (s4.reg 0))).setCell ⟨w.heap.size + 1, 2, none⟩ (.int .i64 (s4.reg 1))).setCell ⟨w.heap.size + 1, 3, none⟩ (.int .i64 (s4.reg 2))).setCell ⟨w.heap.size + 1, 4, none⟩ (.int .i64 (s4.reg 3))).setCell ⟨w.heap.size + 1, 5, none⟩ (.int .i64 s4.clock)).setCell ⟨w.heap.size + 1, 6, none⟩ (.int .i64 s4.heard)).heap[w2.heap.size]? = W4.heap[w2.heap.size]? := st _ _ _ (st _ _ _ (st _ _ _ (st _ _ _ (st _ _ _ (st _ _ _ (st _ _ _ s5))))))
            have hy7 := out7 (unhide E8) (.int .i64 s4.fin) (.int .i64 (s4.reg 0)) (.int .i64 (s4.reg 1)) (.int .i64 (s4.reg 2)) (.int .i64 (s4.reg 3)) (.int .i64 s4.clock) (.int .i64 s4.heard)
            have hrow7 : w5.ownsRow w2.heap.size 72 3 (.slice ua s3.trace.length uc) s3.trace.length (flatE s4.trace) := ownsRow_of_block (unhide HROW4) (fun q hq => (unhide F45).same q (World.ownsRow.lt (unhide HROW4) q hq).2 (fun h => h))
            have st8 : ∀ (V : World) (j : Nat) (u : Value), V.ownsRow w2.heap.size 72 3 (.slice ua s3.trace.length uc) s3.trace.length (flatE s4.trace) → (V.setCell ⟨w.heap.size + 1, j, none⟩ u).ownsRow w2.heap.size 72 3 (.slice ua s3.trace.length uc) s3.trace.length (flatE s4.trace) := fun V j u hv => ownsRow_of_block hv (fun q hq => Below.heap_setCell _ _ _ _ (fun e => unhide HP8 (by have e' : q = w.heap.size + 1 := e; rw [← e']; exact (unhide HINV q hq).1)))
            have hr7 := rowLow (st8 _ 6 (.int .i64 s4.heard) (st8 _ 5 (.int .i64 s4.clock) (st8 _ 4 (.int .i64 (s4.reg 3)) (st8 _ 3 (.int .i64 (s4.reg 2)) (st8 _ 2 (.int .i64 (s4.reg 1)) (st8 _ 1 (.int .i64 (s4.reg 0)) (st8 _ 0 (.int .i64 s4.fin) hrow7))))))) (show w.heap.size ≤ w2.heap.size by omega)
            have hf7 := (((((((((unhide FW4).trans (unhide F45)).setCell ⟨w.heap.size + 1, 0, none⟩ (.int .i64 s4.fin) (.inr hge)).setCell ⟨w.heap.size + 1, 1, none⟩ (.int .i64 (s4.reg 0)) (.inr hge)).setCell ⟨w.heap.size + 1, 2, none⟩ (.int .i64 (s4.reg 1)) (.inr hge)).setCell ⟨w.heap.size + 1, 3, none⟩ (.int .i64 (s4.reg 2)) (.inr hge)).setCell ⟨w.heap.size + 1, 4, none⟩ (.int .i64 (s4.reg 3)) (.inr hge)).setCell ⟨w.heap.size + 1, 5, none⟩ (.int .i64 s4.clock) (.inr hge)).setCell ⟨w.heap.size + 1, 6, none⟩ (.int .i64 s4.heard) (.inr hge))
            have HS7 := hide hs7
            have HY7 := hide hy7
            have HR7 := hide hr7
            have HF7 := hide hf7
            clear hs7 hy7 hr7 hf7 st st8 hrow7
            refine wpAnyH_ready (rs := [8]) (by kernel_rfl) (by simp) ?_
            refine AllReadyH.cons (o := { dst := none, op := Op.store 37 (Operand.tmp 7) (Operand.tmp 82), type := 0, pos := "run.go:368", after := #[{ on := 5, ground := Ground.data }, { on := 7, ground := Ground.chain }, { on := 0, ground := Ground.phase }, { on := 1, ground := Ground.phase }, { on := 2, ground := Ground.phase }, { on := 3, ground := Ground.phase }, { on := 4, ground := Ground.phase }, { on := 5, ground := Ground.phase }, { on := 6, ground := Ground.textOnly Departure.lateStores }, { on := 7, ground := Ground.phase }], guard := none }) rfl (fun K' hK' => ?_) AllReadyH.nil
            go_simp
            refine hK'.out _ _ ?_ (fun hHeld => ?_)
            · exact unhide HS7
            clear hK' K'
            try simp only [Act.put, List.setIfInBounds_toArray, List.set_cons_zero, List.set_cons_succ]
            refine wpAnyH_take (i := 9) (oi := { dst := some 8, op := Op.assign (Operand.tmp 83), type := 41, pos := "run.go:368", after := #[{ on := 6, ground := Ground.data }, { on := 8, ground := Ground.chain }, { on := 0, ground := Ground.phase }, { on := 1, ground := Ground.phase }, { on := 2, ground := Ground.phase }, { on := 3, ground := Ground.phase }, { on := 4, ground := Ground.phase }, { on := 5, ground := Ground.phase }, { on := 6, ground := Ground.phase }, { on := 7, ground := Ground.phase }, { on := 8, ground := Ground.phase }], guard := none }) (v := ?_) rfl (by kernel_rfl) (by kernel_rfl) (by kernel_rfl) (fun _ _ _ h => h) (Or.inl ⟨by rfl, ?_⟩) (by assumption) ?_
            rotate_left
            · intro w' hSw; have k26 := (World.cell?_of_block (w := W4) (a := ⟨w2.heap.size, 26, none⟩) hSw).trans g26; go_simp; try with_reducible rfl
            simp only [Act.put, List.setIfInBounds_toArray, List.set_cons_zero, List.set_cons_succ]
            refine wpAnyH_done (by kernel_rfl) ?_ _
            generalize hV : (((((((w5.setCell ⟨w.heap.size + 1, 0, none⟩ (.int .i64 s4.fin)).setCell ⟨w.heap.size + 1, 1, none⟩ (.int .i64 (s4.reg 0))).setCell ⟨w.heap.size + 1, 2, none⟩ (.int .i64 (s4.reg 1))).setCell ⟨w.heap.size + 1, 3, none⟩ (.int .i64 (s4.reg 2))).setCell ⟨w.heap.size + 1, 4, none⟩ (.int .i64 (s4.reg 3))).setCell ⟨w.heap.size + 1, 5, none⟩ (.int .i64 s4.clock)).setCell ⟨w.heap.size + 1, 6, none⟩ (.int .i64 s4.heard)) = V at *
            clear hV
            have ky := fun j => cell_of_row V _ j _ 37 (0, 0) (unhide HY7)
            go_wp2
            refine bodyPost_ret (v := .tuple #[.slice ua s3.trace.length uc, finV s4, .int .i64 0]) (by simp [results, Tryz.results80, go_sem, ky, finV]) rfl ?_
            refine ⟨unhide HF7, 0, unhide HANS, .inr (.inr ⟨rfl, fun e => h0 ((unhide HAT).trans e), .slice ua s3.trace.length uc, ?_, ?_⟩)⟩
            · rw [unhide HRS]
            · rw [unhide HRS, unhide HTL]; exact unhide HR7
          · have PK := unhide PACK6 (by rw [hz3]; unfold endR; rw [if_neg h56]; simp only; rw [if_neg (fun h => hn h.2)])
            clear PACK0 PACK6 hz3 hps hin u0 hv8 hc hm h56
            have hnb : ((in_ : Int) == fn3) = false := by simpa using hn
            go_wp2
            go_quiet (fail)
            go_wp2
            have PK := PK nq
            generalize hG : ((w3.drewN nq).setCell ⟨w2.heap.size, 27, none⟩ (.int .i64 6)) = W4 at PK ⊢
            clear hG g27 g8 z27
            obtain ⟨l4, fw4, d8⟩ := unhide PK
            clear PK
            have hb4 := l4.blt
            have g26 := (l4.cell 26 (by omega)).trans (by rw [limg_trace])
            have h109 : ∀ W, Fr (fun _ => False) W4 W (fun _ => False) → _ := fun W hW => finalQ_any (l4.fr (SQP.law w2.heap.size) hW)
            have hrow4 := l4.row
            rw [unhide HTL] at hrow4
            have hinV := l4.inV
            have hbnd := l4.bound
            have H109 := hide h109
            have HROW4 := hide hrow4
            have HINV := hide hinV
            have HBND := hide hbnd
            have FW4 := hide fw4
            have D84 := hide d8
            clear l4 h109 hrow4 hinV fw4 d8 hbnd
            refine wp_region_held_drew (S := fun w' => w'.heap[w2.heap.size]? = W4.heap[w2.heap.size]?) (by kernel_rfl) ?_ (fun hHeld => ?_)
            · exact rfl
            refine wpAnyH_take (i := 0) (oi := { dst := some 77, op := Op.move (Operand.tmp 13), type := 177, pos := "run.go:368", after := #[], guard := none }) (v := ?_) rfl (by kernel_rfl) (by kernel_rfl) (by kernel_rfl) (fun _ _ _ h => h) (Or.inl ⟨by rfl, ?_⟩) (by assumption) ?_
            rotate_left
            · intro w' hSw; have k26 := (World.cell?_of_block (w := W4) (a := ⟨w2.heap.size, 26, none⟩) hSw).trans g26; go_simp; try with_reducible rfl
            simp only [Act.put, List.setIfInBounds_toArray, List.set_cons_zero, List.set_cons_succ]
            refine wpAnyH_take (i := 1) (oi := { dst := some 78, op := Op.nilCheck (Operand.tmp 77), type := 0, pos := "run.go:368", after := #[{ on := 0, ground := Ground.data }], guard := none }) (v := ?_) rfl (by kernel_rfl) (by kernel_rfl) (by kernel_rfl) (fun _ _ _ h => h) (Or.inl ⟨by rfl, ?_⟩) (by assumption) ?_
            rotate_left
            · intro w' hSw; have k26 := (World.cell?_of_block (w := W4) (a := ⟨w2.heap.size, 26, none⟩) hSw).trans g26; go_simp; try with_reducible rfl
            simp only [Act.put, List.setIfInBounds_toArray, List.set_cons_zero, List.set_cons_succ]
            refine wpAnyH_take (i := 2) (oi := { dst := some 79, op := Op.fieldAddr 180 (Operand.tmp 78) 11, type := 0, pos := "run.go:368", after := #[{ on := 1, ground := Ground.data }], guard := none }) (v := ?_) rfl (by kernel_rfl) (by kernel_rfl) (by kernel_rfl) (fun _ _ _ h => h) (Or.inl ⟨by rfl, ?_⟩) (by assumption) ?_
            rotate_left
            · intro w' hSw; have k26 := (World.cell?_of_block (w := W4) (a := ⟨w2.heap.size, 26, none⟩) hSw).trans g26; go_simp; try with_reducible rfl
            simp only [Act.put, List.setIfInBounds_toArray, List.set_cons_zero, List.set_cons_succ]
            refine wpAnyH_take (i := 3) (oi := { dst := some 80, op := Op.load 34 (Operand.tmp 79), type := 34, pos := "run.go:368", after := #[{ on := 2, ground := Ground.data }], guard := none }) (v := ?_) rfl (by kernel_rfl) (by kernel_rfl) (by kernel_rfl) (fun _ _ _ h => h) (Or.inl ⟨by rfl, ?_⟩) (by assumption) ?_
            rotate_left
            · intro w' hSw; have k26 := (World.cell?_of_block (w := W4) (a := ⟨w2.heap.size, 26, none⟩) hSw).trans g26; go_simp; try with_reducible rfl
            simp only [Act.put, List.setIfInBounds_toArray, List.set_cons_zero, List.set_cons_succ]
            refine wpAnyH_take (i := 4) (oi := { dst := some 81, op := Op.move (Operand.tmp 13), type := 177, pos := "run.go:368", after := #[], guard := none }) (v := ?_) rfl (by kernel_rfl) (by kernel_rfl) (by kernel_rfl) (fun _ _ _ h => h) (Or.inl ⟨by rfl, ?_⟩) (by assumption) ?_
            rotate_left
            · intro w' hSw; have k26 := (World.cell?_of_block (w := W4) (a := ⟨w2.heap.size, 26, none⟩) hSw).trans g26; go_simp; try with_reducible rfl
            simp only [Act.put, List.setIfInBounds_toArray, List.set_cons_zero, List.set_cons_succ]
            refine wpAnyH_take (i := 6) (oi := { dst := some 83, op := Op.move (Operand.tmp 9), type := 41, pos := "run.go:368", after := #[{ on := 8, ground := Ground.gcOnly Departure.lateStores }], guard := none }) (v := ?_) rfl (by kernel_rfl) (by kernel_rfl) (by kernel_rfl) (fun _ _ _ h => h) (Or.inl ⟨by rfl, ?_⟩) (by assumption) ?_
            rotate_left
            · intro w' hSw; have k26 := (World.cell?_of_block (w := W4) (a := ⟨w2.heap.size, 26, none⟩) hSw).trans g26; go_simp; try with_reducible rfl
            simp only [Act.put, List.setIfInBounds_toArray, List.set_cons_zero, List.set_cons_succ]
            refine wpAnyH_ready (rs := [5]) (by kernel_rfl) (by simp) ?_
            refine AllReadyH.cons (o := { dst := some 82, op := Op.call { callee := Callee.value (Operand.func 109), args := #[Operand.tmp 81], argTypes := #[177] }, type := 37, pos := "run.go:368", after := #[{ on := 4, ground := Ground.data }], guard := none }) rfl (fun K' hK' => ?_) AllReadyH.nil
            go_simp
            go_at_call 109
            refine (unhide H109 _ ((Fr.refl _ _).drew)).mono ?_
            rintro e w5 ⟨rfl, f5⟩
            have f45 : Fr (fun _ => False) W4 w5 (fun _ => False) := ((Fr.refl _ _).drew).trans f5
            have s5 : w5.heap[w2.heap.size]? = W4.heap[w2.heap.size]? := f45.same _ hb4 (fun h => h)
            have e8 : w5.heap[w.heap.size + 1]? = some (.cells #[.int .i64 0, .int .i64 0, .int .i64 0, .int .i64 0, .int .i64 0, .int .i64 0, .int .i64 0] 37) := (f45.same _ (Array.getElem?_eq_some_iff.1 (unhide D84)).1 (fun h => h)).trans (unhide D84)
            have ct8 := fun j => cell_of_row w5 _ j _ 37 (0, 0) e8
            have ft8 := fun j => frozen_rowE e8 j
            have el8 := (Array.getElem?_eq_some_iff.1 e8).1
            have E8 := hide e8
            have F45 := hide f45
            clear f5 f45 H109 e8
            refine hK'.out _ _ ?_ (fun hHeld => ?_)
            · exact s5
            clear hK' K'
            try simp only [Act.put, List.setIfInBounds_toArray, List.set_cons_zero, List.set_cons_succ]
            refine wpAnyH_take (i := 7) (oi := { dst := some 6, op := Op.assign (Operand.tmp 80), type := 34, pos := "run.go:368", after := #[{ on := 3, ground := Ground.data }, { on := 5, ground := Ground.chain }, { on := 0, ground := Ground.phase }, { on := 1, ground := Ground.phase }, { on := 2, ground := Ground.phase }, { on := 3, ground := Ground.phase }, { on := 4, ground := Ground.textOnly Departure.lateStores }, { on := 5, ground := Ground.textOnly Departure.lateStoresUnsure }, { on := 6, ground := Ground.textOnly Departure.lateStores }], guard := none }) (v := ?_) rfl (by kernel_rfl) (by kernel_rfl) (by kernel_rfl) (fun _ _ _ h => h) (Or.inl ⟨by rfl, ?_⟩) (by assumption) ?_
            rotate_left
            · intro w' hSw; have k26 := (World.cell?_of_block (w := W4) (a := ⟨w2.heap.size, 26, none⟩) hSw).trans g26; go_simp; try with_reducible rfl
            simp only [Act.put, List.setIfInBounds_toArray, List.set_cons_zero, List.set_cons_succ]
            simp only [finV]
            have hne8 : w2.heap.size ≠ w.heap.size + 1 := by omega
            have st : ∀ (V : World) (j : Nat) (u : Value), V.heap[w2.heap.size]? = W4.heap[w2.heap.size]? → (V.setCell ⟨w.heap.size + 1, j, none⟩ u).heap[w2.heap.size]? = W4.heap[w2.heap.size]? := fun V j u hv => (Below.heap_setCell _ _ _ _ hne8).trans hv
            have hs7 : (((((((w5.setCell ⟨w.heap.size + 1, 0, none⟩ (.int .i64 s4.fin)).setCell ⟨w.heap.size + 1, 1, none⟩ (.int .i64 (s4.reg 0))).setCell ⟨w.heap.size + 1, 2, none⟩ (.int .i64 (s4.reg 1))).setCell ⟨w.heap.size + 1, 3, none⟩ (.int .i64 (s4.reg 2))).setCell ⟨w.heap.size + 1, 4, none⟩ (.int .i64 (s4.reg 3))).setCell ⟨w.heap.size + 1, 5, none⟩ (.int .i64 s4.clock)).setCell ⟨w.heap.size + 1, 6, none⟩ (.int .i64 s4.heard)).heap[w2.heap.size]? = W4.heap[w2.heap.size]? := st _ _ _ (st _ _ _ (st _ _ _ (st _ _ _ (st _ _ _ (st _ _ _ (st _ _ _ s5))))))
            have hy7 := out7 (unhide E8) (.int .i64 s4.fin) (.int .i64 (s4.reg 0)) (.int .i64 (s4.reg 1)) (.int .i64 (s4.reg 2)) (.int .i64 (s4.reg 3)) (.int .i64 s4.clock) (.int .i64 s4.heard)
            have hrow7 : w5.ownsRow w2.heap.size 72 3 (.slice ua s3.trace.length uc) s3.trace.length (flatE s4.trace) := ownsRow_of_block (unhide HROW4) (fun q hq => (unhide F45).same q (World.ownsRow.lt (unhide HROW4) q hq).2 (fun h => h))
            have st8 : ∀ (V : World) (j : Nat) (u : Value), V.ownsRow w2.heap.size 72 3 (.slice ua s3.trace.length uc) s3.trace.length (flatE s4.trace) → (V.setCell ⟨w.heap.size + 1, j, none⟩ u).ownsRow w2.heap.size 72 3 (.slice ua s3.trace.length uc) s3.trace.length (flatE s4.trace) := fun V j u hv => ownsRow_of_block hv (fun q hq => Below.heap_setCell _ _ _ _ (fun e => unhide HP8 (by have e' : q = w.heap.size + 1 := e; rw [← e']; exact (unhide HINV q hq).1)))
            have hr7 := rowLow (st8 _ 6 (.int .i64 s4.heard) (st8 _ 5 (.int .i64 s4.clock) (st8 _ 4 (.int .i64 (s4.reg 3)) (st8 _ 3 (.int .i64 (s4.reg 2)) (st8 _ 2 (.int .i64 (s4.reg 1)) (st8 _ 1 (.int .i64 (s4.reg 0)) (st8 _ 0 (.int .i64 s4.fin) hrow7))))))) (show w.heap.size ≤ w2.heap.size by omega)
            have hf7 := (((((((((unhide FW4).trans (unhide F45)).setCell ⟨w.heap.size + 1, 0, none⟩ (.int .i64 s4.fin) (.inr hge)).setCell ⟨w.heap.size + 1, 1, none⟩ (.int .i64 (s4.reg 0)) (.inr hge)).setCell ⟨w.heap.size + 1, 2, none⟩ (.int .i64 (s4.reg 1)) (.inr hge)).setCell ⟨w.heap.size + 1, 3, none⟩ (.int .i64 (s4.reg 2)) (.inr hge)).setCell ⟨w.heap.size + 1, 4, none⟩ (.int .i64 (s4.reg 3)) (.inr hge)).setCell ⟨w.heap.size + 1, 5, none⟩ (.int .i64 s4.clock) (.inr hge)).setCell ⟨w.heap.size + 1, 6, none⟩ (.int .i64 s4.heard) (.inr hge))
            have HS7 := hide hs7
            have HY7 := hide hy7
            have HR7 := hide hr7
            have HF7 := hide hf7
            clear hs7 hy7 hr7 hf7 st st8 hrow7
            refine wpAnyH_ready (rs := [8]) (by kernel_rfl) (by simp) ?_
            refine AllReadyH.cons (o := { dst := none, op := Op.store 37 (Operand.tmp 7) (Operand.tmp 82), type := 0, pos := "run.go:368", after := #[{ on := 5, ground := Ground.data }, { on := 7, ground := Ground.chain }, { on := 0, ground := Ground.phase }, { on := 1, ground := Ground.phase }, { on := 2, ground := Ground.phase }, { on := 3, ground := Ground.phase }, { on := 4, ground := Ground.phase }, { on := 5, ground := Ground.phase }, { on := 6, ground := Ground.textOnly Departure.lateStores }, { on := 7, ground := Ground.phase }], guard := none }) rfl (fun K' hK' => ?_) AllReadyH.nil
            go_simp
            refine hK'.out _ _ ?_ (fun hHeld => ?_)
            · exact unhide HS7
            clear hK' K'
            try simp only [Act.put, List.setIfInBounds_toArray, List.set_cons_zero, List.set_cons_succ]
            refine wpAnyH_take (i := 9) (oi := { dst := some 8, op := Op.assign (Operand.tmp 83), type := 41, pos := "run.go:368", after := #[{ on := 6, ground := Ground.data }, { on := 8, ground := Ground.chain }, { on := 0, ground := Ground.phase }, { on := 1, ground := Ground.phase }, { on := 2, ground := Ground.phase }, { on := 3, ground := Ground.phase }, { on := 4, ground := Ground.phase }, { on := 5, ground := Ground.phase }, { on := 6, ground := Ground.phase }, { on := 7, ground := Ground.phase }, { on := 8, ground := Ground.phase }], guard := none }) (v := ?_) rfl (by kernel_rfl) (by kernel_rfl) (by kernel_rfl) (fun _ _ _ h => h) (Or.inl ⟨by rfl, ?_⟩) (by assumption) ?_
            rotate_left
            · intro w' hSw; have k26 := (World.cell?_of_block (w := W4) (a := ⟨w2.heap.size, 26, none⟩) hSw).trans g26; go_simp; try with_reducible rfl
            simp only [Act.put, List.setIfInBounds_toArray, List.set_cons_zero, List.set_cons_succ]
            refine wpAnyH_done (by kernel_rfl) ?_ _
            generalize hV : (((((((w5.setCell ⟨w.heap.size + 1, 0, none⟩ (.int .i64 s4.fin)).setCell ⟨w.heap.size + 1, 1, none⟩ (.int .i64 (s4.reg 0))).setCell ⟨w.heap.size + 1, 2, none⟩ (.int .i64 (s4.reg 1))).setCell ⟨w.heap.size + 1, 3, none⟩ (.int .i64 (s4.reg 2))).setCell ⟨w.heap.size + 1, 4, none⟩ (.int .i64 (s4.reg 3))).setCell ⟨w.heap.size + 1, 5, none⟩ (.int .i64 s4.clock)).setCell ⟨w.heap.size + 1, 6, none⟩ (.int .i64 s4.heard)) = V at *
            clear hV
            have ky := fun j => cell_of_row V _ j _ 37 (0, 0) (unhide HY7)
            go_wp2
            refine bodyPost_ret (v := .tuple #[.slice ua s3.trace.length uc, finV s4, .int .i64 0]) (by simp [results, Tryz.results80, go_sem, ky, finV]) rfl ?_
            refine ⟨unhide HF7, 0, unhide HANS, .inr (.inr ⟨rfl, fun e => h0 ((unhide HAT).trans e), .slice ua s3.trace.length uc, ?_, ?_⟩)⟩
            · rw [unhide HRS]
            · rw [unhide HRS, unhide HTL]; exact unhide HR7
        · have PK := unhide PACK6 (by rw [hz3]; unfold endR; rw [if_neg h56]; simp only; rw [if_neg (fun h => hk5 h.1)])
          have hk5i : ¬ (ik : Int) = 5 := by omega
          have hkb : ((ik : Int) == 5) = false := by simpa using hk5i
          clear PACK0 PACK6 hz3 hps hin hv8 hc hm h56
          go_wp2
          go_quiet (fail)
          go_wp2
          have PK := PK nq
          generalize hG : ((w3.drewN nq).setCell ⟨w2.heap.size, 27, none⟩ (.int .i64 6)) = W4 at PK ⊢
          clear hG g27 g8 z27
          obtain ⟨l4, fw4, d8⟩ := unhide PK
          clear PK
          have hb4 := l4.blt
          have g26 := (l4.cell 26 (by omega)).trans (by rw [limg_trace])
          have h109 : ∀ W, Fr (fun _ => False) W4 W (fun _ => False) → _ := fun W hW => finalQ_any (l4.fr (SQP.law w2.heap.size) hW)
          have hrow4 := l4.row
          rw [unhide HTL] at hrow4
          have hinV := l4.inV
          have hbnd := l4.bound
          have H109 := hide h109
          have HROW4 := hide hrow4
          have HINV := hide hinV
          have HBND := hide hbnd
          have FW4 := hide fw4
          have D84 := hide d8
          clear l4 h109 hrow4 hinV fw4 d8 hbnd
          refine wp_region_held_drew (S := fun w' => w'.heap[w2.heap.size]? = W4.heap[w2.heap.size]?) (by kernel_rfl) ?_ (fun hHeld => ?_)
          · exact rfl
          refine wpAnyH_take (i := 0) (oi := { dst := some 77, op := Op.move (Operand.tmp 13), type := 177, pos := "run.go:368", after := #[], guard := none }) (v := ?_) rfl (by kernel_rfl) (by kernel_rfl) (by kernel_rfl) (fun _ _ _ h => h) (Or.inl ⟨by rfl, ?_⟩) (by assumption) ?_
          rotate_left
          · intro w' hSw; have k26 := (World.cell?_of_block (w := W4) (a := ⟨w2.heap.size, 26, none⟩) hSw).trans g26; go_simp; try with_reducible rfl
          simp only [Act.put, List.setIfInBounds_toArray, List.set_cons_zero, List.set_cons_succ]
          refine wpAnyH_take (i := 1) (oi := { dst := some 78, op := Op.nilCheck (Operand.tmp 77), type := 0, pos := "run.go:368", after := #[{ on := 0, ground := Ground.data }], guard := none }) (v := ?_) rfl (by kernel_rfl) (by kernel_rfl) (by kernel_rfl) (fun _ _ _ h => h) (Or.inl ⟨by rfl, ?_⟩) (by assumption) ?_
          rotate_left
          · intro w' hSw; have k26 := (World.cell?_of_block (w := W4) (a := ⟨w2.heap.size, 26, none⟩) hSw).trans g26; go_simp; try with_reducible rfl
          simp only [Act.put, List.setIfInBounds_toArray, List.set_cons_zero, List.set_cons_succ]
          refine wpAnyH_take (i := 2) (oi := { dst := some 79, op := Op.fieldAddr 180 (Operand.tmp 78) 11, type := 0, pos := "run.go:368", after := #[{ on := 1, ground := Ground.data }], guard := none }) (v := ?_) rfl (by kernel_rfl) (by kernel_rfl) (by kernel_rfl) (fun _ _ _ h => h) (Or.inl ⟨by rfl, ?_⟩) (by assumption) ?_
          rotate_left
          · intro w' hSw; have k26 := (World.cell?_of_block (w := W4) (a := ⟨w2.heap.size, 26, none⟩) hSw).trans g26; go_simp; try with_reducible rfl
          simp only [Act.put, List.setIfInBounds_toArray, List.set_cons_zero, List.set_cons_succ]
          refine wpAnyH_take (i := 3) (oi := { dst := some 80, op := Op.load 34 (Operand.tmp 79), type := 34, pos := "run.go:368", after := #[{ on := 2, ground := Ground.data }], guard := none }) (v := ?_) rfl (by kernel_rfl) (by kernel_rfl) (by kernel_rfl) (fun _ _ _ h => h) (Or.inl ⟨by rfl, ?_⟩) (by assumption) ?_
          rotate_left
          · intro w' hSw; have k26 := (World.cell?_of_block (w := W4) (a := ⟨w2.heap.size, 26, none⟩) hSw).trans g26; go_simp; try with_reducible rfl
          simp only [Act.put, List.setIfInBounds_toArray, List.set_cons_zero, List.set_cons_succ]
          refine wpAnyH_take (i := 4) (oi := { dst := some 81, op := Op.move (Operand.tmp 13), type := 177, pos := "run.go:368", after := #[], guard := none }) (v := ?_) rfl (by kernel_rfl) (by kernel_rfl) (by kernel_rfl) (fun _ _ _ h => h) (Or.inl ⟨by rfl, ?_⟩) (by assumption) ?_
          rotate_left
          · intro w' hSw; have k26 := (World.cell?_of_block (w := W4) (a := ⟨w2.heap.size, 26, none⟩) hSw).trans g26; go_simp; try with_reducible rfl
          simp only [Act.put, List.setIfInBounds_toArray, List.set_cons_zero, List.set_cons_succ]
          refine wpAnyH_take (i := 6) (oi := { dst := some 83, op := Op.move (Operand.tmp 9), type := 41, pos := "run.go:368", after := #[{ on := 8, ground := Ground.gcOnly Departure.lateStores }], guard := none }) (v := ?_) rfl (by kernel_rfl) (by kernel_rfl) (by kernel_rfl) (fun _ _ _ h => h) (Or.inl ⟨by rfl, ?_⟩) (by assumption) ?_
          rotate_left
          · intro w' hSw; have k26 := (World.cell?_of_block (w := W4) (a := ⟨w2.heap.size, 26, none⟩) hSw).trans g26; go_simp; try with_reducible rfl
          simp only [Act.put, List.setIfInBounds_toArray, List.set_cons_zero, List.set_cons_succ]
          refine wpAnyH_ready (rs := [5]) (by kernel_rfl) (by simp) ?_
          refine AllReadyH.cons (o := { dst := some 82, op := Op.call { callee := Callee.value (Operand.func 109), args := #[Operand.tmp 81], argTypes := #[177] }, type := 37, pos := "run.go:368", after := #[{ on := 4, ground := Ground.data }], guard := none }) rfl (fun K' hK' => ?_) AllReadyH.nil
          go_simp
          go_at_call 109
          refine (unhide H109 _ ((Fr.refl _ _).drew)).mono ?_
          rintro e w5 ⟨rfl, f5⟩
          have f45 : Fr (fun _ => False) W4 w5 (fun _ => False) := ((Fr.refl _ _).drew).trans f5
          have s5 : w5.heap[w2.heap.size]? = W4.heap[w2.heap.size]? := f45.same _ hb4 (fun h => h)
          have e8 : w5.heap[w.heap.size + 1]? = some (.cells #[.int .i64 0, .int .i64 0, .int .i64 0, .int .i64 0, .int .i64 0, .int .i64 0, .int .i64 0] 37) := (f45.same _ (Array.getElem?_eq_some_iff.1 (unhide D84)).1 (fun h => h)).trans (unhide D84)
          have ct8 := fun j => cell_of_row w5 _ j _ 37 (0, 0) e8
          have ft8 := fun j => frozen_rowE e8 j
          have el8 := (Array.getElem?_eq_some_iff.1 e8).1
          have E8 := hide e8
          have F45 := hide f45
          clear f5 f45 H109 e8
          refine hK'.out _ _ ?_ (fun hHeld => ?_)
          · exact s5
          clear hK' K'
          try simp only [Act.put, List.setIfInBounds_toArray, List.set_cons_zero, List.set_cons_succ]
          refine wpAnyH_take (i := 7) (oi := { dst := some 6, op := Op.assign (Operand.tmp 80), type := 34, pos := "run.go:368", after := #[{ on := 3, ground := Ground.data }, { on := 5, ground := Ground.chain }, { on := 0, ground := Ground.phase }, { on := 1, ground := Ground.phase }, { on := 2, ground := Ground.phase }, { on := 3, ground := Ground.phase }, { on := 4, ground := Ground.textOnly Departure.lateStores }, { on := 5, ground := Ground.textOnly Departure.lateStoresUnsure }, { on := 6, ground := Ground.textOnly Departure.lateStores }], guard := none }) (v := ?_) rfl (by kernel_rfl) (by kernel_rfl) (by kernel_rfl) (fun _ _ _ h => h) (Or.inl ⟨by rfl, ?_⟩) (by assumption) ?_
          rotate_left
          · intro w' hSw; have k26 := (World.cell?_of_block (w := W4) (a := ⟨w2.heap.size, 26, none⟩) hSw).trans g26; go_simp; try with_reducible rfl
          simp only [Act.put, List.setIfInBounds_toArray, List.set_cons_zero, List.set_cons_succ]
          simp only [finV]
          have hne8 : w2.heap.size ≠ w.heap.size + 1 := by omega
          have st : ∀ (V : World) (j : Nat) (u : Value), V.heap[w2.heap.size]? = W4.heap[w2.heap.size]? → (V.setCell ⟨w.heap.size + 1, j, none⟩ u).heap[w2.heap.size]? = W4.heap[w2.heap.size]? := fun V j u hv => (Below.heap_setCell _ _ _ _ hne8).trans hv
          have hs7 : (((((((w5.setCell ⟨w.heap.size + 1, 0, none⟩ (.int .i64 s4.fin)).setCell ⟨w.heap.size + 1, 1, none⟩ (.int .i64 (s4.reg 0))).setCell ⟨w.heap.size + 1, 2, none⟩ (.int .i64 (s4.reg 1))).setCell ⟨w.heap.size + 1, 3, none⟩ (.int .i64 (s4.reg 2))).setCell ⟨w.heap.size + 1, 4, none⟩ (.int .i64 (s4.reg 3))).setCell ⟨w.heap.size + 1, 5, none⟩ (.int .i64 s4.clock)).setCell ⟨w.heap.size + 1, 6, none⟩ (.int .i64 s4.heard)).heap[w2.heap.size]? = W4.heap[w2.heap.size]? := st _ _ _ (st _ _ _ (st _ _ _ (st _ _ _ (st _ _ _ (st _ _ _ (st _ _ _ s5))))))
          have hy7 := out7 (unhide E8) (.int .i64 s4.fin) (.int .i64 (s4.reg 0)) (.int .i64 (s4.reg 1)) (.int .i64 (s4.reg 2)) (.int .i64 (s4.reg 3)) (.int .i64 s4.clock) (.int .i64 s4.heard)
          have hrow7 : w5.ownsRow w2.heap.size 72 3 (.slice ua s3.trace.length uc) s3.trace.length (flatE s4.trace) := ownsRow_of_block (unhide HROW4) (fun q hq => (unhide F45).same q (World.ownsRow.lt (unhide HROW4) q hq).2 (fun h => h))
          have st8 : ∀ (V : World) (j : Nat) (u : Value), V.ownsRow w2.heap.size 72 3 (.slice ua s3.trace.length uc) s3.trace.length (flatE s4.trace) → (V.setCell ⟨w.heap.size + 1, j, none⟩ u).ownsRow w2.heap.size 72 3 (.slice ua s3.trace.length uc) s3.trace.length (flatE s4.trace) := fun V j u hv => ownsRow_of_block hv (fun q hq => Below.heap_setCell _ _ _ _ (fun e => unhide HP8 (by have e' : q = w.heap.size + 1 := e; rw [← e']; exact (unhide HINV q hq).1)))
          have hr7 := rowLow (st8 _ 6 (.int .i64 s4.heard) (st8 _ 5 (.int .i64 s4.clock) (st8 _ 4 (.int .i64 (s4.reg 3)) (st8 _ 3 (.int .i64 (s4.reg 2)) (st8 _ 2 (.int .i64 (s4.reg 1)) (st8 _ 1 (.int .i64 (s4.reg 0)) (st8 _ 0 (.int .i64 s4.fin) hrow7))))))) (show w.heap.size ≤ w2.heap.size by omega)
          have hf7 := (((((((((unhide FW4).trans (unhide F45)).setCell ⟨w.heap.size + 1, 0, none⟩ (.int .i64 s4.fin) (.inr hge)).setCell ⟨w.heap.size + 1, 1, none⟩ (.int .i64 (s4.reg 0)) (.inr hge)).setCell ⟨w.heap.size + 1, 2, none⟩ (.int .i64 (s4.reg 1)) (.inr hge)).setCell ⟨w.heap.size + 1, 3, none⟩ (.int .i64 (s4.reg 2)) (.inr hge)).setCell ⟨w.heap.size + 1, 4, none⟩ (.int .i64 (s4.reg 3)) (.inr hge)).setCell ⟨w.heap.size + 1, 5, none⟩ (.int .i64 s4.clock) (.inr hge)).setCell ⟨w.heap.size + 1, 6, none⟩ (.int .i64 s4.heard) (.inr hge))
          have HS7 := hide hs7
          have HY7 := hide hy7
          have HR7 := hide hr7
          have HF7 := hide hf7
          clear hs7 hy7 hr7 hf7 st st8 hrow7
          refine wpAnyH_ready (rs := [8]) (by kernel_rfl) (by simp) ?_
          refine AllReadyH.cons (o := { dst := none, op := Op.store 37 (Operand.tmp 7) (Operand.tmp 82), type := 0, pos := "run.go:368", after := #[{ on := 5, ground := Ground.data }, { on := 7, ground := Ground.chain }, { on := 0, ground := Ground.phase }, { on := 1, ground := Ground.phase }, { on := 2, ground := Ground.phase }, { on := 3, ground := Ground.phase }, { on := 4, ground := Ground.phase }, { on := 5, ground := Ground.phase }, { on := 6, ground := Ground.textOnly Departure.lateStores }, { on := 7, ground := Ground.phase }], guard := none }) rfl (fun K' hK' => ?_) AllReadyH.nil
          go_simp
          refine hK'.out _ _ ?_ (fun hHeld => ?_)
          · exact unhide HS7
          clear hK' K'
          try simp only [Act.put, List.setIfInBounds_toArray, List.set_cons_zero, List.set_cons_succ]
          refine wpAnyH_take (i := 9) (oi := { dst := some 8, op := Op.assign (Operand.tmp 83), type := 41, pos := "run.go:368", after := #[{ on := 6, ground := Ground.data }, { on := 8, ground := Ground.chain }, { on := 0, ground := Ground.phase }, { on := 1, ground := Ground.phase }, { on := 2, ground := Ground.phase }, { on := 3, ground := Ground.phase }, { on := 4, ground := Ground.phase }, { on := 5, ground := Ground.phase }, { on := 6, ground := Ground.phase }, { on := 7, ground := Ground.phase }, { on := 8, ground := Ground.phase }], guard := none }) (v := ?_) rfl (by kernel_rfl) (by kernel_rfl) (by kernel_rfl) (fun _ _ _ h => h) (Or.inl ⟨by rfl, ?_⟩) (by assumption) ?_
          rotate_left
          · intro w' hSw; have k26 := (World.cell?_of_block (w := W4) (a := ⟨w2.heap.size, 26, none⟩) hSw).trans g26; go_simp; try with_reducible rfl
          simp only [Act.put, List.setIfInBounds_toArray, List.set_cons_zero, List.set_cons_succ]
          refine wpAnyH_done (by kernel_rfl) ?_ _
          generalize hV : (((((((w5.setCell ⟨w.heap.size + 1, 0, none⟩ (.int .i64 s4.fin)).setCell ⟨w.heap.size + 1, 1, none⟩ (.int .i64 (s4.reg 0))).setCell ⟨w.heap.size + 1, 2, none⟩ (.int .i64 (s4.reg 1))).setCell ⟨w.heap.size + 1, 3, none⟩ (.int .i64 (s4.reg 2))).setCell ⟨w.heap.size + 1, 4, none⟩ (.int .i64 (s4.reg 3))).setCell ⟨w.heap.size + 1, 5, none⟩ (.int .i64 s4.clock)).setCell ⟨w.heap.size + 1, 6, none⟩ (.int .i64 s4.heard)) = V at *
          clear hV
          have ky := fun j => cell_of_row V _ j _ 37 (0, 0) (unhide HY7)
          go_wp2
          refine bodyPost_ret (v := .tuple #[.slice ua s3.trace.length uc, finV s4, .int .i64 0]) (by simp [results, Tryz.results80, go_sem, ky, finV]) rfl ?_
          refine ⟨unhide HF7, 0, unhide HANS, .inr (.inr ⟨rfl, fun e => h0 ((unhide HAT).trans e), .slice ua s3.trace.length uc, ?_, ?_⟩)⟩
          · rw [unhide HRS]
          · rw [unhide HRS, unhide HTL]; exact unhide HR7
    · have hfd : decide (fn3 < 5) = false := decide_eq_false hf5
      have PK := unhide PACK0 (by unfold endR; rw [if_pos (by omega)])
      clear PACK0 PACK6 hps hin
      go_wp2
      go_quiet (fail)
      go_wp2
      have PK := PK nq
      generalize hG : (w3.drewN nq) = W4 at PK ⊢
      clear hG g27 g8 z27
      obtain ⟨l4, fw4, d8⟩ := unhide PK
      clear PK
      have hb4 := l4.blt
      have g26 := (l4.cell 26 (by omega)).trans (by rw [limg_trace])
      have h109 : ∀ W, Fr (fun _ => False) W4 W (fun _ => False) → _ := fun W hW => finalQ_any (l4.fr (SQP.law w2.heap.size) hW)
      have hrow4 := l4.row
      rw [unhide HTL] at hrow4
      have hinV := l4.inV
      have hbnd := l4.bound
      have H109 := hide h109
      have HROW4 := hide hrow4
      have HINV := hide hinV
      have HBND := hide hbnd
      have FW4 := hide fw4
      have D84 := hide d8
      clear l4 h109 hrow4 hinV fw4 d8 hbnd
      refine wp_region_held_drew (S := fun w' => w'.heap[w2.heap.size]? = W4.heap[w2.heap.size]?) (by kernel_rfl) ?_ (fun hHeld => ?_)
      · exact rfl
      refine wpAnyH_take (i := 0) (oi := { dst := some 77, op := Op.move (Operand.tmp 13), type := 177, pos := "run.go:368", after := #[], guard := none }) (v := ?_) rfl (by kernel_rfl) (by kernel_rfl) (by kernel_rfl) (fun _ _ _ h => h) (Or.inl ⟨by rfl, ?_⟩) (by assumption) ?_
      rotate_left
      · intro w' hSw; have k26 := (World.cell?_of_block (w := W4) (a := ⟨w2.heap.size, 26, none⟩) hSw).trans g26; go_simp; try with_reducible rfl
      simp only [Act.put, List.setIfInBounds_toArray, List.set_cons_zero, List.set_cons_succ]
      refine wpAnyH_take (i := 1) (oi := { dst := some 78, op := Op.nilCheck (Operand.tmp 77), type := 0, pos := "run.go:368", after := #[{ on := 0, ground := Ground.data }], guard := none }) (v := ?_) rfl (by kernel_rfl) (by kernel_rfl) (by kernel_rfl) (fun _ _ _ h => h) (Or.inl ⟨by rfl, ?_⟩) (by assumption) ?_
      rotate_left
      · intro w' hSw; have k26 := (World.cell?_of_block (w := W4) (a := ⟨w2.heap.size, 26, none⟩) hSw).trans g26; go_simp; try with_reducible rfl
      simp only [Act.put, List.setIfInBounds_toArray, List.set_cons_zero, List.set_cons_succ]
      refine wpAnyH_take (i := 2) (oi := { dst := some 79, op := Op.fieldAddr 180 (Operand.tmp 78) 11, type := 0, pos := "run.go:368", after := #[{ on := 1, ground := Ground.data }], guard := none }) (v := ?_) rfl (by kernel_rfl) (by kernel_rfl) (by kernel_rfl) (fun _ _ _ h => h) (Or.inl ⟨by rfl, ?_⟩) (by assumption) ?_
      rotate_left
      · intro w' hSw; have k26 := (World.cell?_of_block (w := W4) (a := ⟨w2.heap.size, 26, none⟩) hSw).trans g26; go_simp; try with_reducible rfl
      simp only [Act.put, List.setIfInBounds_toArray, List.set_cons_zero, List.set_cons_succ]
      refine wpAnyH_take (i := 3) (oi := { dst := some 80, op := Op.load 34 (Operand.tmp 79), type := 34, pos := "run.go:368", after := #[{ on := 2, ground := Ground.data }], guard := none }) (v := ?_) rfl (by kernel_rfl) (by kernel_rfl) (by kernel_rfl) (fun _ _ _ h => h) (Or.inl ⟨by rfl, ?_⟩) (by assumption) ?_
      rotate_left
      · intro w' hSw; have k26 := (World.cell?_of_block (w := W4) (a := ⟨w2.heap.size, 26, none⟩) hSw).trans g26; go_simp; try with_reducible rfl
      simp only [Act.put, List.setIfInBounds_toArray, List.set_cons_zero, List.set_cons_succ]
      refine wpAnyH_take (i := 4) (oi := { dst := some 81, op := Op.move (Operand.tmp 13), type := 177, pos := "run.go:368", after := #[], guard := none }) (v := ?_) rfl (by kernel_rfl) (by kernel_rfl) (by kernel_rfl) (fun _ _ _ h => h) (Or.inl ⟨by rfl, ?_⟩) (by assumption) ?_
      rotate_left
      · intro w' hSw; have k26 := (World.cell?_of_block (w := W4) (a := ⟨w2.heap.size, 26, none⟩) hSw).trans g26; go_simp; try with_reducible rfl
      simp only [Act.put, List.setIfInBounds_toArray, List.set_cons_zero, List.set_cons_succ]
      refine wpAnyH_take (i := 6) (oi := { dst := some 83, op := Op.move (Operand.tmp 9), type := 41, pos := "run.go:368", after := #[{ on := 8, ground := Ground.gcOnly Departure.lateStores }], guard := none }) (v := ?_) rfl (by kernel_rfl) (by kernel_rfl) (by kernel_rfl) (fun _ _ _ h => h) (Or.inl ⟨by rfl, ?_⟩) (by assumption) ?_
      rotate_left
      · intro w' hSw; have k26 := (World.cell?_of_block (w := W4) (a := ⟨w2.heap.size, 26, none⟩) hSw).trans g26; go_simp; try with_reducible rfl
      simp only [Act.put, List.setIfInBounds_toArray, List.set_cons_zero, List.set_cons_succ]
      refine wpAnyH_ready (rs := [5]) (by kernel_rfl) (by simp) ?_
      refine AllReadyH.cons (o := { dst := some 82, op := Op.call { callee := Callee.value (Operand.func 109), args := #[Operand.tmp 81], argTypes := #[177] }, type := 37, pos := "run.go:368", after := #[{ on := 4, ground := Ground.data }], guard := none }) rfl (fun K' hK' => ?_) AllReadyH.nil
      go_simp
      go_at_call 109
      refine (unhide H109 _ ((Fr.refl _ _).drew)).mono ?_
      rintro e w5 ⟨rfl, f5⟩
      have f45 : Fr (fun _ => False) W4 w5 (fun _ => False) := ((Fr.refl _ _).drew).trans f5
      have s5 : w5.heap[w2.heap.size]? = W4.heap[w2.heap.size]? := f45.same _ hb4 (fun h => h)
      have e8 : w5.heap[w.heap.size + 1]? = some (.cells #[.int .i64 0, .int .i64 0, .int .i64 0, .int .i64 0, .int .i64 0, .int .i64 0, .int .i64 0] 37) := (f45.same _ (Array.getElem?_eq_some_iff.1 (unhide D84)).1 (fun h => h)).trans (unhide D84)
      have ct8 := fun j => cell_of_row w5 _ j _ 37 (0, 0) e8
      have ft8 := fun j => frozen_rowE e8 j
      have el8 := (Array.getElem?_eq_some_iff.1 e8).1
      have E8 := hide e8
      have F45 := hide f45
      clear f5 f45 H109 e8
      refine hK'.out _ _ ?_ (fun hHeld => ?_)
      · exact s5
      clear hK' K'
      try simp only [Act.put, List.setIfInBounds_toArray, List.set_cons_zero, List.set_cons_succ]
      refine wpAnyH_take (i := 7) (oi := { dst := some 6, op := Op.assign (Operand.tmp 80), type := 34, pos := "run.go:368", after := #[{ on := 3, ground := Ground.data }, { on := 5, ground := Ground.chain }, { on := 0, ground := Ground.phase }, { on := 1, ground := Ground.phase }, { on := 2, ground := Ground.phase }, { on := 3, ground := Ground.phase }, { on := 4, ground := Ground.textOnly Departure.lateStores }, { on := 5, ground := Ground.textOnly Departure.lateStoresUnsure }, { on := 6, ground := Ground.textOnly Departure.lateStores }], guard := none }) (v := ?_) rfl (by kernel_rfl) (by kernel_rfl) (by kernel_rfl) (fun _ _ _ h => h) (Or.inl ⟨by rfl, ?_⟩) (by assumption) ?_
      rotate_left
      · intro w' hSw; have k26 := (World.cell?_of_block (w := W4) (a := ⟨w2.heap.size, 26, none⟩) hSw).trans g26; go_simp; try with_reducible rfl
      simp only [Act.put, List.setIfInBounds_toArray, List.set_cons_zero, List.set_cons_succ]
      simp only [finV]
      have hne8 : w2.heap.size ≠ w.heap.size + 1 := by omega
      have st : ∀ (V : World) (j : Nat) (u : Value), V.heap[w2.heap.size]? = W4.heap[w2.heap.size]? → (V.setCell ⟨w.heap.size + 1, j, none⟩ u).heap[w2.heap.size]? = W4.heap[w2.heap.size]? := fun V j u hv => (Below.heap_setCell _ _ _ _ hne8).trans hv
      have hs7 : (((((((w5.setCell ⟨w.heap.size + 1, 0, none⟩ (.int .i64 s4.fin)).setCell ⟨w.heap.size + 1, 1, none⟩ (.int .i64 (s4.reg 0))).setCell ⟨w.heap.size + 1, 2, none⟩ (.int .i64 (s4.reg 1))).setCell ⟨w.heap.size + 1, 3, none⟩ (.int .i64 (s4.reg 2))).setCell ⟨w.heap.size + 1, 4, none⟩ (.int .i64 (s4.reg 3))).setCell ⟨w.heap.size + 1, 5, none⟩ (.int .i64 s4.clock)).setCell ⟨w.heap.size + 1, 6, none⟩ (.int .i64 s4.heard)).heap[w2.heap.size]? = W4.heap[w2.heap.size]? := st _ _ _ (st _ _ _ (st _ _ _ (st _ _ _ (st _ _ _ (st _ _ _ (st _ _ _ s5))))))
      have hy7 := out7 (unhide E8) (.int .i64 s4.fin) (.int .i64 (s4.reg 0)) (.int .i64 (s4.reg 1)) (.int .i64 (s4.reg 2)) (.int .i64 (s4.reg 3)) (.int .i64 s4.clock) (.int .i64 s4.heard)
      have hrow7 : w5.ownsRow w2.heap.size 72 3 (.slice ua s3.trace.length uc) s3.trace.length (flatE s4.trace) := ownsRow_of_block (unhide HROW4) (fun q hq => (unhide F45).same q (World.ownsRow.lt (unhide HROW4) q hq).2 (fun h => h))
      have st8 : ∀ (V : World) (j : Nat) (u : Value), V.ownsRow w2.heap.size 72 3 (.slice ua s3.trace.length uc) s3.trace.length (flatE s4.trace) → (V.setCell ⟨w.heap.size + 1, j, none⟩ u).ownsRow w2.heap.size 72 3 (.slice ua s3.trace.length uc) s3.trace.length (flatE s4.trace) := fun V j u hv => ownsRow_of_block hv (fun q hq => Below.heap_setCell _ _ _ _ (fun e => unhide HP8 (by have e' : q = w.heap.size + 1 := e; rw [← e']; exact (unhide HINV q hq).1)))
      have hr7 := rowLow (st8 _ 6 (.int .i64 s4.heard) (st8 _ 5 (.int .i64 s4.clock) (st8 _ 4 (.int .i64 (s4.reg 3)) (st8 _ 3 (.int .i64 (s4.reg 2)) (st8 _ 2 (.int .i64 (s4.reg 1)) (st8 _ 1 (.int .i64 (s4.reg 0)) (st8 _ 0 (.int .i64 s4.fin) hrow7))))))) (show w.heap.size ≤ w2.heap.size by omega)
      have hf7 := (((((((((unhide FW4).trans (unhide F45)).setCell ⟨w.heap.size + 1, 0, none⟩ (.int .i64 s4.fin) (.inr hge)).setCell ⟨w.heap.size + 1, 1, none⟩ (.int .i64 (s4.reg 0)) (.inr hge)).setCell ⟨w.heap.size + 1, 2, none⟩ (.int .i64 (s4.reg 1)) (.inr hge)).setCell ⟨w.heap.size + 1, 3, none⟩ (.int .i64 (s4.reg 2)) (.inr hge)).setCell ⟨w.heap.size + 1, 4, none⟩ (.int .i64 (s4.reg 3)) (.inr hge)).setCell ⟨w.heap.size + 1, 5, none⟩ (.int .i64 s4.clock) (.inr hge)).setCell ⟨w.heap.size + 1, 6, none⟩ (.int .i64 s4.heard) (.inr hge))
      have HS7 := hide hs7
      have HY7 := hide hy7
      have HR7 := hide hr7
      have HF7 := hide hf7
      clear hs7 hy7 hr7 hf7 st st8 hrow7
      refine wpAnyH_ready (rs := [8]) (by kernel_rfl) (by simp) ?_
      refine AllReadyH.cons (o := { dst := none, op := Op.store 37 (Operand.tmp 7) (Operand.tmp 82), type := 0, pos := "run.go:368", after := #[{ on := 5, ground := Ground.data }, { on := 7, ground := Ground.chain }, { on := 0, ground := Ground.phase }, { on := 1, ground := Ground.phase }, { on := 2, ground := Ground.phase }, { on := 3, ground := Ground.phase }, { on := 4, ground := Ground.phase }, { on := 5, ground := Ground.phase }, { on := 6, ground := Ground.textOnly Departure.lateStores }, { on := 7, ground := Ground.phase }], guard := none }) rfl (fun K' hK' => ?_) AllReadyH.nil
      go_simp
      refine hK'.out _ _ ?_ (fun hHeld => ?_)
      · exact unhide HS7
      clear hK' K'
      try simp only [Act.put, List.setIfInBounds_toArray, List.set_cons_zero, List.set_cons_succ]
      refine wpAnyH_take (i := 9) (oi := { dst := some 8, op := Op.assign (Operand.tmp 83), type := 41, pos := "run.go:368", after := #[{ on := 6, ground := Ground.data }, { on := 8, ground := Ground.chain }, { on := 0, ground := Ground.phase }, { on := 1, ground := Ground.phase }, { on := 2, ground := Ground.phase }, { on := 3, ground := Ground.phase }, { on := 4, ground := Ground.phase }, { on := 5, ground := Ground.phase }, { on := 6, ground := Ground.phase }, { on := 7, ground := Ground.phase }, { on := 8, ground := Ground.phase }], guard := none }) (v := ?_) rfl (by kernel_rfl) (by kernel_rfl) (by kernel_rfl) (fun _ _ _ h => h) (Or.inl ⟨by rfl, ?_⟩) (by assumption) ?_
      rotate_left
      · intro w' hSw; have k26 := (World.cell?_of_block (w := W4) (a := ⟨w2.heap.size, 26, none⟩) hSw).trans g26; go_simp; try with_reducible rfl
      simp only [Act.put, List.setIfInBounds_toArray, List.set_cons_zero, List.set_cons_succ]
      refine wpAnyH_done (by kernel_rfl) ?_ _
      generalize hV : (((((((w5.setCell ⟨w.heap.size + 1, 0, none⟩ (.int .i64 s4.fin)).setCell ⟨w.heap.size + 1, 1, none⟩ (.int .i64 (s4.reg 0))).setCell ⟨w.heap.size + 1, 2, none⟩ (.int .i64 (s4.reg 1))).setCell ⟨w.heap.size + 1, 3, none⟩ (.int .i64 (s4.reg 2))).setCell ⟨w.heap.size + 1, 4, none⟩ (.int .i64 (s4.reg 3))).setCell ⟨w.heap.size + 1, 5, none⟩ (.int .i64 s4.clock)).setCell ⟨w.heap.size + 1, 6, none⟩ (.int .i64 s4.heard)) = V at *
      clear hV
      have ky := fun j => cell_of_row V _ j _ 37 (0, 0) (unhide HY7)
      go_wp2
      refine bodyPost_ret (v := .tuple #[.slice ua s3.trace.length uc, finV s4, .int .i64 0]) (by simp [results, Tryz.results80, go_sem, ky, finV]) rfl ?_
      refine ⟨unhide HF7, 0, unhide HANS, .inr (.inr ⟨rfl, fun e => h0 ((unhide HAT).trans e), .slice ua s3.trace.length uc, ?_, ?_⟩)⟩
      · rw [unhide HRS]
      · rw [unhide HRS, unhide HTL]; exact unhide HR7
  · have hxb : (x == 0) = false := by simpa using hx
    go_wp2
    have y8 := out7 (unhide B8) (.int .i64 0) (.int .i64 0) (.int .i64 0) (.int .i64 0) (.int .i64 0) (.int .i64 0) (.int .i64 0)
    have ky := fun j => cell_of_row _ _ j _ 37 (0, 0) y8
    refine bodyPost_ret (v := .tuple #[.slice none 0 0, .agg #[.int .i64 0, .int .i64 0, .int .i64 0, .int .i64 0, .int .i64 0, .int .i64 0, .int .i64 0], .int .i64 x]) (by simp [results, Tryz.results80, go_sem, ky]) rfl ?_
    exact ⟨((((((((Fr.of_below (unhide HW1)).setCell ⟨w.heap.size + 1, 0, none⟩ _ (.inr hge)).setCell ⟨w.heap.size + 1, 1, none⟩ _ (.inr hge)).setCell ⟨w.heap.size + 1, 2, none⟩ _ (.inr hge)).setCell ⟨w.heap.size + 1, 3, none⟩ _ (.inr hge)).setCell ⟨w.heap.size + 1, 4, none⟩ _ (.inr hge)).setCell ⟨w.heap.size + 1, 5, none⟩ _ (.inr hge)).setCell ⟨w.heap.size + 1, 6, none⟩ _ (.inr hge)), x, unhide HANS, .inl ⟨hx, rfl⟩⟩
end Go.Proofs.YtfmbebofllgmoaaGreatDoor
namespace Go.Proofs.YtfmbebofllgmoaaGreatDoor
open Go.RowKit
attribute [local go_sem ↓] Go.wp_at_zero Go.wp_at_succ

section
variable (p : Pg) (f : Int) (lg : ByteArray) (x : Int)
/-- The trace that Replay answers, by the error of Check. -/
def rotT : List O3 := if x = 0 ∧ (readL (bs lg)).2.1 ≠ 0 then (repS p f (rdV lg)).trace else []
/-- Its Final's numbers. -/
def rotF : PS := if x = 0 ∧ (readL (bs lg)).2.1 ≠ 0 then repS p f (rdV lg) else { repS p f (rdV lg) with fin := 0, reg := fun _ => 0, clock := 0, heard := 0 }
/-- Its error. -/
def rotX : Int := if x = 0 then (if (readL (bs lg)).2.1 = 0 then 5 else 0) else x
end
theorem RepPost.out {w w' : World} {p : Pg} {f : Int} {lg : ByteArray} {e : Ending} (h : RepPost w p f lg e w') :
    Fr (fun _ => False) w w' (fun _ => False) ∧ ∃ x, Ans p.tn p.fn (1 + p.tn + p.fn) (allL p.sn p.tn p.tl p.fl) (allF p.tn p.sf p.tf p.ff) x ∧ ∃ a c,
      e = .returned (.tuple #[.slice a (rotT p f lg x).length c, finV (rotF p f lg x), .int .i64 (rotX lg x)]) ∧ w'.ownsRow w.heap.size 72 3 (.slice a (rotT p f lg x).length c) (rotT p f lg x).length (flatE (rotT p f lg x)) := by
  obtain ⟨hf, x, hx, ⟨h0, he⟩ | ⟨h0, h1, he⟩ | ⟨h0, h1, vt, he, hr⟩⟩ := h
  · refine ⟨hf, x, hx, none, 0, ?_, ?_⟩
    · rw [he]; simp [rotT, rotF, rotX, h0, finV, zeroF]
    · simp only [rotT, h0, false_and, if_false]
      exact World.ownsRow_nil _ _ _ _
  · subst h0
    refine ⟨hf, 0, hx, none, 0, ?_, ?_⟩
    · rw [he]; simp [rotT, rotF, rotX, h1, finV, zeroF]
    · simp only [rotT, h1, ne_eq, not_true_eq_false, and_false, if_false]
      exact World.ownsRow_nil _ _ _ _
  · subst h0
    obtain ⟨a, c, rfl⟩ := row_shape hr
    refine ⟨hf, 0, hx, a, c, ?_, ?_⟩
    · rw [he]; simp [rotT, rotF, rotX, h1]
    · simpa [rotT, h1] using hr
theorem rotT_le {p : Pg} {f : Int} {lg : ByteArray} {x : Int} (hx : Ans p.tn p.fn (1 + p.tn + p.fn) (allL p.sn p.tn p.tl p.fl) (allF p.tn p.sf p.tf p.ff) x) : (rotT p f lg x).length ≤ 5000 + 16 * ((readL (bs lg)).1.length + 1) := by
  unfold rotT
  split
  · next h =>
    obtain ⟨rfl, _⟩ := h
    exact runM_trace repAsk_ok (pgok_of_ans hx) _ f (rdV lg)
  · simp

set_option maxHeartbeats 4000000 in
set_option maxRecDepth 20000 in
theorem replayL_any {w w0 : World} {bb : Nat} {n0 : Int} {vI vE vN : Value} {LI LE LN : List Ent} {K : Nat → Prop} (h : BookK w w0.heap.size bb n0 vI vE vN LI LE LN K) (hbb : w0.heap.size ≤ bb) (hbw : Below w0.heap.size w0 w) (ht : TabIn w0)
    {p1 p2 p3 : Value} {p : Pg} (hpg : PgAt w0 (pvOf p1 p2 p3 undef) p) (lg : ByteArray) (hlg : lg.size ≤ 1000000000) (hcnt : (readL (bs lg)).1.length ≤ 2000000) (f : Int) (hL : LE.length ≤ 900000000000) :
    Calls Tryz.prog 46 #[.pointer (some ⟨bb, 0, none⟩), .agg #[p1, p2, p3], .string lg, .int .i64 f] w fun e w' => e = .returned (.bool true) ∧ EvKept w w' w0.heap.size bb vI vN LI LE LN := by
  have i1 : OpsIn w0 p1 p.sn p.sf := hpg.s
  have i2 : HandsIn w0 p2 p.tn p.tl p.tf := hpg.t
  have i3 : HandsIn w0 p3 p.fn p.fl p.ff := hpg.f
  have n1 := opsIn_len i1
  have n2 := handsIn_len i2
  have n3 := handsIn_len i3
  have e2 := handsIn_each i2
  have e3 := handsIn_each i3
  obtain ⟨W0, hW⟩ : ∃ W0, W0 = w.alloc (.cells #[p1, p2, p3] 33) := ⟨_, rfl⟩
  have g0 : Below w.heap.size w W0 := by subst hW; exact (Below.refl _ _).alloc (Nat.le_refl _) _
  have s0 : W0.heap.size = w.heap.size + 1 := by subst hW; simp
  have b0 : W0.heap[w.heap.size]? = some (.cells #[p1, p2, p3] 33) := by subst hW; exact heap_alloc_new _ _
  have hsw : w0.heap.size ≤ w.heap.size := hbw.size
  have h00 : Below w0.heap.size w0 W0 := hbw.trans (g0.mono hsw)
  have H39 := hide (program_any p1 p2 p3 p.sn p.tn p.fn p.sf p.tl p.fl p.tf p.ff W0 (opsIn_below h00 i1) (handsIn_below h00 i2) (handsIn_below h00 i3))
  have hbkb : bb < w.heap.size := (Array.getElem?_eq_some_iff.1 h.bk.blk).1
  have hbkE : ∀ q, own vE q → w0.heap.size ≤ q ∧ q < w.heap.size := fun q hq => World.ownsRow.lt h.bk.rE q hq
  have HH := hide h
  have HPG := hide hpg
  have HT := hide ht
  have G0 := hide g0
  have H00 := hide h00
  have B0 := hide b0
  have HW := hide hW
  have I1 := hide i1
  have I2 := hide i2
  have I3 := hide i3
  have N1 := hide n1
  have N2 := hide n2
  have N3 := hide n3
  have E2 := hide e2
  have E3 := hide e3
  have HE := hide hbkE
  have HL := hide hL
  have HBB := hide hbb
  have HLG := hide hlg
  have HCNT := hide hcnt
  have e35 := eq35
  clear h hpg ht g0 h00 hbw b0 hW i1 i2 i3 n1 n2 n3 e2 e3 hbkE hL hbb hlg hcnt
  go_enter Tryz.func46, Tryz.ntmps46
  go_wp2_with fail
  rw [← unhide HW]
  go_at_call 39
  refine (unhide H39).mono ?_
  rintro e w1 ⟨g1, g2, g3, G2, G3, rfl, hb1, m1, m12, m23, mG, o1, o2, o3⟩
  have x1 := keepblk hb1 (unhide B0)
  have z1 : W0.heap.size ≤ w1.heap.size := hb1.size
  obtain ⟨W1, hW1⟩ : ∃ W1, W1 = w1.alloc (.cells #[.slice (some ⟨g1, 0, none⟩) p.sn (p.sn + 4), .slice (some ⟨g2, 0, none⟩) p.tn (p.tn + 4), .slice (some ⟨g3, 0, none⟩) p.fn (p.fn + 4)] 33) := ⟨_, rfl⟩
  have c1 : Below w1.heap.size w1 W1 := by subst hW1; exact (Below.refl _ _).alloc (Nat.le_refl _) _
  have s1 : W1.heap.size = w1.heap.size + 1 := by subst hW1; simp
  have y1 : W1.heap[w1.heap.size]? = some (.cells #[.slice (some ⟨g1, 0, none⟩) p.sn (p.sn + 4), .slice (some ⟨g2, 0, none⟩) p.tn (p.tn + 4), .slice (some ⟨g3, 0, none⟩) p.fn (p.fn + 4)] 33) := by subst hW1; exact heap_alloc_new _ _
  have d1 : Below W0.heap.size W0 W1 := hb1.trans (c1.mono z1)
  have h01 : Below w0.heap.size w0 W1 := (unhide H00).trans (d1.mono (by omega))
  have l1 : g1 < w1.heap.size := opAt_lt (o1.cells 0 (by omega))
  have l2 : g2 < w1.heap.size := World.block_lt_of_cell? w1 ⟨g2, p.tn, none⟩ (o2.pads p.tn (by omega) (by omega))
  have l3 : g3 < w1.heap.size := World.block_lt_of_cell? w1 ⟨g3, p.fn, none⟩ (o3.pads p.fn (by omega) (by omega))
  have pg1 : PgAt W1 (pvOf (.slice (some ⟨g1, 0, none⟩) p.sn (p.sn + 4)) (.slice (some ⟨g2, 0, none⟩) p.tn (p.tn + 4)) (.slice (some ⟨g3, 0, none⟩) p.fn (p.fn + 4)) undef) p :=
    ⟨(o1.below c1 l1).opsIn (unhide N1), (o2.below c1 l2 (fun i hi => (o2.far i hi).2)).handsIn (unhide N2) (unhide E2), (o3.below c1 l3 (fun i hi => (o3.far i hi).2)).handsIn (unhide N3) (unhide E3)⟩
  have h15 := replay_any (w := W1) (w0 := W1) (Below.refl _ _) (tabIn_below h01 (tabIn_lt (unhide HT)) (unhide HT)) pg1 f lg (unhide HLG) (unhide HCNT)
  have H15 := hide h15
  have X1 := hide x1
  have Y1 := hide y1
  have C1 := hide c1
  have D1 := hide d1
  have H01 := hide h01
  have HW1 := hide hW1
  have O1 := hide o1
  have O2 := hide o2
  have O3 := hide o3
  have MG := hide mG
  have k1 := fun j => cell_of_row w1 w.heap.size j _ 33 (0, 0) x1
  have hlt1 : w.heap.size < w1.heap.size := by omega
  clear h15 x1 y1 c1 d1 h01 pg1 hW1 o1 o2 o3 mG hb1 H39 HW
  go_wp2_with fail
  rw [← unhide HW1]
  go_at_call 15
  refine (unhide H15).mono ?_
  rintro e w3 hpost
  obtain ⟨f3, x, hx, a3, c3, rfl, r3⟩ := hpost.out
  obtain ⟨T, hT⟩ : ∃ T, T = rotT p f lg x := ⟨_, rfl⟩
  obtain ⟨F, hF⟩ : ∃ F, F = rotF p f lg x := ⟨_, rfl⟩
  obtain ⟨X, hX⟩ : ∃ X, X = rotX lg x := ⟨_, rfl⟩
  have tle := rotT_le (f := f) (lg := lg) hx
  rw [← hT] at r3 tle
  have hb3 : Below W1.heap.size W1 w3 := f3.below (fun k hk => hk.elim) (Nat.le_refl _)
  have x3 := keepblk hb3 (keepblk (unhide C1) (unhide X1))
  have y33 := keepblk hb3 (unhide Y1)
  have z3 : W1.heap.size ≤ w3.heap.size := hb3.size
  obtain ⟨W3, hW3⟩ : ∃ W3, W3 = w3.alloc (.cells #[.int .i64 F.fin, .int .i64 (F.reg 0), .int .i64 (F.reg 1), .int .i64 (F.reg 2), .int .i64 (F.reg 3), .int .i64 F.clock, .int .i64 F.heard] 37) := ⟨_, rfl⟩
  have c3b : Below w3.heap.size w3 W3 := by subst hW3; exact (Below.refl _ _).alloc (Nat.le_refl _) _
  have s3 : W3.heap.size = w3.heap.size + 1 := by subst hW3; simp
  have y35 : W3.heap[w3.heap.size]? = some (.cells #[.int .i64 F.fin, .int .i64 (F.reg 0), .int .i64 (F.reg 1), .int .i64 (F.reg 2), .int .i64 (F.reg 3), .int .i64 F.clock, .int .i64 F.heard] 37) := by subst hW3; exact heap_alloc_new _ _
  have d3 : Below W1.heap.size W1 W3 := hb3.trans (c3b.mono z3)
  have h03 : Below w0.heap.size w0 W3 := (unhide H01).trans (d3.mono (by omega))
  have h80 := refReplay_any (w := W3) (p1 := p1) (p2 := p2) (p3 := p3) (p := p) ⟨opsIn_below h03 (unhide I1), handsIn_below h03 (unhide I2), handsIn_below h03 (unhide I3)⟩ f lg (unhide HLG) (unhide HCNT)
  have H80 := hide h80
  have X3 := hide x3
  have Y33 := hide y33
  have Y35 := hide y35
  have C3 := hide c3b
  have D3 := hide d3
  have R3 := hide r3
  have TLE := hide tle
  have HX := hide hx
  have HTT := hide hT
  have HFF := hide hF
  have HXX := hide hX
  have HW3 := hide hW3
  have k3 := fun j => cell_of_row w3 w.heap.size j _ 33 (0, 0) x3
  have hlt3 : w.heap.size < w3.heap.size := by omega
  rw [← hT, ← hF, ← hX]
  simp only [finV]
  clear h80 x3 y33 y35 c3b d3 h03 r3 tle hx hT hF hX hW3 hb3 f3 hpost H15 HW1 k1 hlt1
  go_wp2_with fail
  rw [← unhide HW3]
  go_at_call 80
  refine (unhide H80).mono ?_
  rintro e w4 hpost
  obtain ⟨f4, x', hx', a4, c4, rfl, r4⟩ := hpost.out
  obtain rfl : x = x' := (unhide HX).one hx'
  rw [← unhide HTT] at r4
  have hb4 : Below W3.heap.size W3 w4 := f4.below (fun k hk => hk.elim) (Nat.le_refl _)
  have z4 : W3.heap.size ≤ w4.heap.size := hb4.size
  have x4 := keepblk hb4 (keepblk (unhide C3) (unhide X3))
  have y43 := keepblk hb4 (keepblk (unhide C3) (unhide Y33))
  have y45 := keepblk hb4 (unhide Y35)
  obtain ⟨W4, hW4⟩ : ∃ W4, W4 = w4.alloc (.cells #[.int .i64 F.fin, .int .i64 (F.reg 0), .int .i64 (F.reg 1), .int .i64 (F.reg 2), .int .i64 (F.reg 3), .int .i64 F.clock, .int .i64 F.heard] 37) := ⟨_, rfl⟩
  have c4b : Below w4.heap.size w4 W4 := by subst hW4; exact (Below.refl _ _).alloc (Nat.le_refl _) _
  have s4 : W4.heap.size = w4.heap.size + 1 := by subst hW4; simp
  have y46 : W4.heap[w4.heap.size]? = some (.cells #[.int .i64 F.fin, .int .i64 (F.reg 0), .int .i64 (F.reg 1), .int .i64 (F.reg 2), .int .i64 (F.reg 3), .int .i64 F.clock, .int .i64 F.heard] 37) := by subst hW4; exact heap_alloc_new _ _
  have d4 : Below W3.heap.size W3 W4 := hb4.trans (c4b.mono z4)
  have d14 : Below w1.heap.size w1 W4 := (unhide C1).trans (((unhide D3).mono (by omega)).trans (d4.mono (by omega)))
  have d04 : Below W0.heap.size W0 W4 := (unhide D1).trans (((unhide D3).mono (by omega)).trans (d4.mono (by omega)))
  have h04 : Below w0.heap.size w0 W4 := (unhide H00).trans (d04.mono (by omega))
  have h40 := stillW_any W0.heap.size w1.heap.size p1 p2 p3 g1 g2 g3 p.sn p.tn p.fn p.sf p.tl p.fl G2 G3 p.tf p.ff W4 (opsIn_below h04 (unhide I1)) (handsIn_below h04 (unhide I2)) (handsIn_below h04 (unhide I3))
    ((unhide O1).below d14 l1) ((unhide O2).below d14 l2 (fun i hi => ((unhide O2).far i hi).2)) ((unhide O3).below d14 l3 (fun i hi => ((unhide O3).far i hi).2)) m1 m12 m23 (unhide MG) (fun i hi => ((unhide O3).far i hi).2)
  have H40 := hide h40
  have X4 := hide x4
  have Y45 := hide y45
  have Y46 := hide y46
  have C4 := hide c4b
  have D4 := hide d4
  have D04 := hide d04
  have R4 := hide r4
  have HW4 := hide hW4
  have k4 := fun j => cell_of_row w4 w.heap.size j _ 33 (0, 0) x4
  have j4 := fun j => cell_of_row w4 w1.heap.size j _ 33 (0, 0) y43
  have hlt4 : w.heap.size < w4.heap.size := by omega
  have hlt4' : w1.heap.size < w4.heap.size := by omega
  rw [← unhide HTT, ← unhide HFF, ← unhide HXX]
  simp only [finV]
  clear h40 x4 y43 y45 y46 c4b d4 d14 d04 h04 r4 hW4 hb4 f4 hpost hx' H80 HW3 k3 hlt3 HTT HFF HXX HX
  go_wp2_with fail
  rw [← unhide HW4]
  go_at_call 40
  refine (unhide H40).mono ?_
  rintro e w5 ⟨rfl, hb5, far5⟩
  have z5 : W4.heap.size ≤ w5.heap.size := hb5.size
  have y55 := (far5 w3.heap.size (by omega) (by omega)).trans (keepblk (unhide C4) (unhide Y45))
  have y56 := (far5 w4.heap.size (by omega) (by omega)).trans (unhide Y46)
  have d05 : Below W0.heap.size W0 w5 := (unhide D04).trans hb5
  have blk3 : ∀ q, W1.heap.size ≤ q → q < w3.heap.size → w5.heap[q]? = w3.heap[q]? := fun q h1 h2 =>
    (far5 q (by omega) (by omega)).trans (((unhide D4).block q (by omega)).trans ((unhide C3).block q h2))
  have blk4 : ∀ q, W3.heap.size ≤ q → q < w4.heap.size → w5.heap[q]? = w4.heap[q]? := fun q h1 h2 =>
    (far5 q (by omega) (by omega)).trans ((unhide C4).block q h2)
  have r36 := ownsRow_of_block (unhide R3) (fun q hq => blk3 q (World.ownsRow.lt (unhide R3) q hq).1 (World.ownsRow.lt (unhide R3) q hq).2)
  have r46 := ownsRow_of_block (unhide R4) (fun q hq => blk4 q (World.ownsRow.lt (unhide R4) q hq).1 (World.ownsRow.lt (unhide R4) q hq).2)
  have tle := unhide TLE
  have hcn := unhide HCNT
  have h74 := sameEventsL_any T.length _ _ (fun i => T.getD i (0, 0, 0)) w5 (row_ops' r36 (by omega)) (row_ops' r46 (by omega))
  have H74 := hide h74
  have R36 := hide r36
  have Y55 := hide y55
  have Y56 := hide y56
  have D05 := hide d05
  clear h74 r36 r46 tle hcn blk3 blk4 y55 y56 d05 hb5 far5 H40 HW4 k4 j4 hlt4 hlt4'
  go_wp2_with fail
  go_at_call 74
  refine (unhide H74).mono ?_
  rintro e w7 ⟨rfl, hd7⟩
  have hb67 : Below w5.heap.size w5 w7 := hd7.below _
  have hz7 : w7.heap.size = w5.heap.size := by obtain ⟨m, rfl⟩ := hd7; simp
  have d07 : Below W0.heap.size W0 w7 := (unhide D05).trans (hb67.mono (by omega))
  have hw7 : Below w.heap.size w w7 := (unhide G0).trans (d07.mono (by omega))
  have r37 := ownsRow_of_block (unhide R36) (fun q hq => hb67.block q (World.ownsRow.lt (unhide R36) q hq).2)
  have r3q : ∀ q, own (.slice a3 T.length c3) q → W1.heap.size ≤ q ∧ q < w3.heap.size := fun q hq => World.ownsRow.lt (unhide R3) q hq
  have y75 := keepblk hb67 (unhide Y55)
  have y76 := keepblk hb67 (unhide Y56)
  have tle := unhide TLE
  have hcn := unhide HCNT
  have h75 := keepEvents_any ((unhide HH).fr (Fr.of_below hw7)) (Nat.le_trans hsw hw7.size) (rowLow r37 (by omega)) (fun q hq hk => by
    have h1 := (r3q q hq).1
    have h2 := ((unhide HH).apart q hk).1
    omega) (by omega) (unhide HL)
  have H75 := hide h75
  have Y75 := hide y75
  have Y76 := hide y76
  have HW7 := hide hw7
  have R3Q := hide r3q
  clear h75 y75 y76 hw7 r3q r37 d07 hb67 hd7 tle hcn H74
  go_wp2_with fail
  go_at_call 75
  refine (unhide H75).mono ?_
  rintro e w8 ⟨rfl, hk8⟩
  have nin : ∀ q, w3.heap.size ≤ q → q < w7.heap.size → ¬ (q = bb ∨ own vE q ∨ own (.slice a3 T.length c3) q ∨ w7.heap.size ≤ q) := fun q h1 h2 hq => by
    rcases hq with h | h | h | h
    · omega
    · have := (unhide HE q h).2; omega
    · have := (unhide R3Q q h).2; omega
    · omega
  have hev := hk8.ev ((unhide HW7).mono hsw) (unhide HBB) (fun q hq => (unhide HE q hq).1) (fun q hq => by have := (unhide R3Q q hq).1; omega) (by have := (unhide HW7).size; omega)
  obtain ⟨_, _, _, _, _, _, fr8⟩ := hk8
  have y85 := (fr8.same w3.heap.size (by omega) (nin _ (by omega) (by omega))).trans (unhide Y75)
  have y86 := (fr8.same w4.heap.size (by omega) (nin _ (by omega) (by omega))).trans (unhide Y76)
  have k8 := fun j => cell_of_row w8 w3.heap.size j _ 37 (0, 0) y85
  have j8 := fun j => cell_of_row w8 w4.heap.size j _ 37 (0, 0) y86
  have HEV := hide hev
  clear hev y85 y86 nin fr8 H75
  go_wp2
  go_ret
  exact ⟨by simp, unhide HEV⟩
end Go.Proofs.YtfmbebofllgmoaaGreatDoor
namespace Go.Proofs.YtfmbebofllgmoaaGreatDoor
open Go.RowKit
attribute [local go_sem ↓] Go.wp_at_zero Go.wp_at_succ

/-- The log of a Record is one that Replay may take. -/
theorem LogOf.fits {p : Pg} {f : Int} {lc lp ll : List Int} {ls : List (List Int)} {sg : ByteArray} (h : LogOf p f lc ls lp ll sg) (hn : lc.length + ls.length + lp.length + ll.length ≤ 1048576) : sg.size ≤ 1000000000 ∧ (readL (bs sg)).1.length ≤ 2000000 := by
  by_cases ok : PgOk p
  · obtain ⟨b, hb, rfl⟩ := h.1 ok
    have hl : b.length = ls.length := by rw [← hb, List.length_map]
    obtain ⟨xs, hrd, _, _, hcnt, hsz, _⟩ := cut_facts ok f lc b lp ll (by omega) _ rfl
    refine ⟨hsz, ?_⟩
    rw [hrd]
    show (alls xs _).length ≤ 2000000
    unfold alls
    simp only [List.length_append, List.length_cons, List.length_nil]
    omega
  · have e := h.2 ok
    subst e
    have := readL_half (bs ⟨#[]⟩)
    exact ⟨by decide, by simp [bs] at this ⊢; omega⟩

set_option maxHeartbeats 1000000 in
theorem plays_replay {w w0 : World} {bb : Nat} {n0 : Int} {vI vE vN : Value} {LI LE LN : List Ent} {K : Nat → Prop} (h : BookK w w0.heap.size bb n0 vI vE vN LI LE LN K) (hbb : w0.heap.size ≤ bb) (hbw : Below w0.heap.size w0 w) (ht : TabIn w0)
    {p1 p2 p3 : Value} {p : Pg} (hpg : PgAt w0 (pvOf p1 p2 p3 undef) p) (q0 q1 q2 q3 : Value) (lg : ByteArray) (hlg : lg.size ≤ 1048576) (f : Int) (hL : LE.length ≤ 900000000000) :
    Calls Tryz.prog 23 #[.pointer (some ⟨bb, 0, none⟩), .agg #[.int .i64 4, p1, p2, p3, q0, q1, q2, q3, .string lg, .int .i64 f]] w fun e w' => e = .returned (.bool true) ∧ EvKept w w' w0.heap.size bb vI vN LI LE LN := by
  have hhalf := readL_half (bs lg)
  rw [bs_len] at hhalf
  obtain ⟨W0, hW⟩ : ∃ W0, W0 = w.alloc (.cells #[.int .i64 4, p1, p2, p3, q0, q1, q2, q3, .string lg, .int .i64 f] 67) := ⟨_, rfl⟩
  have f0 : Fr (fun _ => False) w W0 (fun _ => False) := by subst hW; exact (Fr.refl _ _).alloc _
  have b0 : Below w0.heap.size w W0 := f0.below (fun k hk => hk.elim) hbw.size
  have H46 := hide (replayL_any (h.fr f0) hbb (hbw.trans b0) ht hpg lg (by omega) (by omega) f hL)
  have B0 := hide b0
  have HW := hide hW
  clear h hbw ht hpg b0 hW f0 hhalf
  go_enter Tryz.func23, Tryz.ntmps23
  go_wp2_with fail
  rw [← unhide HW]
  go_at_call 46
  refine (unhide H46).mono ?_
  rintro e w1 ⟨rfl, hev⟩
  have HEV := hide (hev.below (unhide B0))
  clear hev H46 HW
  go_wp2
  go_ret
  exact ⟨by simp, unhide HEV⟩

/-- The Book has two lists of events more. -/
def EvKept2 (w w' : World) (B bb : Nat) (vI vN : Value) (LI LE LN : List Ent) : Prop :=
  ∃ n' vE' LE' K', BookK w' B bb n' vI vE' vN LI LE' LN K' ∧ LE'.length = LE.length + 2 ∧ Below B w w'
set_option maxHeartbeats 1000000 in
theorem plays_again {w w0 : World} {bb : Nat} {n0 : Int} {vI vE vN : Value} {LI LE LN : List Ent} {K : Nat → Prop} (h : BookK w w0.heap.size bb n0 vI vE vN LI LE LN K) (hbb : w0.heap.size ≤ bb) (hbw : Below w0.heap.size w0 w) (ht : TabIn w0)
    {p1 p2 p3 : Value} {p : Pg} (hpg : PgAt w0 (pvOf p1 p2 p3 undef) p) {q0 q1 q2 q3 : Value} {lc lp ll : List Int} {bs : List (Value × List Int)} (hwo : WorldC w0 q0 q1 q2 q3 lc bs lp ll) (hn : lc.length + bs.length + lp.length + ll.length ≤ 1048576) (lg : Value) (f : Int) (hL : LE.length ≤ 800000000000) :
    Calls Tryz.prog 23 #[.pointer (some ⟨bb, 0, none⟩), .agg #[.int .i64 5, p1, p2, p3, q0, q1, q2, q3, lg, .int .i64 f]] w fun e w' => e = .returned (.bool true) ∧ EvKept2 w w' w0.heap.size bb vI vN LI LE LN := by
  obtain ⟨W0, hW⟩ : ∃ W0, W0 = w.alloc (.cells #[.int .i64 5, p1, p2, p3, q0, q1, q2, q3, lg, .int .i64 f] 67) := ⟨_, rfl⟩
  have f0 : Fr (fun _ => False) w W0 (fun _ => False) := by subst hW; exact (Fr.refl _ _).alloc _
  have b0 : Below w0.heap.size w W0 := f0.below (fun k hk => hk.elim) hbw.size
  have x0 : W0.heap[w.heap.size]? = some (.cells #[.int .i64 5, p1, p2, p3, q0, q1, q2, q3, lg, .int .i64 f] 67) := by subst hW; exact heap_alloc_new _ _
  have hrec := recordF_any (h.fr f0) hbb (hbw.trans b0) ht hpg hwo (.int .i64 5) lg f (by omega)
  have hk : Below w0.heap.size w0 W0 := hbw.trans b0
  have HBW := hide hk
  have H42 := hide hrec
  have HT := hide ht
  have HPG := hide hpg
  have B0 := hide b0
  have X0 := hide x0
  have HW := hide hW
  have hl0 := (Array.getElem?_eq_some_iff.1 x0).1
  have hbw1 : bb < w.heap.size := (Array.getElem?_eq_some_iff.1 h.bk.blk).1
  have hve : ¬ own vE w.heap.size := fun e => by have := (World.ownsRow.lt h.bk.rE _ e).2; omega
  have HVE := hide hve
  clear hve
  have hbb' : bb < W0.heap.size := (Array.getElem?_eq_some_iff.1 (h.fr f0).bk.blk).1
  clear h hbw ht hpg b0 hW hwo hrec hk x0
  go_enter Tryz.func23, Tryz.ntmps23
  go_wp2_with fail
  rw [← unhide HW]
  go_at_call 42
  refine (unhide H42).mono ?_
  rintro e w1 ⟨sg, rfl, hlog, ⟨n', vE', LE', K', hbk, hle, hbl⟩, hfar⟩
  obtain ⟨hs1, hs2⟩ := hlog.fits (by rw [List.length_map]; omega)
  have x1 := (hfar w.heap.size hl0 (by omega) (unhide HVE)).trans (unhide X0)
  have H46 := hide (replayL_any hbk hbb ((unhide HBW).trans hbl) (unhide HT) (unhide HPG) sg hs1 hs2 f (by omega))
  have hb1 : Below w0.heap.size w w1 := (unhide B0).trans hbl
  have k1 := fun j => cell_of_row w1 w.heap.size j _ 67 (0, 0) x1
  have HB1 := hide hb1
  clear hlog hbk hbl hfar hs1 hs2 x1 hb1 H42 HW HBW HT HPG B0 X0
  go_wp2_with fail
  go_at_call 46
  refine (unhide H46).mono ?_
  rintro e w2 ⟨rfl, n2, vE2, LE2, K2, hbk2, hle2, hbl2⟩
  have HEV : Hid (EvKept2 w w2 w0.heap.size bb vI vN LI LE LN) := ⟨n2, vE2, LE2, K2, hbk2, by omega, (unhide HB1).trans hbl2⟩
  clear hbk2 hbl2 H46 HB1
  go_wp2
  go_ret
  exact ⟨by simp, unhide HEV⟩
end Go.Proofs.YtfmbebofllgmoaaGreatDoor
