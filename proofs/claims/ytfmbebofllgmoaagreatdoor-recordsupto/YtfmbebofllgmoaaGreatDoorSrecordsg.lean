/-
  PROVED HERE: the document's Record. lists of one unit over and over: what an append to an own one leaves. writing units over an own list. keepEvents writes its marks and keeps the Book. what the law's record knows of its world, and of two Records' answers. one step of kind KCheck of a script is as the document says. the law's record: what the program's Record answers is what the document's does, and the Book is kept. one step of kind KRecord of a script is as the document says. what a script, its programs and their handlers look like in memory, out of the form's own reading and reach. what raw handlers and a raw world look like in memory, out of the form's own reading and bulk. what a script looks like in memory, its worlds with it, all within its bulk. all steps of a script whose kinds are from lo to hi are as the document says, if each is.
-/
import Derived.Test.YtfmbebofllgmoaaGreatDoorProg
import Derived.WalkKit
import Derived.WalkSpells
import Derived.WalkLawsBesides
import Derived.Deep.QuietTactic
import Derived.BigQuiet
import Derived.Deep.RegionHeld3
import Derived.Deep.AppendLies
import Derived.Laws.EntriesVeiled
import Derived.Deep.DrawnRows
import Derived.BigRegion
import Derived.Deep.LoopGhost
import Derived.Deep.MidRow
import Derived.Shelf.SlSortCmp.SmallK
import Derived.Shelf.SlicesG.Cmp
import Derived.Shelf.Small.Bits
import Derived.Deep.RegionLaw
import Derived.Lib.SliceRun
import Derived.Laws.StructEq
import Derived.Laws.BytesString
import Derived.ArgAppend
import Derived.Deep.DeepCutAuto
import Derived.Conc.LoneCalls
import Derived.Calls
import Derived.Tactics
import Derived.KernelRfl
import Derived.Laws.Rows
import Derived.Lib.SlBytesConst
import Derived.Laws.BitsAllLaws
import Derived.RangeFuncOwn
import Derived.Laws.IdiomStrings
import Derived.RangeFuncNested
import Derived.RangeFuncBound
import Derived.RangeFuncCalls
import Derived.RangeFuncLeaves
import Derived.Shelf.RegionOpen
import Derived.OwnWalkIn
import Derived.TacticsInMore
import Derived.Maps.OwnIn
import Derived.Maps.AppendAt
import Derived.LoopNIn
import Derived.LoopIn
import Derived.ChangeKeysEq
import Derived.Deep.DeepAppendRoom
import Derived.Deep.Upon
import Derived.ProofKit
import Derived.OpenShut
import Derived.SizedLaws
import Derived.Deep.Slices
import Derived.Deep.Strs
import Derived.Lib.SmallJoins
import Derived.Test.YtfmbebofllgmoaaGreatDoorRows
import Derived.Deep.DeepHandedRow
import Derived.Lib.LaidTab
import Derived.Test.YtfmbebofllgmoaaGreatDoorSrecordsf
namespace Go.Proofs.YtfmbebofllgmoaaGreatDoor
open Go.RowKit
attribute [local go_sem ↓] Go.wp_at_zero Go.wp_at_succ

set_option maxHeartbeats 4000000 in
set_option maxRecDepth 20000 in
theorem refRecord_any {w : World} {p1 p2 p3 : Value} {p : Pg} (hv : PgAt w (pvOf p1 p2 p3 undef) p) (f : Int) {v0 v1 v2 v3 : Value} {lc lp ll : List Int} {bs : List (Value × List Int)}
    (h0 : IntsC w v0 lc (fun q => q < w.heap.size)) (h1 : BatsC w v1 (bs.map (·.2)) (fun q => q < w.heap.size)) (h2 : IntsC w v2 lp (fun q => q < w.heap.size)) (h3 : IntsC w v3 ll (fun q => q < w.heap.size)) (hbs : ∀ b, b ∈ bs → b.2.length ≤ 100000000)
    (n0 : lc.length ≤ 4000000) (n1 : bs.length ≤ 4000000) (n2 : lp.length ≤ 4000000) (n3 : ll.length ≤ 4000000) :
    Calls Tryz.prog 72 #[.agg #[p1, p2, p3], .agg #[v0, v1, v2, v3], .int .i64 f] w (RecPost w p f lc bs lp ll) := by
  obtain ⟨a0, k0, e0, _⟩ := id h0
  obtain ⟨bv, hb1, hbvl, _⟩ := id h1
  obtain ⟨a1, k1, e1, _⟩ := hb1
  rw [hbvl, List.length_map] at e1
  clear hbvl
  obtain ⟨a2, k2, e2, _⟩ := id h2
  obtain ⟨a3, k3, e3, _⟩ := id h3
  obtain ⟨sa, sc, es, _⟩ := hv.s
  obtain ⟨ta, tc, et, _⟩ := hv.t
  obtain ⟨fa, fc, ef, _⟩ := hv.f
  change p1 = _ at es
  change p2 = _ at et
  change p3 = _ at ef
  have hB3 : Below w.heap.size w (((w.alloc (.cells #[p1, p2, p3] 33)).alloc (.cells #[v0, v1, v2, v3] 29)).alloc (.cells #[.int .i64 0, .int .i64 0, .int .i64 0, .int .i64 0, .int .i64 0, .int .i64 0, .int .i64 0] 37)) := bl3 _ _ _
  have hck := rcheck_any p1 p2 p3 p.sn p.tn p.fn p.sf p.tl p.fl p.tf p.ff _ (opsIn_below hB3 hv.s) (handsIn_below hB3 hv.t) (handsIn_below hB3 hv.f)
  have HCK := hide hck
  have HV := hide hv
  have H0 := hide h0
  have H1 := hide h1
  have H2 := hide h2
  have H3 := hide h3
  have HBS := hide hbs
  have HB3 := hide hB3
  clear hck hv h0 h1 h2 h3 hbs hB3
  rw [List.length_map] at e0 e2 e3
  subst e0 e1 e2 e3 es et ef
  go_enter Tryz.func72, Tryz.ntmps72
  go_wp2_with fail
  go_at_call 41
  refine (unhide HCK).mono ?_
  rintro e w1 ⟨x, rfl, hans, hb1⟩
  have z0 : (w.alloc (.cells #[.slice sa p.sn sc, .slice ta p.tn tc, .slice fa p.fn fc] 33)).heap.size = w.heap.size + 1 := by simp
  have z1 : ((w.alloc (.cells #[.slice sa p.sn sc, .slice ta p.tn tc, .slice fa p.fn fc] 33)).alloc (.cells #[.slice a0 lc.length k0, .slice a1 bs.length k1, .slice a2 lp.length k2, .slice a3 ll.length k3] 29)).heap.size = w.heap.size + 1 + 1 := by simp
  have z2 : (((w.alloc (.cells #[.slice sa p.sn sc, .slice ta p.tn tc, .slice fa p.fn fc] 33)).alloc (.cells #[.slice a0 lc.length k0, .slice a1 bs.length k1, .slice a2 lp.length k2, .slice a3 ll.length k3] 29)).alloc (.cells #[.int .i64 0, .int .i64 0, .int .i64 0, .int .i64 0, .int .i64 0, .int .i64 0, .int .i64 0] 37)).heap.size = w.heap.size + 1 + 1 + 1 := by simp
  have b3 : w1.heap[w.heap.size]? = some (.cells #[.slice sa p.sn sc, .slice ta p.tn tc, .slice fa p.fn fc] 33) := (hb1.block _ (by rw [z2]; omega)).trans ((Below.heap_alloc _ _ _ (by rw [z1]; omega)).trans ((Below.heap_alloc _ _ _ (by rw [z0]; omega)).trans (heap_alloc_new _ _)))
  have b4 : w1.heap[w.heap.size + 1]? = some (.cells #[.slice a0 lc.length k0, .slice a1 bs.length k1, .slice a2 lp.length k2, .slice a3 ll.length k3] 29) := (hb1.block _ (by rw [z2]; omega)).trans ((Below.heap_alloc _ _ _ (by rw [z1]; omega)).trans (by have h := heap_alloc_new (w.alloc (.cells #[.slice sa p.sn sc, .slice ta p.tn tc, .slice fa p.fn fc] 33)) (.cells #[.slice a0 lc.length k0, .slice a1 bs.length k1, .slice a2 lp.length k2, .slice a3 ll.length k3] 29); rwa [z0] at h))
  have b8 : w1.heap[w.heap.size + 1 + 1]? = some (.cells #[.int .i64 0, .int .i64 0, .int .i64 0, .int .i64 0, .int .i64 0, .int .i64 0, .int .i64 0] 37) := (hb1.block _ (by rw [z2]; omega)).trans (by have h := heap_alloc_new ((w.alloc (.cells #[.slice sa p.sn sc, .slice ta p.tn tc, .slice fa p.fn fc] 33)).alloc (.cells #[.slice a0 lc.length k0, .slice a1 bs.length k1, .slice a2 lp.length k2, .slice a3 ll.length k3] 29)) (.cells #[.int .i64 0, .int .i64 0, .int .i64 0, .int .i64 0, .int .i64 0, .int .i64 0, .int .i64 0] 37); rwa [z1] at h)
  have hw1 : Below w.heap.size w w1 := (unhide HB3).trans (hb1.mono (by rw [z2]; omega))
  have c3 := fun j => cell_of_row w1 _ j _ 33 (0, 0) b3
  have c4 := fun j => cell_of_row w1 _ j _ 29 (0, 0) b4
  have c8 := fun j => cell_of_row w1 _ j _ 37 (0, 0) b8
  have t8 := fun j => frozen_rowE b8 j
  have l8 := (Array.getElem?_eq_some_iff.1 b8).1
  have B3 := hide b3
  have B4 := hide b4
  have B8 := hide b8
  have HW1 := hide hw1
  have HANS := hide hans
  clear z0 z1 z2 b3 b4 b8 hw1 hans hb1 HCK HB3
  by_cases hx : x = 0
  · subst hx
    have ok := pgok_of_ans (unhide HANS)
    have fW : Fr (fun _ => False) w1 (w1.alloc (.cells (cells28 (.slice sa p.sn sc) (.slice ta p.tn tc) (.slice fa p.fn fc) (.slice a0 lc.length k0) (.slice a1 bs.length k1) (.slice a2 lp.length k2) (.slice a3 ll.length k3) (.bool false) (.slice none 0 0) (.slice none 0 0) (min (max f 0) 5000)) 180)).drew (fun _ => False) := ((Fr.refl _ _).alloc _).drew
    have bW : Below w.heap.size w (w1.alloc (.cells (cells28 (.slice sa p.sn sc) (.slice ta p.tn tc) (.slice fa p.fn fc) (.slice a0 lc.length k0) (.slice a1 bs.length k1) (.slice a2 lp.length k2) (.slice a3 ll.length k3) (.bool false) (.slice none 0 0) (.slice none 0 0) (min (max f 0) 5000)) 180)).drew := (unhide HW1).trans (fW.below (fun k h => h.elim) (unhide HW1).size)
    have hl0 := loop_start (SQ := SQR w.heap.size) (B := w.heap.size) (fu := min (max f 0) 5000) (x := (⟨lc, bs, lp, ll, headS⟩ : RS)) (unhide HW1).size rfl (sqr_start bW (unhide H0) (unhide H1) (unhide H2) (unhide H3) (unhide HBS) n0 n1 n2 n3)
    have pgq : PgAt w (pv10 (.slice sa p.sn sc) (.slice ta p.tn tc) (.slice fa p.fn fc) (.slice a0 lc.length k0) (.slice a1 bs.length k1) (.slice a2 lp.length k2) (.slice a3 ll.length k3) (.bool false) (.slice none 0 0) (.slice none 0 0)) p := ⟨(unhide HV).s, (unhide HV).t, (unhide HV).f⟩
    have hrun := runQ_any (SQR.law w.heap.size) (recQ_hear w.heap.size) mayR_ok recAsk_ok (w0 := w) rfl bW pgq ok f hl0 rfl (by show lc.length ≤ 5000000; omega)
    have HRUN := hide hrun
    have HOK := hide ok
    have FW := hide fW
    have D3 := hide (show (w1.alloc (.cells (cells28 (.slice sa p.sn sc) (.slice ta p.tn tc) (.slice fa p.fn fc) (.slice a0 lc.length k0) (.slice a1 bs.length k1) (.slice a2 lp.length k2) (.slice a3 ll.length k3) (.bool false) (.slice none 0 0) (.slice none 0 0) (min (max f 0) 5000)) 180)).drew.heap[w.heap.size]? = some _ from (Below.heap_alloc w1 _ _ (Array.getElem?_eq_some_iff.1 (unhide B3)).1).trans (unhide B3))
    have D4 := hide (show (w1.alloc (.cells (cells28 (.slice sa p.sn sc) (.slice ta p.tn tc) (.slice fa p.fn fc) (.slice a0 lc.length k0) (.slice a1 bs.length k1) (.slice a2 lp.length k2) (.slice a3 ll.length k3) (.bool false) (.slice none 0 0) (.slice none 0 0) (min (max f 0) 5000)) 180)).drew.heap[w.heap.size + 1]? = some _ from (Below.heap_alloc w1 _ _ (Array.getElem?_eq_some_iff.1 (unhide B4)).1).trans (unhide B4))
    have D8 := hide (show (w1.alloc (.cells (cells28 (.slice sa p.sn sc) (.slice ta p.tn tc) (.slice fa p.fn fc) (.slice a0 lc.length k0) (.slice a1 bs.length k1) (.slice a2 lp.length k2) (.slice a3 ll.length k3) (.bool false) (.slice none 0 0) (.slice none 0 0) (min (max f 0) 5000)) 180)).drew.heap[w.heap.size + 1 + 1]? = some _ from (Below.heap_alloc w1 _ _ l8).trans (unhide B8))
    clear ok fW bW hl0 hrun pgq
    go_wp2
    refine wp_region_held_drew (S := fun w' => w'.heap[w.heap.size]? = some (.cells #[.slice sa p.sn sc, .slice ta p.tn tc, .slice fa p.fn fc] 33) ∧ w'.heap[w.heap.size + 1]? = some (.cells #[.slice a0 lc.length k0, .slice a1 bs.length k1, .slice a2 lp.length k2, .slice a3 ll.length k3] 29)) (by kernel_rfl) ?_ (fun hHeld => ?_)
    · exact ⟨unhide B3, unhide B4⟩
    refine wpAnyH_take (i := 0) (oi := { dst := some 18, op := Op.load 33 (Operand.tmp 3), type := 33, pos := "run.go:348", after := #[], guard := none }) (v := ?_) rfl (by kernel_rfl) (by kernel_rfl) (by kernel_rfl) (fun _ _ _ h => h) (Or.inl ⟨by rfl, ?_⟩) (by assumption) ?_
    rotate_left
    · intro w' hSw; obtain ⟨hS1, hS2⟩ := hSw; have q3 := fun j => cell_of_row w' _ j _ 33 (0, 0) hS1; have q4 := fun j => cell_of_row w' _ j _ 29 (0, 0) hS2; go_simp; try with_reducible rfl
    simp only [Act.put, List.setIfInBounds_toArray, List.set_cons_zero, List.set_cons_succ]
    refine wpAnyH_take (i := 1) (oi := { dst := some 19, op := Op.load 29 (Operand.tmp 4), type := 29, pos := "run.go:348", after := #[], guard := none }) (v := ?_) rfl (by kernel_rfl) (by kernel_rfl) (by kernel_rfl) (fun _ _ _ h => h) (Or.inl ⟨by rfl, ?_⟩) (by assumption) ?_
    rotate_left
    · intro w' hSw; obtain ⟨hS1, hS2⟩ := hSw; have q3 := fun j => cell_of_row w' _ j _ 33 (0, 0) hS1; have q4 := fun j => cell_of_row w' _ j _ 29 (0, 0) hS2; go_simp; try with_reducible rfl
    simp only [Act.put, List.setIfInBounds_toArray, List.set_cons_zero, List.set_cons_succ]
    refine wpAnyH_take (i := 2) (oi := { dst := some 20, op := Op.move (Operand.tmp 2), type := 3, pos := "run.go:348", after := #[], guard := none }) (v := ?_) rfl (by kernel_rfl) (by kernel_rfl) (by kernel_rfl) (fun _ _ _ h => h) (Or.inl ⟨by rfl, ?_⟩) (by assumption) ?_
    rotate_left
    · intro w' hSw; obtain ⟨hS1, hS2⟩ := hSw; have q3 := fun j => cell_of_row w' _ j _ 33 (0, 0) hS1; have q4 := fun j => cell_of_row w' _ j _ 29 (0, 0) hS2; go_simp; try with_reducible rfl
    simp only [Act.put, List.setIfInBounds_toArray, List.set_cons_zero, List.set_cons_succ]
    refine wpAnyH_ready (rs := [3]) (by kernel_rfl) (by simp) ?_
    refine AllReadyH.cons (o := { dst := some 21, op := Op.call { callee := Callee.value (Operand.func 106), args := #[Operand.tmp 20], argTypes := #[3] }, type := 3, pos := "run.go:348", after := #[{ on := 2, ground := Ground.data }], guard := none }) rfl (fun K' hK' => ?_) AllReadyH.nil
    go_simp
    go_at_call 106
    refine (fuelledQ_any f _).mono ?_
    rintro e w2 ⟨rfl, hw2⟩
    rw [hw2]
    clear hw2 w2
    refine hK'.out _ _ ?_ (fun hHeld => ?_)
    · exact ⟨unhide B3, unhide B4⟩
    clear hK' K'
    try simp only [Act.put, List.setIfInBounds_toArray, List.set_cons_zero, List.set_cons_succ]
    try simp only [List.setIfInBounds_toArray, List.set_cons_zero, List.set_cons_succ]
    refine wpAnyH_take (i := 4) (oi := { dst := some 22, op := Op.build 180 #[(0, Operand.tmp 18), (1, Operand.tmp 19), (10, Operand.tmp 21)], type := 180, pos := "run.go:348", after := #[{ on := 0, ground := Ground.data }, { on := 1, ground := Ground.data }, { on := 3, ground := Ground.data }], guard := none }) (v := ?_) rfl (by kernel_rfl) (by kernel_rfl) (by kernel_rfl) (fun _ _ _ h => h) (Or.inl ⟨by rfl, ?_⟩) (by assumption) ?_
    rotate_left
    · intro w' hSw; obtain ⟨hS1, hS2⟩ := hSw; have q3 := fun j => cell_of_row w' _ j _ 33 (0, 0) hS1; have q4 := fun j => cell_of_row w' _ j _ 29 (0, 0) hS2; go_simp; try with_reducible rfl
    simp only [Act.put, List.setIfInBounds_toArray, List.set_cons_zero, List.set_cons_succ]
    refine wpAnyH_ready (rs := [5]) (by kernel_rfl) (by simp) ?_
    refine AllReadyH.cons (o := { dst := some 23, op := Op.box 180 (Operand.tmp 22), type := 177, pos := "run.go:348", after := #[{ on := 4, ground := Ground.data }], guard := none }) rfl (fun K' hK' => ?_) AllReadyH.nil
    go_simp
    refine hK'.out _ _ ?_ (fun hHeld => ?_)
    · exact ⟨unhide D3, unhide D4⟩
    clear hK' K'
    try simp only [Act.put, List.setIfInBounds_toArray, List.set_cons_zero, List.set_cons_succ]
    refine wpAnyH_take (i := 6) (oi := { dst := some 11, op := Op.assign (Operand.tmp 23), type := 177, pos := "run.go:348", after := #[{ on := 5, ground := Ground.data }, { on := 3, ground := Ground.chain }, { on := 0, ground := Ground.phase }, { on := 1, ground := Ground.phase }, { on := 2, ground := Ground.phase }, { on := 3, ground := Ground.phase }, { on := 4, ground := Ground.phase }, { on := 5, ground := Ground.phase }], guard := none }) (v := ?_) rfl (by kernel_rfl) (by kernel_rfl) (by kernel_rfl) (fun _ _ _ h => h) (Or.inl ⟨by rfl, ?_⟩) (by assumption) ?_
    rotate_left
    · intro w' hSw; obtain ⟨hS1, hS2⟩ := hSw; have q3 := fun j => cell_of_row w' _ j _ 33 (0, 0) hS1; have q4 := fun j => cell_of_row w' _ j _ 29 (0, 0) hS2; go_simp; try with_reducible rfl
    simp only [Act.put, List.setIfInBounds_toArray, List.set_cons_zero, List.set_cons_succ]
    refine wpAnyH_done (by kernel_rfl) ?_ _
    go_wp2_with fail
    go_at_call 107
    refine (unhide HRUN).mono ?_
    rintro e w3 ⟨rfl, tn, sq, S3, pv3, vt3, va3, T3, A3, l3, q3, f3⟩
    change LQ _ _ S3 w3 _ pv3 vt3 va3 T3 (recM p f lc bs lp ll).1 A3 tn sq (recM p f lc bs lp ll).2 at l3
    obtain ⟨xs, hrr, _, _⟩ := rec_run (unhide HOK) f lc bs lp ll (by omega)
    have hfin := hrr.fin
    obtain ⟨H, hrow, hown, hfl, hlog, hfits, hcnt⟩ := l3.src.hd
    obtain ⟨ha, hn, hcp, hp9, hnh⟩ := l3.hc
    have hHn : H.length = hn := by obtain ⟨u1, u2, u3⟩ := row_shape hrow; rw [hp9] at u3; injection u3 with _ u3; exact u3.symm
    subst hHn
    obtain ⟨ua, uc, hut⟩ := row_shape l3.row
    subst hut
    rw [hp9] at hrow hown hfl
    have hb3 := l3.blt
    have hTl : ∀ q, (T3 q ∧ ¬ own (.slice ha H.length hcp) q) → q < w3.heap.size := fun q hq => (l3.bound q (l3.inT q hq.1).1).2
    have hlogE : heardS H ++ frameS (bodyS 5 0 (recM p f lc bs lp ll).1.fin.toNat) = recLog (recM p f lc bs lp ll) := by unfold recLog; rw [hlog]
    have h108 := writeQ_any (w := w3.drew) (P := fun q => T3 q ∧ ¬ own (.slice ha H.length hcp) q) (by exact hrow) (by omega) hfits (by exact hTl) (by exact hfl) (recM p f lc bs lp ll).1.fin hfin.1 hfin.2
    rw [hlogE] at h108
    have h109 : ∀ W, Fr (fun _ => False) w3 W (fun _ => False) → _ := fun W hW => finalQ_any (l3.fr (SQR.law w.heap.size) hW)
    have g9 := (l3.cell 9 (by omega)).trans (by rw [limg_pv _ _ _ _ _ _ (by omega), hp9])
    have g27 := (l3.cell 27 (by omega)).trans (by rw [limg_fin])
    have g26 := (l3.cell 26 (by omega)).trans (by rw [limg_trace])
    have d8 : w3.heap[w.heap.size + 1 + 1]? = some (.cells #[.int .i64 0, .int .i64 0, .int .i64 0, .int .i64 0, .int .i64 0, .int .i64 0, .int .i64 0] 37) := (f3.same _ (Array.getElem?_eq_some_iff.1 (unhide D8)).1 (fun e => by have e' : w.heap.size + 1 + 1 = w1.heap.size := e; omega)).trans (unhide D8)
    have hP8 : ¬ S3 (w.heap.size + 1 + 1) := fun e => by have := f3.old _ (Array.getElem?_eq_some_iff.1 (unhide D8)).1 e; have e' : w.heap.size + 1 + 1 = w1.heap.size := this; omega
    have hrow3 := l3.row
    have hinV := l3.inV
    have F3 := hide f3
    have H108 := hide h108
    have H109 := hide h109
    have D83 := hide d8
    have HP8 := hide hP8
    have HROW3 := hide hrow3
    have HINV := hide hinV
    have HFW := hide ((Fr.of_below (unhide HW1)).trans (unhide FW))
    have hz1 := (unhide HW1).size
    clear l3 q3 f3 hrr hrow hown hfl hlog hfits hcnt hTl hlogE h108 h109 d8 hP8 hrow3 hinV hnh hp9 hfin HRUN
    generalize hr : recM p f lc bs lp ll = RM at *
    obtain ⟨s3, x3⟩ := RM
    dsimp only at g27 g26
    have HR := hide hr
    clear hr
    go_wp2
    refine wp_region_held_drew (S := fun w' => w'.heap[w1.heap.size]? = w3.heap[w1.heap.size]?) (by kernel_rfl) ?_ (fun hHeld => ?_)
    · exact rfl
    refine wpAnyH_take (i := 0) (oi := { dst := some 26, op := Op.move (Operand.tmp 11), type := 177, pos := "run.go:350", after := #[], guard := none }) (v := ?_) rfl (by kernel_rfl) (by kernel_rfl) (by kernel_rfl) (fun _ _ _ h => h) (Or.inl ⟨by rfl, ?_⟩) (by assumption) ?_
    rotate_left
    · intro w' hSw; have k9 := (World.cell?_of_block (w := w3) (a := ⟨w1.heap.size, 9, none⟩) hSw).trans g9; have k27 := (World.cell?_of_block (w := w3) (a := ⟨w1.heap.size, 27, none⟩) hSw).trans g27; have k26 := (World.cell?_of_block (w := w3) (a := ⟨w1.heap.size, 26, none⟩) hSw).trans g26; go_simp; try with_reducible rfl
    simp only [Act.put, List.setIfInBounds_toArray, List.set_cons_zero, List.set_cons_succ]
    refine wpAnyH_take (i := 1) (oi := { dst := some 27, op := Op.nilCheck (Operand.tmp 26), type := 0, pos := "run.go:350", after := #[{ on := 0, ground := Ground.data }], guard := none }) (v := ?_) rfl (by kernel_rfl) (by kernel_rfl) (by kernel_rfl) (fun _ _ _ h => h) (Or.inl ⟨by rfl, ?_⟩) (by assumption) ?_
    rotate_left
    · intro w' hSw; have k9 := (World.cell?_of_block (w := w3) (a := ⟨w1.heap.size, 9, none⟩) hSw).trans g9; have k27 := (World.cell?_of_block (w := w3) (a := ⟨w1.heap.size, 27, none⟩) hSw).trans g27; have k26 := (World.cell?_of_block (w := w3) (a := ⟨w1.heap.size, 26, none⟩) hSw).trans g26; go_simp; try with_reducible rfl
    simp only [Act.put, List.setIfInBounds_toArray, List.set_cons_zero, List.set_cons_succ]
    refine wpAnyH_take (i := 2) (oi := { dst := some 28, op := Op.fieldAddr 180 (Operand.tmp 27) 4, type := 0, pos := "run.go:350", after := #[{ on := 1, ground := Ground.data }], guard := none }) (v := ?_) rfl (by kernel_rfl) (by kernel_rfl) (by kernel_rfl) (fun _ _ _ h => h) (Or.inl ⟨by rfl, ?_⟩) (by assumption) ?_
    rotate_left
    · intro w' hSw; have k9 := (World.cell?_of_block (w := w3) (a := ⟨w1.heap.size, 9, none⟩) hSw).trans g9; have k27 := (World.cell?_of_block (w := w3) (a := ⟨w1.heap.size, 27, none⟩) hSw).trans g27; have k26 := (World.cell?_of_block (w := w3) (a := ⟨w1.heap.size, 26, none⟩) hSw).trans g26; go_simp; try with_reducible rfl
    simp only [Act.put, List.setIfInBounds_toArray, List.set_cons_zero, List.set_cons_succ]
    refine wpAnyH_take (i := 3) (oi := { dst := some 29, op := Op.load 44 (Operand.tmp 28), type := 44, pos := "run.go:350", after := #[{ on := 2, ground := Ground.data }], guard := none }) (v := ?_) rfl (by kernel_rfl) (by kernel_rfl) (by kernel_rfl) (fun _ _ _ h => h) (Or.inl ⟨by rfl, ?_⟩) (by assumption) ?_
    rotate_left
    · intro w' hSw; have k9 := (World.cell?_of_block (w := w3) (a := ⟨w1.heap.size, 9, none⟩) hSw).trans g9; have k27 := (World.cell?_of_block (w := w3) (a := ⟨w1.heap.size, 27, none⟩) hSw).trans g27; have k26 := (World.cell?_of_block (w := w3) (a := ⟨w1.heap.size, 26, none⟩) hSw).trans g26; go_simp; try with_reducible rfl
    simp only [Act.put, List.setIfInBounds_toArray, List.set_cons_zero, List.set_cons_succ]
    refine wpAnyH_take (i := 4) (oi := { dst := some 30, op := Op.move (Operand.tmp 11), type := 177, pos := "run.go:350", after := #[], guard := none }) (v := ?_) rfl (by kernel_rfl) (by kernel_rfl) (by kernel_rfl) (fun _ _ _ h => h) (Or.inl ⟨by rfl, ?_⟩) (by assumption) ?_
    rotate_left
    · intro w' hSw; have k9 := (World.cell?_of_block (w := w3) (a := ⟨w1.heap.size, 9, none⟩) hSw).trans g9; have k27 := (World.cell?_of_block (w := w3) (a := ⟨w1.heap.size, 27, none⟩) hSw).trans g27; have k26 := (World.cell?_of_block (w := w3) (a := ⟨w1.heap.size, 26, none⟩) hSw).trans g26; go_simp; try with_reducible rfl
    simp only [Act.put, List.setIfInBounds_toArray, List.set_cons_zero, List.set_cons_succ]
    refine wpAnyH_take (i := 5) (oi := { dst := some 31, op := Op.nilCheck (Operand.tmp 30), type := 0, pos := "run.go:350", after := #[{ on := 4, ground := Ground.data }], guard := none }) (v := ?_) rfl (by kernel_rfl) (by kernel_rfl) (by kernel_rfl) (fun _ _ _ h => h) (Or.inl ⟨by rfl, ?_⟩) (by assumption) ?_
    rotate_left
    · intro w' hSw; have k9 := (World.cell?_of_block (w := w3) (a := ⟨w1.heap.size, 9, none⟩) hSw).trans g9; have k27 := (World.cell?_of_block (w := w3) (a := ⟨w1.heap.size, 27, none⟩) hSw).trans g27; have k26 := (World.cell?_of_block (w := w3) (a := ⟨w1.heap.size, 26, none⟩) hSw).trans g26; go_simp; try with_reducible rfl
    simp only [Act.put, List.setIfInBounds_toArray, List.set_cons_zero, List.set_cons_succ]
    refine wpAnyH_take (i := 6) (oi := { dst := some 32, op := Op.fieldAddr 180 (Operand.tmp 31) 12, type := 0, pos := "run.go:350", after := #[{ on := 5, ground := Ground.data }], guard := none }) (v := ?_) rfl (by kernel_rfl) (by kernel_rfl) (by kernel_rfl) (fun _ _ _ h => h) (Or.inl ⟨by rfl, ?_⟩) (by assumption) ?_
    rotate_left
    · intro w' hSw; have k9 := (World.cell?_of_block (w := w3) (a := ⟨w1.heap.size, 9, none⟩) hSw).trans g9; have k27 := (World.cell?_of_block (w := w3) (a := ⟨w1.heap.size, 27, none⟩) hSw).trans g27; have k26 := (World.cell?_of_block (w := w3) (a := ⟨w1.heap.size, 26, none⟩) hSw).trans g26; go_simp; try with_reducible rfl
    simp only [Act.put, List.setIfInBounds_toArray, List.set_cons_zero, List.set_cons_succ]
    refine wpAnyH_take (i := 7) (oi := { dst := some 33, op := Op.load 3 (Operand.tmp 32), type := 3, pos := "run.go:350", after := #[{ on := 6, ground := Ground.data }], guard := none }) (v := ?_) rfl (by kernel_rfl) (by kernel_rfl) (by kernel_rfl) (fun _ _ _ h => h) (Or.inl ⟨by rfl, ?_⟩) (by assumption) ?_
    rotate_left
    · intro w' hSw; have k9 := (World.cell?_of_block (w := w3) (a := ⟨w1.heap.size, 9, none⟩) hSw).trans g9; have k27 := (World.cell?_of_block (w := w3) (a := ⟨w1.heap.size, 27, none⟩) hSw).trans g27; have k26 := (World.cell?_of_block (w := w3) (a := ⟨w1.heap.size, 26, none⟩) hSw).trans g26; go_simp; try with_reducible rfl
    simp only [Act.put, List.setIfInBounds_toArray, List.set_cons_zero, List.set_cons_succ]
    refine wpAnyH_take (i := 9) (oi := { dst := some 35, op := Op.move (Operand.tmp 11), type := 177, pos := "run.go:350", after := #[{ on := 16, ground := Ground.gcOnly Departure.lateStores }], guard := none }) (v := ?_) rfl (by kernel_rfl) (by kernel_rfl) (by kernel_rfl) (fun _ _ _ h => h) (Or.inl ⟨by rfl, ?_⟩) (by assumption) ?_
    rotate_left
    · intro w' hSw; have k9 := (World.cell?_of_block (w := w3) (a := ⟨w1.heap.size, 9, none⟩) hSw).trans g9; have k27 := (World.cell?_of_block (w := w3) (a := ⟨w1.heap.size, 27, none⟩) hSw).trans g27; have k26 := (World.cell?_of_block (w := w3) (a := ⟨w1.heap.size, 26, none⟩) hSw).trans g26; go_simp; try with_reducible rfl
    simp only [Act.put, List.setIfInBounds_toArray, List.set_cons_zero, List.set_cons_succ]
    refine wpAnyH_take (i := 10) (oi := { dst := some 36, op := Op.nilCheck (Operand.tmp 35), type := 0, pos := "run.go:350", after := #[{ on := 9, ground := Ground.data }, { on := 16, ground := Ground.gcOnly Departure.lateStores }], guard := none }) (v := ?_) rfl (by kernel_rfl) (by kernel_rfl) (by kernel_rfl) (fun _ _ _ h => h) (Or.inl ⟨by rfl, ?_⟩) (by assumption) ?_
    rotate_left
    · intro w' hSw; have k9 := (World.cell?_of_block (w := w3) (a := ⟨w1.heap.size, 9, none⟩) hSw).trans g9; have k27 := (World.cell?_of_block (w := w3) (a := ⟨w1.heap.size, 27, none⟩) hSw).trans g27; have k26 := (World.cell?_of_block (w := w3) (a := ⟨w1.heap.size, 26, none⟩) hSw).trans g26; go_simp; try with_reducible rfl
    simp only [Act.put, List.setIfInBounds_toArray, List.set_cons_zero, List.set_cons_succ]
    refine wpAnyH_take (i := 11) (oi := { dst := some 37, op := Op.fieldAddr 180 (Operand.tmp 36) 11, type := 0, pos := "run.go:350", after := #[{ on := 10, ground := Ground.data }, { on := 16, ground := Ground.gcOnly Departure.lateStores }], guard := none }) (v := ?_) rfl (by kernel_rfl) (by kernel_rfl) (by kernel_rfl) (fun _ _ _ h => h) (Or.inl ⟨by rfl, ?_⟩) (by assumption) ?_
    rotate_left
    · intro w' hSw; have k9 := (World.cell?_of_block (w := w3) (a := ⟨w1.heap.size, 9, none⟩) hSw).trans g9; have k27 := (World.cell?_of_block (w := w3) (a := ⟨w1.heap.size, 27, none⟩) hSw).trans g27; have k26 := (World.cell?_of_block (w := w3) (a := ⟨w1.heap.size, 26, none⟩) hSw).trans g26; go_simp; try with_reducible rfl
    simp only [Act.put, List.setIfInBounds_toArray, List.set_cons_zero, List.set_cons_succ]
    refine wpAnyH_take (i := 12) (oi := { dst := some 38, op := Op.load 34 (Operand.tmp 37), type := 34, pos := "run.go:350", after := #[{ on := 11, ground := Ground.data }, { on := 16, ground := Ground.gcOnly Departure.lateStores }], guard := none }) (v := ?_) rfl (by kernel_rfl) (by kernel_rfl) (by kernel_rfl) (fun _ _ _ h => h) (Or.inl ⟨by rfl, ?_⟩) (by assumption) ?_
    rotate_left
    · intro w' hSw; have k9 := (World.cell?_of_block (w := w3) (a := ⟨w1.heap.size, 9, none⟩) hSw).trans g9; have k27 := (World.cell?_of_block (w := w3) (a := ⟨w1.heap.size, 27, none⟩) hSw).trans g27; have k26 := (World.cell?_of_block (w := w3) (a := ⟨w1.heap.size, 26, none⟩) hSw).trans g26; go_simp; try with_reducible rfl
    simp only [Act.put, List.setIfInBounds_toArray, List.set_cons_zero, List.set_cons_succ]
    refine wpAnyH_take (i := 13) (oi := { dst := some 39, op := Op.move (Operand.tmp 11), type := 177, pos := "run.go:350", after := #[], guard := none }) (v := ?_) rfl (by kernel_rfl) (by kernel_rfl) (by kernel_rfl) (fun _ _ _ h => h) (Or.inl ⟨by rfl, ?_⟩) (by assumption) ?_
    rotate_left
    · intro w' hSw; have k9 := (World.cell?_of_block (w := w3) (a := ⟨w1.heap.size, 9, none⟩) hSw).trans g9; have k27 := (World.cell?_of_block (w := w3) (a := ⟨w1.heap.size, 27, none⟩) hSw).trans g27; have k26 := (World.cell?_of_block (w := w3) (a := ⟨w1.heap.size, 26, none⟩) hSw).trans g26; go_simp; try with_reducible rfl
    simp only [Act.put, List.setIfInBounds_toArray, List.set_cons_zero, List.set_cons_succ]
    refine wpAnyH_take (i := 15) (oi := { dst := some 41, op := Op.move (Operand.tmp 10), type := 41, pos := "run.go:350", after := #[{ on := 18, ground := Ground.gcOnly Departure.lateStores }], guard := none }) (v := ?_) rfl (by kernel_rfl) (by kernel_rfl) (by kernel_rfl) (fun _ _ _ h => h) (Or.inl ⟨by rfl, ?_⟩) (by assumption) ?_
    rotate_left
    · intro w' hSw; have k9 := (World.cell?_of_block (w := w3) (a := ⟨w1.heap.size, 9, none⟩) hSw).trans g9; have k27 := (World.cell?_of_block (w := w3) (a := ⟨w1.heap.size, 27, none⟩) hSw).trans g27; have k26 := (World.cell?_of_block (w := w3) (a := ⟨w1.heap.size, 26, none⟩) hSw).trans g26; go_simp; try with_reducible rfl
    simp only [Act.put, List.setIfInBounds_toArray, List.set_cons_zero, List.set_cons_succ]
    refine wpAnyH_ready (rs := [8]) (by kernel_rfl) (by simp) ?_
    refine AllReadyH.cons (o := { dst := some 34, op := Op.call { callee := Callee.value (Operand.func 108), args := #[Operand.tmp 29, Operand.tmp 33], argTypes := #[44, 3] }, type := 9, pos := "run.go:350", after := #[{ on := 3, ground := Ground.data }, { on := 7, ground := Ground.data }], guard := none }) rfl (fun K' hK' => ?_) AllReadyH.nil
    go_simp
    go_at_call 108
    refine (unhide H108).mono ?_
    rintro e w4 ⟨rfl, f4⟩
    have s4 : w4.heap[w1.heap.size]? = w3.heap[w1.heap.size]? := f4.same _ hb3 (fun h => h)
    have f34 : Fr (fun _ => False) w3 w4 (fun _ => False) := ((Fr.refl _ _).drew).trans f4
    have HC9 := hide (unhide H109 w4 f34)
    have F34 := hide f34
    clear f4 f34 H108 H109
    refine hK'.out _ _ ?_ (fun hHeld => ?_)
    · exact s4
    clear hK' K'
    try simp only [Act.put, List.setIfInBounds_toArray, List.set_cons_zero, List.set_cons_succ]
    refine wpAnyH_ready (rs := [14]) (by kernel_rfl) (by simp) ?_
    refine AllReadyH.cons (o := { dst := some 40, op := Op.call { callee := Callee.value (Operand.func 109), args := #[Operand.tmp 39], argTypes := #[177] }, type := 37, pos := "run.go:350", after := #[{ on := 13, ground := Ground.data }, { on := 8, ground := Ground.chain }], guard := none }) rfl (fun K' hK' => ?_) AllReadyH.nil
    go_simp
    go_at_call 109
    refine (unhide HC9).mono ?_
    rintro e w5 ⟨rfl, f5⟩
    have s5 : w5.heap[w1.heap.size]? = w3.heap[w1.heap.size]? := (f5.same _ (Nat.lt_of_lt_of_le hb3 (unhide F34).size) (fun h => h)).trans s4
    have f35 := (unhide F34).trans f5
    have e8 : w5.heap[w.heap.size + 1 + 1]? = some (.cells #[.int .i64 0, .int .i64 0, .int .i64 0, .int .i64 0, .int .i64 0, .int .i64 0, .int .i64 0] 37) := (f35.same _ (Array.getElem?_eq_some_iff.1 (unhide D83)).1 (fun h => h)).trans (unhide D83)
    have ct8 := fun j => cell_of_row w5 _ j _ 37 (0, 0) e8
    have ft8 := fun j => frozen_rowE e8 j
    have el8 := (Array.getElem?_eq_some_iff.1 e8).1
    have E8 := hide e8
    have F35 := hide f35
    clear f5 f35 HC9 e8
    refine hK'.out _ _ ?_ (fun hHeld => ?_)
    · exact s5
    clear hK' K'
    try simp only [Act.put, List.setIfInBounds_toArray, List.set_cons_zero, List.set_cons_succ]
    refine wpAnyH_take (i := 16) (oi := { dst := some 6, op := Op.assign (Operand.tmp 34), type := 9, pos := "run.go:350", after := #[{ on := 8, ground := Ground.data }, { on := 14, ground := Ground.chain }, { on := 0, ground := Ground.phase }, { on := 1, ground := Ground.phase }, { on := 2, ground := Ground.phase }, { on := 3, ground := Ground.phase }, { on := 4, ground := Ground.phase }, { on := 5, ground := Ground.phase }, { on := 6, ground := Ground.phase }, { on := 7, ground := Ground.phase }, { on := 8, ground := Ground.phase }, { on := 9, ground := Ground.textOnly Departure.lateStores }, { on := 10, ground := Ground.textOnly Departure.lateStores }, { on := 11, ground := Ground.textOnly Departure.lateStores }, { on := 12, ground := Ground.textOnly Departure.lateStores }, { on := 13, ground := Ground.textOnly Departure.lateStores }, { on := 14, ground := Ground.textOnly Departure.lateStoresUnsure }, { on := 15, ground := Ground.textOnly Departure.lateStores }], guard := none }) (v := ?_) rfl (by kernel_rfl) (by kernel_rfl) (by kernel_rfl) (fun _ _ _ h => h) (Or.inl ⟨by rfl, ?_⟩) (by assumption) ?_
    rotate_left
    · intro w' hSw; have k9 := (World.cell?_of_block (w := w3) (a := ⟨w1.heap.size, 9, none⟩) hSw).trans g9; have k27 := (World.cell?_of_block (w := w3) (a := ⟨w1.heap.size, 27, none⟩) hSw).trans g27; have k26 := (World.cell?_of_block (w := w3) (a := ⟨w1.heap.size, 26, none⟩) hSw).trans g26; go_simp; try with_reducible rfl
    simp only [Act.put, List.setIfInBounds_toArray, List.set_cons_zero, List.set_cons_succ]
    refine wpAnyH_take (i := 17) (oi := { dst := some 7, op := Op.assign (Operand.tmp 38), type := 34, pos := "run.go:350", after := #[{ on := 12, ground := Ground.data }, { on := 16, ground := Ground.chain }, { on := 0, ground := Ground.phase }, { on := 1, ground := Ground.phase }, { on := 2, ground := Ground.phase }, { on := 3, ground := Ground.phase }, { on := 4, ground := Ground.phase }, { on := 5, ground := Ground.phase }, { on := 6, ground := Ground.phase }, { on := 7, ground := Ground.phase }, { on := 8, ground := Ground.phase }, { on := 9, ground := Ground.phase }, { on := 10, ground := Ground.phase }, { on := 11, ground := Ground.phase }, { on := 12, ground := Ground.phase }, { on := 13, ground := Ground.textOnly Departure.lateStores }, { on := 14, ground := Ground.textOnly Departure.lateStoresUnsure }, { on := 15, ground := Ground.textOnly Departure.lateStores }, { on := 16, ground := Ground.phase }], guard := none }) (v := ?_) rfl (by kernel_rfl) (by kernel_rfl) (by kernel_rfl) (fun _ _ _ h => h) (Or.inl ⟨by rfl, ?_⟩) (by assumption) ?_
    rotate_left
    · intro w' hSw; have k9 := (World.cell?_of_block (w := w3) (a := ⟨w1.heap.size, 9, none⟩) hSw).trans g9; have k27 := (World.cell?_of_block (w := w3) (a := ⟨w1.heap.size, 27, none⟩) hSw).trans g27; have k26 := (World.cell?_of_block (w := w3) (a := ⟨w1.heap.size, 26, none⟩) hSw).trans g26; go_simp; try with_reducible rfl
    simp only [Act.put, List.setIfInBounds_toArray, List.set_cons_zero, List.set_cons_succ]
    simp only [finV]
    have hne8 : w1.heap.size ≠ w.heap.size + 1 + 1 := by omega
    have st : ∀ (V : World) (j : Nat) (u : Value), V.heap[w1.heap.size]? = w3.heap[w1.heap.size]? → (V.setCell ⟨w.heap.size + 1 + 1, j, none⟩ u).heap[w1.heap.size]? = w3.heap[w1.heap.size]? := fun V j u hv => (Below.heap_setCell _ _ _ _ hne8).trans hv
    have hs7 : (((((((w5.setCell ⟨w.heap.size + 1 + 1, 0, none⟩ (.int .i64 s3.fin)).setCell ⟨w.heap.size + 1 + 1, 1, none⟩ (.int .i64 (s3.reg 0))).setCell ⟨w.heap.size + 1 + 1, 2, none⟩ (.int .i64 (s3.reg 1))).setCell ⟨w.heap.size + 1 + 1, 3, none⟩ (.int .i64 (s3.reg 2))).setCell ⟨w.heap.size + 1 + 1, 4, none⟩ (.int .i64 (s3.reg 3))).setCell ⟨w.heap.size + 1 + 1, 5, none⟩ (.int .i64 s3.clock)).setCell ⟨w.heap.size + 1 + 1, 6, none⟩ (.int .i64 s3.heard)).heap[w1.heap.size]? = w3.heap[w1.heap.size]? := st _ _ _ (st _ _ _ (st _ _ _ (st _ _ _ (st _ _ _ (st _ _ _ (st _ _ _ s5))))))
    have hy7 := out7 (unhide E8) (.int .i64 s3.fin) (.int .i64 (s3.reg 0)) (.int .i64 (s3.reg 1)) (.int .i64 (s3.reg 2)) (.int .i64 (s3.reg 3)) (.int .i64 s3.clock) (.int .i64 s3.heard)
    have hge8 : w.heap.size ≤ w.heap.size + 1 + 1 := by omega
    have hrow7 : w5.ownsRow w.heap.size 72 3 (.slice ua s3.trace.length uc) s3.trace.length (flatE s3.trace) := ownsRow_of_block (unhide HROW3) (fun q hq => (unhide F35).same q (World.ownsRow.lt (unhide HROW3) q hq).2 (fun h => h))
    have st8 : ∀ (V : World) (j : Nat) (u : Value), V.ownsRow w.heap.size 72 3 (.slice ua s3.trace.length uc) s3.trace.length (flatE s3.trace) → (V.setCell ⟨w.heap.size + 1 + 1, j, none⟩ u).ownsRow w.heap.size 72 3 (.slice ua s3.trace.length uc) s3.trace.length (flatE s3.trace) := fun V j u hv => ownsRow_of_block hv (fun q hq => Below.heap_setCell _ _ _ _ (fun e => unhide HP8 (by have e' : q = w.heap.size + 1 + 1 := e; rw [← e']; exact (unhide HINV q hq).1)))
    have hr7 := st8 _ 6 (.int .i64 s3.heard) (st8 _ 5 (.int .i64 s3.clock) (st8 _ 4 (.int .i64 (s3.reg 3)) (st8 _ 3 (.int .i64 (s3.reg 2)) (st8 _ 2 (.int .i64 (s3.reg 1)) (st8 _ 1 (.int .i64 (s3.reg 0)) (st8 _ 0 (.int .i64 s3.fin) hrow7))))))
    have hft : Fr (fun _ => False) w w5 (fun _ => False) := by
      have g1 : Fr (fun _ => False) w w3 (fun _ => False) := ⟨(unhide F3).os.trans (unhide HFW).os, (unhide F3).tape.trans (unhide HFW).tape, (unhide F3).output.trans (unhide HFW).output, Nat.le_trans (unhide HFW).size (unhide F3).size, fun k hk _ => ((unhide F3).same k (Nat.lt_of_lt_of_le hk (unhide HFW).size) (fun e => by have e' : k = w1.heap.size := e; omega)).trans ((unhide HFW).same k hk (fun h => h)), fun _ _ h => h⟩
      exact g1.trans (unhide F35)
    have HFT := hide hft
    have hf7 := ((((((((unhide HFT).setCell ⟨w.heap.size + 1 + 1, 0, none⟩ (.int .i64 s3.fin) (.inr hge8)).setCell ⟨w.heap.size + 1 + 1, 1, none⟩ (.int .i64 (s3.reg 0)) (.inr hge8)).setCell ⟨w.heap.size + 1 + 1, 2, none⟩ (.int .i64 (s3.reg 1)) (.inr hge8)).setCell ⟨w.heap.size + 1 + 1, 3, none⟩ (.int .i64 (s3.reg 2)) (.inr hge8)).setCell ⟨w.heap.size + 1 + 1, 4, none⟩ (.int .i64 (s3.reg 3)) (.inr hge8)).setCell ⟨w.heap.size + 1 + 1, 5, none⟩ (.int .i64 s3.clock) (.inr hge8)).setCell ⟨w.heap.size + 1 + 1, 6, none⟩ (.int .i64 s3.heard) (.inr hge8))
    have HS7 := hide hs7
    have HY7 := hide hy7
    have HR7 := hide hr7
    have HF7 := hide hf7
    clear hs7 hy7 hr7 hf7 st st8 hrow7 hft
    refine wpAnyH_ready (rs := [18]) (by kernel_rfl) (by simp) ?_
    refine AllReadyH.cons (o := { dst := none, op := Op.store 37 (Operand.tmp 8) (Operand.tmp 40), type := 0, pos := "run.go:350", after := #[{ on := 14, ground := Ground.data }, { on := 17, ground := Ground.chain }, { on := 0, ground := Ground.phase }, { on := 1, ground := Ground.phase }, { on := 2, ground := Ground.phase }, { on := 3, ground := Ground.phase }, { on := 4, ground := Ground.phase }, { on := 5, ground := Ground.phase }, { on := 6, ground := Ground.phase }, { on := 7, ground := Ground.phase }, { on := 8, ground := Ground.phase }, { on := 9, ground := Ground.phase }, { on := 10, ground := Ground.phase }, { on := 11, ground := Ground.phase }, { on := 12, ground := Ground.phase }, { on := 13, ground := Ground.phase }, { on := 14, ground := Ground.phase }, { on := 15, ground := Ground.textOnly Departure.lateStores }, { on := 16, ground := Ground.phase }, { on := 17, ground := Ground.phase }], guard := none }) rfl (fun K' hK' => ?_) AllReadyH.nil
    go_simp
    refine hK'.out _ _ ?_ (fun hHeld => ?_)
    · exact unhide HS7
    clear hK' K'
    try simp only [Act.put, List.setIfInBounds_toArray, List.set_cons_zero, List.set_cons_succ]
    refine wpAnyH_take (i := 19) (oi := { dst := some 9, op := Op.assign (Operand.tmp 41), type := 41, pos := "run.go:350", after := #[{ on := 15, ground := Ground.data }, { on := 18, ground := Ground.chain }, { on := 0, ground := Ground.phase }, { on := 1, ground := Ground.phase }, { on := 2, ground := Ground.phase }, { on := 3, ground := Ground.phase }, { on := 4, ground := Ground.phase }, { on := 5, ground := Ground.phase }, { on := 6, ground := Ground.phase }, { on := 7, ground := Ground.phase }, { on := 8, ground := Ground.phase }, { on := 9, ground := Ground.phase }, { on := 10, ground := Ground.phase }, { on := 11, ground := Ground.phase }, { on := 12, ground := Ground.phase }, { on := 13, ground := Ground.phase }, { on := 14, ground := Ground.phase }, { on := 15, ground := Ground.phase }, { on := 16, ground := Ground.phase }, { on := 17, ground := Ground.phase }, { on := 18, ground := Ground.phase }], guard := none }) (v := ?_) rfl (by kernel_rfl) (by kernel_rfl) (by kernel_rfl) (fun _ _ _ h => h) (Or.inl ⟨by rfl, ?_⟩) (by assumption) ?_
    rotate_left
    · intro w' hSw; have k9 := (World.cell?_of_block (w := w3) (a := ⟨w1.heap.size, 9, none⟩) hSw).trans g9; have k27 := (World.cell?_of_block (w := w3) (a := ⟨w1.heap.size, 27, none⟩) hSw).trans g27; have k26 := (World.cell?_of_block (w := w3) (a := ⟨w1.heap.size, 26, none⟩) hSw).trans g26; go_simp; try with_reducible rfl
    simp only [Act.put, List.setIfInBounds_toArray, List.set_cons_zero, List.set_cons_succ]
    refine wpAnyH_done (by kernel_rfl) ?_ _
    generalize hV : (((((((w5.setCell ⟨w.heap.size + 1 + 1, 0, none⟩ (.int .i64 s3.fin)).setCell ⟨w.heap.size + 1 + 1, 1, none⟩ (.int .i64 (s3.reg 0))).setCell ⟨w.heap.size + 1 + 1, 2, none⟩ (.int .i64 (s3.reg 1))).setCell ⟨w.heap.size + 1 + 1, 3, none⟩ (.int .i64 (s3.reg 2))).setCell ⟨w.heap.size + 1 + 1, 4, none⟩ (.int .i64 (s3.reg 3))).setCell ⟨w.heap.size + 1 + 1, 5, none⟩ (.int .i64 s3.clock)).setCell ⟨w.heap.size + 1 + 1, 6, none⟩ (.int .i64 s3.heard)) = V at *
    clear hV
    have ky := fun j => cell_of_row V _ j _ 37 (0, 0) (unhide HY7)
    go_wp2
    refine bodyPost_ret (v := .tuple #[.string (recLog (s3, x3)), .slice ua s3.trace.length uc, finV s3, .int .i64 0]) (by simp [results, Tryz.results72, go_sem, ky, finV]) rfl ?_
    refine ⟨unhide HF7, 0, unhide HANS, .inr ⟨rfl, .slice ua s3.trace.length uc, ?_, ?_⟩⟩
    · rw [unhide HR]
    · rw [unhide HR]; exact unhide HR7
  · have hxb : (x == 0) = false := by simpa using hx
    go_wp2
    have y8 := out7 (unhide B8) (.int .i64 0) (.int .i64 0) (.int .i64 0) (.int .i64 0) (.int .i64 0) (.int .i64 0) (.int .i64 0)
    have ky := fun j => cell_of_row _ _ j _ 37 (0, 0) y8
    refine bodyPost_ret (v := .tuple #[.string ⟨#[]⟩, .slice none 0 0, .agg #[.int .i64 0, .int .i64 0, .int .i64 0, .int .i64 0, .int .i64 0, .int .i64 0, .int .i64 0], .int .i64 x]) (by simp [results, Tryz.results72, go_sem, ky]) rfl ?_
    refine ⟨?_, x, unhide HANS, .inl ⟨hx, rfl⟩⟩
    exact (((((((Fr.of_below (unhide HW1)).setCell ⟨w.heap.size + 1 + 1, 0, none⟩ _ (.inr (by show w.heap.size ≤ w.heap.size + 1 + 1; omega))).setCell ⟨w.heap.size + 1 + 1, 1, none⟩ _ (.inr (by show w.heap.size ≤ w.heap.size + 1 + 1; omega))).setCell ⟨w.heap.size + 1 + 1, 2, none⟩ _ (.inr (by show w.heap.size ≤ w.heap.size + 1 + 1; omega))).setCell ⟨w.heap.size + 1 + 1, 3, none⟩ _ (.inr (by show w.heap.size ≤ w.heap.size + 1 + 1; omega))).setCell ⟨w.heap.size + 1 + 1, 4, none⟩ _ (.inr (by show w.heap.size ≤ w.heap.size + 1 + 1; omega))).setCell ⟨w.heap.size + 1 + 1, 5, none⟩ _ (.inr (by show w.heap.size ≤ w.heap.size + 1 + 1; omega))).setCell ⟨w.heap.size + 1 + 1, 6, none⟩ _ (.inr (by show w.heap.size ≤ w.heap.size + 1 + 1; omega))
end Go.Proofs.YtfmbebofllgmoaaGreatDoor
namespace Go.Proofs.YtfmbebofllgmoaaGreatDoor
open Go.RowKit

/-- A list of one unit, over and over. -/
def FullU (us : List Value) (w : World) (v : Value) : Prop := ∃ a n c, v = .slice a n c ∧ n ≤ 1000000000 ∧ (n = 0 ∨ ∃ q off, a = some ⟨q, off, none⟩ ∧ ∀ i, i < n → ∀ j u, us[j]? = some u → w.cell? ⟨q, off + i * us.length + j, none⟩ = some u)
def reps (n : Nat) (us : List Value) : List Value := (List.replicate n us).flatten
theorem reps_succ (n : Nat) (us : List Value) : reps (n + 1) us = us ++ reps n us := by unfold reps; rw [List.replicate_succ, List.flatten_cons]
theorem reps_length (n : Nat) (us : List Value) : (reps n us).length = n * us.length := by
  induction n with
  | zero => simp [reps]
  | succ n ih => rw [reps_succ, List.length_append, ih, Nat.succ_mul]; omega
theorem reps_append (n k : Nat) (us : List Value) : reps n us ++ reps k us = reps (n + k) us := by
  unfold reps; rw [← List.flatten_append, List.replicate_append_replicate]
theorem reps_get (us : List Value) {j : Nat} {u : Value} (hj : us[j]? = some u) : ∀ (n i : Nat), i < n → (reps n us)[i * us.length + j]? = some u
  | 0, i, h => by omega
  | n + 1, 0, _ => by
    rw [reps_succ, Nat.zero_mul, Nat.zero_add, List.getElem?_append_left (List.getElem?_eq_some_iff.1 hj).1]
    exact hj
  | n + 1, i + 1, h => by
    rw [reps_succ, List.getElem?_append_right (by rw [Nat.succ_mul]; omega), show (i + 1) * us.length + j - us.length = i * us.length + j by rw [Nat.succ_mul]; omega]
    exact reps_get us hj n i (by omega)
section
variable {w W : World} {v : Value} {us : List Value} {K : Nat → Prop}
theorem FullU.keep (h : FullU us w v) (hl : LiesIn v K) (hk : ∀ q, K q → W.heap[q]? = w.heap[q]?) : FullU us W v := by
  obtain ⟨a, n, c, rfl, hn, hc⟩ := h
  refine ⟨a, n, c, rfl, hn, ?_⟩
  rcases Nat.eq_zero_or_pos n with h0 | h0
  · exact .inl h0
  rcases hc with h1 | ⟨q, off, rfl, hcell⟩
  · omega
  have hq := hk q (hl q off n c rfl h0)
  exact .inr ⟨q, off, rfl, fun i hi j u hj => by rw [cellOf_heap hq]; exact hcell i hi j u hj⟩
theorem FullU.row {B e n : Nat} (_hus : 0 < us.length) (h : w.ownsRow B e us.length v n (reps n us)) (hn : n ≤ 1000000000) : FullU us w v := by
  rcases Nat.eq_zero_or_pos n with h0 | h0
  · obtain ⟨a, c, hv⟩ := row_shape h
    exact ⟨a, n, c, hv, hn, .inl h0⟩
  · obtain ⟨g, c, hv, _, _, hc⟩ := row_cell h h0
    exact ⟨_, n, c, hv, hn, .inr ⟨g, 0, rfl, fun i hi j u hj => by rw [Nat.zero_add]; exact hc _ _ (reps_get us hj n i hi)⟩⟩
theorem FullU.toE {m : Int} (h : FullU [.int .i64 0, .int .i64 m, .int .i64 0] w v) : FullE w v m := by
  obtain ⟨a, n, c, hv, hn, hc⟩ := h
  exact ⟨a, n, c, hv, hn, hc.imp id fun ⟨q, off, e, hcell⟩ => ⟨q, off, e, fun i hi => ⟨hcell i hi 0 _ rfl, hcell i hi 1 _ rfl, hcell i hi 2 _ rfl⟩⟩⟩
end
/-- A list of units that was made of an own list: in its block, or in a block of its own. -/
def MadeU (us : List Value) (e : Nat) (w : World) (lv : Value) (n : Nat) (u : Value) (k : Nat) : Prop :=
  FullU us w u ∧ ((∃ g cp, lv = .slice (some ⟨g, 0, none⟩) n cp ∧ u = .slice (some ⟨g, 0, none⟩) (n + k) cp) ∨ (∀ q, own u q → ¬ own lv q ∧ ∃ cur, w.heap[q]? = some (.cells cur e (0, 0))))
section
variable {us : List Value} {e : Nat}
theorem MadeU.step {w w' : World} {B : Nat} {lv u v' : Value} {n k j : Nat} (_hus : 0 < us.length) (h : MadeU us e w lv n u k) (hk : k ≤ j) (hn : n + j ≤ 1000000000) (hr : w'.ownsRow B e us.length v' (n + j) (reps (n + j) us))
    (hd : (∃ g cp, lv = .slice (some ⟨g, 0, none⟩) n cp ∧ v' = .slice (some ⟨g, 0, none⟩) (n + j) cp ∧ n + j ≤ cp ∧ w.grownBy w' (some g)) ∨ (w.grownBy w' none ∧ ∀ q, own v' q → w.heap.size ≤ q)) : MadeU us e w' lv n u k := by
  obtain ⟨hf, hp⟩ := h
  rcases hd with ⟨g, cp, hlv, hv', hroom, hg⟩ | ⟨hg, _⟩
  · rcases hp with ⟨g2, cp2, hlv2, hu⟩ | hp
    · rw [hlv] at hlv2
      cases hlv2
      refine ⟨?_, .inl ⟨g, cp, hlv, hu⟩⟩
      subst hv'
      rcases Nat.eq_zero_or_pos (n + j) with h0 | h0
      · exact ⟨_, _, _, hu, by omega, .inl (by omega)⟩
      obtain ⟨g3, c3, hv3, _, _, hc3⟩ := row_cell hr h0
      cases hv3
      exact ⟨some ⟨g, 0, none⟩, n + k, cp, hu, by omega, .inr ⟨g, 0, rfl, fun i hi j' u' hj' => by rw [Nat.zero_add]; exact hc3 _ _ (reps_get us hj' (n + j) i (by omega))⟩⟩
    · have hk' : ∀ q, own u q → w'.heap[q]? = w.heap[q]? := fun q hq => hg.block q (by obtain ⟨cur, hcur⟩ := (hp q hq).2; exact (Array.getElem?_eq_some_iff.1 hcur).1) (fun e => (hp q hq).1 (by rw [hlv]; simp only [own, Value.ownBlock]; exact e.symm))
      exact ⟨hf.keep own_lies hk', .inr (fun q hq => ⟨(hp q hq).1, by obtain ⟨cur, hcur⟩ := (hp q hq).2; exact ⟨cur, (hk' q hq).trans hcur⟩⟩)⟩
  · have hall : ∀ q, q < w.heap.size → w'.heap[q]? = w.heap[q]? := fun q hq => hg.block q hq (by simp)
    refine ⟨?_, hp.imp id (fun hp q hq => ⟨(hp q hq).1, by obtain ⟨cur, hcur⟩ := (hp q hq).2; exact ⟨cur, (hall q (Array.getElem?_eq_some_iff.1 hcur).1).trans hcur⟩⟩)⟩
    obtain ⟨a, nn, c, hv, hnn, hc⟩ := hf
    exact ⟨a, nn, c, hv, hnn, hc.imp id fun ⟨q, off, e, hcell⟩ => ⟨q, off, e, fun i hi j' u' hj' => by rw [cellOf_heap (hall q (World.block_lt_of_cell? w _ (hcell i hi j' u' hj')))]; exact hcell i hi j' u' hj'⟩⟩
theorem MadeU.store {w : World} {lv u v : Value} {n k X j : Nat} {cX : Array Value} {t : Nat} (h : MadeU us e w lv n u k) (hX : w.heap[X]? = some (.cells cX t (0, 0))) (he : t ≠ e) (hlv : ¬ own lv X) : MadeU us e (w.setCell ⟨X, j, none⟩ v) lv n u k := by
  obtain ⟨hf, hp⟩ := h
  have hk : ∀ q, q ≠ X → (w.setCell ⟨X, j, none⟩ v).heap[q]? = w.heap[q]? := fun q hq => Below.heap_setCell _ _ _ _ hq
  rcases hp with ⟨g, cp, hl, hu⟩ | hp
  · refine ⟨hf.keep (K := fun q => q = g) (fun q off n' c hv _ => by rw [hu] at hv; cases hv; rfl) (fun q hq => hk q (fun e => hlv (by rw [hl, ← e, hq]; rfl))), .inl ⟨g, cp, hl, hu⟩⟩
  · have hne : ∀ q, own u q → q ≠ X := fun q hq e' => by
      obtain ⟨cur, hcur⟩ := (hp q hq).2
      rw [e'] at hcur
      exact he (ty_one hX hcur)
    exact ⟨hf.keep own_lies (fun q hq => hk q (hne q hq)), .inr (fun q hq => ⟨(hp q hq).1, by obtain ⟨cur, hcur⟩ := (hp q hq).2; exact ⟨cur, (hk q (hne q hq)).trans hcur⟩⟩)⟩
theorem MadeU.fr {w W : World} {lv u : Value} {n k : Nat} (h : MadeU us e w lv n u k) (hf : Fr (fun _ => False) w W (fun _ => False)) : MadeU us e W lv n u k := by
  obtain ⟨⟨a, nn, c, hv, hnn, hc⟩, hp⟩ := h
  have hall : ∀ q, q < w.heap.size → W.heap[q]? = w.heap[q]? := fun q hq => hf.same q hq (fun h => h)
  exact ⟨⟨a, nn, c, hv, hnn, hc.imp id fun ⟨q, off, e, hcell⟩ => ⟨q, off, e, fun i hi j' u' hj' => by rw [cellOf_heap (hall q (World.block_lt_of_cell? w _ (hcell i hi j' u' hj')))]; exact hcell i hi j' u' hj'⟩⟩, hp.imp id fun hp q hq => ⟨(hp q hq).1, by obtain ⟨cur, hcur⟩ := (hp q hq).2; exact ⟨cur, (hall q (Array.getElem?_eq_some_iff.1 hcur).1).trans hcur⟩⟩⟩
theorem MadeU.ty {w : World} {lv u : Value} {B n k size m : Nat} {xs : List Value} (h : MadeU us e w lv n u k) (ho : w.ownsRow B e size lv m xs) {q : Nat} (hq : own u q) : ∃ cur, w.heap[q]? = some (.cells cur e (0, 0)) := by
  rcases h.2 with ⟨g, cp, hl, hu⟩ | hp
  · exact row_d ho (by rw [hl]; rw [hu] at hq; exact hq)
  · exact (hp q hq).2
/-- One append of units to an own list, and the store of what came of it into the entry's block. -/
theorem keep_oneU {U wa : World} {B X t : Nat} {lv va : Value} {n j k : Nat} {cX : Array Value} (hus : 0 < us.length) (hte : t ≠ e) (hn : n + j ≤ 1000000000) (ho : U.ownsRow B e us.length lv n (reps n us)) (hX : U.heap[X]? = some (.cells cX t (0, 0)))
    (ra : wa.ownsRow B e us.length va (n + j) (reps (n + j) us))
    (hd : (∃ g cp, lv = .slice (some ⟨g, 0, none⟩) n cp ∧ va = .slice (some ⟨g, 0, none⟩) (n + j) cp ∧ n + j ≤ cp ∧ U.grownBy wa (some g)) ∨ (U.grownBy wa none ∧ ∀ q, own va q → U.heap.size ≤ q)) :
    (wa.setCell ⟨X, k, none⟩ va).ownsRow B e us.length lv n (reps n us) ∧ (wa.setCell ⟨X, k, none⟩ va).heap[X]? = some (.cells (cX.setIfInBounds k va) t (0, 0)) ∧ MadeU us e (wa.setCell ⟨X, k, none⟩ va) lv n va j ∧ (∀ u i, i ≤ j → MadeU us e U lv n u i → MadeU us e (wa.setCell ⟨X, k, none⟩ va) lv n u i) ∧
      Fr (fun q => own lv q ∨ q = X) U (wa.setCell ⟨X, k, none⟩ va) (fun q => own lv q ∨ q = X) ∧ (∀ q, own va q → own lv q ∨ U.heap.size ≤ q) := by
  have hXl : ¬ own lv X := own_ty ho hX hte
  have old : ∀ q, q < U.heap.size → ¬ own lv q → wa.heap[q]? = U.heap[q]? := fun q hq hn => by
    rcases hd with ⟨g, cp, hl, _, _, hg⟩ | ⟨hg, _⟩
    · exact hg.block q hq (fun e => hn (by rw [hl]; simp only [own, Value.ownBlock]; exact e.symm))
    · exact hg.block q hq (by simp)
  have hXlt := (Array.getElem?_eq_some_iff.1 hX).1
  have hXa : wa.heap[X]? = some (.cells cX t (0, 0)) := (old X hXlt hXl).trans hX
  have hsz : U.heap.size ≤ wa.heap.size := by rcases hd with ⟨_, _, _, _, _, hg⟩ | ⟨hg, _⟩ <;> exact hg.size
  have hol : wa.ownsRow B e us.length lv n (reps n us) := by
    rcases hd with ⟨g, cp, hl, hv, hr, hg⟩ | ⟨hg, _⟩
    · subst hl hv
      rw [← reps_append] at ra
      exact row_prefix ra (reps_length n us)
    · exact ownsRow_of_block ho (fun q hq => hg.block q (World.ownsRow.lt ho q hq).2 (by simp))
  have hmade : MadeU us e wa lv n va j := by
    refine ⟨FullU.row hus ra hn, ?_⟩
    rcases hd with ⟨g, cp, hl, hv, _, _⟩ | ⟨_, hf⟩
    · exact .inl ⟨g, cp, hl, hv⟩
    · exact .inr (fun q hq => ⟨fun h => by have h1 := hf q hq; have h2 := (World.ownsRow.lt ho q h).2; omega, row_d ra hq⟩)
  refine ⟨ownsRow_of_block hol (fun q hq => Below.heap_setCell _ _ _ _ (fun e => hXl (by have e' : q = X := e; rw [← e']; exact hq))), setCell_row wa X k cX t va hXa, hmade.store hXa hte hXl, fun u i hi hu => (hu.step hus hi hn ra hd).store hXa hte hXl, ?_⟩
  have h3 : wa.os = U.os ∧ wa.tape = U.tape ∧ wa.output = U.output := by rcases hd with ⟨_, _, _, _, _, hg⟩ | ⟨hg, _⟩ <;> exact ⟨hg.os, hg.tape, hg.output⟩
  refine ⟨⟨h3.1, h3.2.1, h3.2.2, by simpa [World.setCell] using hsz, fun q hq hn => (Below.heap_setCell _ _ _ _ (fun e => hn (.inr e))).trans (old q hq (fun h => hn (.inl h))), fun _ _ h => h⟩, fun q hq => ?_⟩
  rcases hd with ⟨g, cp, hl, hv, _, _⟩ | ⟨_, hf⟩
  · left; rw [hl]; rw [hv] at hq; exact hq
  · exact .inr (hf q hq)
end
end Go.Proofs.YtfmbebofllgmoaaGreatDoor
namespace Go.Proofs.YtfmbebofllgmoaaGreatDoor
open Go.RowKit
attribute [local go_sem ↓] Go.wp_at_zero Go.wp_at_succ

theorem both_same {U wa : World} {B e s n j : Nat} {lv va : Value} {xs : List Value} (_ho : U.ownsRow B e s lv n xs) (hd : (∃ g cp, lv = .slice (some ⟨g, 0, none⟩) n cp ∧ va = .slice (some ⟨g, 0, none⟩) (n + j) cp ∧ n + j ≤ cp ∧ U.grownBy wa (some g)) ∨ (U.grownBy wa none ∧ ∀ q, own va q → U.heap.size ≤ q)) (q : Nat) (hq : q < U.heap.size) (hn : ¬ own lv q) : wa.heap[q]? = U.heap[q]? := by
  rcases hd with ⟨g, cp, hl, _, _, hg⟩ | ⟨hg, _⟩
  · exact hg.block q hq (fun e => hn (by rw [hl]; simp only [own, Value.ownBlock]; exact e.symm))
  · exact hg.block q hq (by simp)
theorem row_at {w : World} {B e s n c : Nat} {a : Option Addr} {xs : List Value} (h : w.ownsRow B e s (.slice a n c) n xs) (hn : 0 < n) : ∃ g, a = some ⟨g, 0, none⟩ ∧ g < w.heap.size ∧ (∀ k, k < n * s → ∃ v, w.cell? ⟨g, k, none⟩ = some v) ∧ ∀ k, w.frozen? ⟨g, k, none⟩ = false := by
  obtain ⟨h0, h1⟩ := h
  rcases h1 with ⟨hv, h2⟩ | ⟨g, cap, cur, hv, hB, hg, hc1, hc2, hc3, hc4⟩
  · omega
  · cases hv
    refine ⟨g, rfl, (Array.getElem?_eq_some_iff.1 hg).1, fun k hk => ?_, fun k => frozen_rowE hg k⟩
    have hlt : k < cur.size := by rw [hc3]; exact Nat.lt_of_lt_of_le hk (Nat.mul_le_mul_right s hc1)
    exact ⟨cur[k], (cell_of_row w g k cur e (0, 0) hg).trans (Array.getElem?_eq_getElem hlt)⟩
theorem row_set {w : World} {B e s n c g k : Nat} {xs : List Value} (h : w.ownsRow B e s (.slice (some ⟨g, 0, none⟩) n c) n xs) (z : Value) (_hk : k < n * s) : (w.setCell ⟨g, k, none⟩ z).ownsRow B e s (.slice (some ⟨g, 0, none⟩) n c) n (xs.set k z) := by
  obtain ⟨h0, h1⟩ := h
  rcases h1 with ⟨hv, h2⟩ | ⟨g', cap, cur, hv, hB, hg, hc1, hc2, hc3, hc4⟩
  · cases hv
  · cases hv
    refine ⟨by simpa using h0, .inr ⟨g, c, cur.setIfInBounds k z, rfl, hB, setCell_row w g k cur e _ hg, hc1, hc2, by simpa using hc3, ?_⟩⟩
    rw [Array.toList_setIfInBounds, List.take_set, hc4]
theorem reps_one (us : List Value) : reps 1 us = us := by unfold reps; simp
theorem drop_cons {l : List Value} {k : Nat} (h : k < l.length) : ∃ d, l.drop k = d :: l.drop (k + 1) := ⟨_, List.drop_eq_getElem_cons h⟩
theorem set_at (p : List Value) {k i : Nat} (hk : p.length = k) (q : List Value) (z : Value) : (p ++ q).set (k + i) z = p ++ q.set i z := by
  rw [List.set_append_right _ _ (by omega), show k + i - p.length = i by omega]
theorem set_at0 (p : List Value) {k : Nat} (hk : p.length = k) (q : List Value) (z : Value) : (p ++ q).set k z = p ++ q.set 0 z := set_at p hk (i := 0) q z
theorem unit_set3 {w : World} {B e n c g j : Nat} {xs : List Value} {u0 u1 u2 : Value} (h : w.ownsRow B e 3 (.slice (some ⟨g, 0, none⟩) n c) n (reps j [u0, u1, u2] ++ xs.drop (j * 3))) (hj : j < n) (z0 z1 z2 : Value) (e0 : z0 = u0 := by rfl) (e1 : z1 = u1 := by rfl) (e2 : z2 = u2 := by rfl) :
    (((w.setCell ⟨g, j * 3, none⟩ z0).setCell ⟨g, j * 3 + 1, none⟩ z1).setCell ⟨g, j * 3 + 2, none⟩ z2).ownsRow B e 3 (.slice (some ⟨g, 0, none⟩) n c) n (reps (j + 1) [u0, u1, u2] ++ xs.drop ((j + 1) * 3)) := by
  subst e0 e1 e2
  have hr := row_set (row_set (row_set h z0 (k := j * 3) (by omega)) z1 (k := j * 3 + 1) (by omega)) z2 (k := j * 3 + 2) (by omega)
  have hl := h.1
  rw [List.length_append, reps_length, List.length_drop] at hl
  simp only [List.length_cons, List.length_nil] at hl
  have hp : (reps j [z0, z1, z2]).length = j * 3 := reps_length _ _
  obtain ⟨d0, x0⟩ := drop_cons (l := xs) (k := j * 3) (by omega)
  obtain ⟨d1, x1⟩ := drop_cons (l := xs) (k := j * 3 + 1) (by omega)
  obtain ⟨d2, x2⟩ := drop_cons (l := xs) (k := j * 3 + 1 + 1) (by omega)
  rw [x0, x1, x2] at hr
  rw [set_at0 _ hp, set_at _ hp, set_at _ hp] at hr
  rw [← reps_append, reps_one, List.append_assoc, show (j + 1) * 3 = j * 3 + 1 + 1 + 1 by omega]
  exact hr
theorem elem108 : Elem 62 108 5 104 := elem_of _ _ _ _ (.agg #[.slice none 0 0, .slice none 0 0, .slice none 0 0, .slice none 0 0, .int .i64 0]) Tryz.underlying62 (by kernel_rfl) rfl
/-- What comes of keeping a list of kind E. -/
def KeptE (w w' : World) (B bb : Nat) (n : Int) (vI vE vN : Value) (LI LE LN : List Ent) (K : Nat → Prop) (lv : Value) : Prop :=
  ∃ vX' e K', BookK w' B bb n vI vX' vN LI (LE ++ [e]) LN K' ∧ (∀ q, K' q → K q ∨ own lv q ∨ w.heap.size ≤ q) ∧ (∀ q, own vX' q → own vE q ∨ w.heap.size ≤ q) ∧ Fr (fun q => q = bb ∨ own vE q ∨ own lv q ∨ w.heap.size ≤ q) w w' (fun q => q = bb ∨ own vE q ∨ own lv q ∨ w.heap.size ≤ q)
end Go.Proofs.YtfmbebofllgmoaaGreatDoor
namespace Go.Proofs.YtfmbebofllgmoaaGreatDoor
open Go.RowKit
attribute [local go_sem ↓] Go.wp_at_zero Go.wp_at_succ

set_option maxHeartbeats 4000000 in
set_option maxRecDepth 20000 in
theorem keepEvents_any {w2 : World} {B bb : Nat} {n : Int} {vI vE vN : Value} {LI LE LN : List Ent} {K : Nat → Prop} (h : BookK w2 B bb n vI vE vN LI LE LN K) (hBw : B ≤ w2.heap.size) {lv : Value} {nn : Nat} {xs : List Value} (ho : w2.ownsRow B 72 3 lv nn xs) (hk : ∀ q, own lv q → ¬ K q) (hl : nn ≤ 500000000) (hL : LE.length ≤ 900000000000) :
    Calls Tryz.prog 75 #[.pointer (some ⟨bb, 0, none⟩), lv] w2 fun e w' => e = .returned (.tuple #[]) ∧ KeptE w2 w' B bb (wrap64 (n + 1)) vI vE vN LI LE LN K lv := by
  obtain ⟨a, c, rfl⟩ := row_shape ho
  obtain ⟨aX, cX, rfl⟩ := row_shape h.bk.rE
  have hnb : ¬ own (.slice a nn c) bb := own_ty ho h.bk.blk (by decide)
  have close : ∀ w', KeptE w2 w' B bb (wrap64 (n + 1)) vI (.slice aX LE.length cX) vN LI LE LN K (.slice a nn c) → KeptE w2 w' B bb (wrap64 (n + 1)) vI (.slice aX LE.length cX) vN LI LE LN K (.slice a nn c) := fun _ h => h
  have CLOSE := hide close
  clear close
  have HB := hide h
  have HO := hide ho
  have HK := hide hk
  clear h ho hk
  go_enter Tryz.func75, Tryz.ntmps75
  have HNB := hide hnb
  clear hnb
  have y0 := setCell_row w2 bb 0 _ 65 (.int .i64 (wrap64 (n + 1))) (unhide HB).bk.blk
  have cb := fun j => cell_of_row w2 _ j _ 65 (0, 0) (unhide HB).bk.blk
  have zb := fun j => frozen_rowE (unhide HB).bk.blk j
  have hbw : bb < w2.heap.size := (Array.getElem?_eq_some_iff.1 (unhide HB).bk.blk).1
  have Y0 := hide y0
  clear y0
  go_wp2
  obtain ⟨m, hm⟩ : ∃ m, wrap64 (1000 + wrap64 (n + 1)) = m := ⟨_, rfl⟩
  rw [hm]
  have z1 : (w2.setCell ⟨bb, 0, none⟩ (.int .i64 (wrap64 (n + 1)))).heap.size = w2.heap.size := by simp [World.setCell]
  have hf1 : Fr (fun q => q = bb) w2 ((w2.setCell ⟨bb, 0, none⟩ (.int .i64 (wrap64 (n + 1)))).alloc (.cells #[.int .i64 0, .int .i64 m, .int .i64 0] 72)) (fun q => q = bb) := ((Fr.refl (fun q => q = bb) w2).setCell _ _ (.inl rfl)).alloc _
  have y1 : ((w2.setCell ⟨bb, 0, none⟩ (.int .i64 (wrap64 (n + 1)))).alloc (.cells #[.int .i64 0, .int .i64 m, .int .i64 0] 72)).heap[bb]? = some (.cells #[.int .i64 (wrap64 (n + 1)), vI, .slice aX LE.length cX, vN] 65) := (Below.heap_alloc _ _ _ (by rw [z1]; exact hbw)).trans (unhide Y0)
  have p1 : ((w2.setCell ⟨bb, 0, none⟩ (.int .i64 (wrap64 (n + 1)))).alloc (.cells #[.int .i64 0, .int .i64 m, .int .i64 0] 72)).heap[w2.heap.size]? = some (.cells #[.int .i64 0, .int .i64 m, .int .i64 0] 72) := by
    have h := heap_alloc_new (w2.setCell ⟨bb, 0, none⟩ (.int .i64 (wrap64 (n + 1)))) (.cells #[.int .i64 0, .int .i64 m, .int .i64 0] 72)
    rwa [z1] at h
  have z2 : w2.heap.size < ((w2.setCell ⟨bb, 0, none⟩ (.int .i64 (wrap64 (n + 1)))).alloc (.cells #[.int .i64 0, .int .i64 m, .int .i64 0] 72)).heap.size := (Array.getElem?_eq_some_iff.1 p1).1
  have hnP : ¬ own (.slice a nn c) w2.heap.size := fun hq => by have := (World.ownsRow.lt (unhide HO) _ hq).2; omega
  have o1 : ((w2.setCell ⟨bb, 0, none⟩ (.int .i64 (wrap64 (n + 1)))).alloc (.cells #[.int .i64 0, .int .i64 m, .int .i64 0] 72)).ownsRow B 72 3 (.slice a nn c) nn (reps 0 [.int .i64 0, .int .i64 m, .int .i64 0] ++ xs.drop (0 * 3)) := by
    rw [Nat.zero_mul, List.drop_zero]
    exact ownsRow_of_block (unhide HO) (fun q hq => hf1.same q (World.ownsRow.lt (unhide HO) q hq).2 (fun e => unhide HNB (e ▸ hq)))
  generalize hw1 : (w2.setCell ⟨bb, 0, none⟩ (.int .i64 (wrap64 (n + 1)))).alloc (.cells #[.int .i64 0, .int .i64 m, .int .i64 0] 72) = w1 at *
  have HNP := hide hnP
  have O1 := hide o1
  have Y1 := hide y1
  have HF1 := hide hf1
  have P1 := hide p1
  have Z2 := hide z2
  clear o1 y1 hf1 p1 hw1 hm cb zb z1 z2 Y0 hnP
  go_loopw [6] (fun i wr => ∃ j : Nat, j ≤ nn ∧ i = .int .i64 j ∧ Hid (wr.ownsRow B 72 3 (.slice a nn c) nn (reps j [.int .i64 0, .int .i64 m, .int .i64 0] ++ xs.drop (j * 3))) ∧ Fr (own (.slice a nn c)) w1 wr (own (.slice a nn c))) (fun i _ => nn - (intOf i).toNat)
  case atStart => exact ⟨0, Nat.zero_le _, rfl, O1, Fr.refl _ _⟩
  case round =>
    obtain ⟨j, hj, rfl, hoj, hfj⟩ := hrel
    have hpr := (hfj.same w2.heap.size (unhide Z2) (unhide HNP)).trans (unhide P1)
    have cP := fun i => cell_of_row wr _ i _ 72 (0, 0) hpr
    by_cases hlt : j < nn
    · obtain ⟨g, hg, hgl, hcell, hfz⟩ := row_at (unhide hoj) (by omega)
      subst hg
      obtain ⟨c0, k0⟩ := hcell (j * 3) (by omega)
      have f0 := hfz (j * 3)
      obtain ⟨c1, k1⟩ := hcell (j * 3 + 1) (by omega)
      have f1 := hfz (j * 3 + 1)
      obtain ⟨c2, k2⟩ := hcell (j * 3 + 2) (by omega)
      have f2 := hfz (j * 3 + 2)
      have hon := unit_set3 (unhide hoj) hlt (.int .i64 0) (.int .i64 m) (.int .i64 0)
      have HN := hide hon
      have HFJ := hide hfj
      have hk0 : (0 : Int) ≤ (j : Int) := by omega
      have hk1 : (j : Int) < (nn : Int) := by omega
      have hgP' : ¬ w2.heap.size = g := fun e => unhide HNP (by rw [e]; rfl)
      clear hoj hon hfj hcell hfz hpr
      go_wp2
      go_roundw
      case rel =>
        refine ⟨j + 1, by omega, by go_num, HN, ?_⟩
        refine (((unhide HFJ).setCell ⟨g, j * 3, none⟩ (.int .i64 0) (.inl rfl)).setCell ⟨g, j * 3 + 1, none⟩ (.int .i64 m) (.inl rfl)).setCell ⟨g, j * 3 + 2, none⟩ (.int .i64 0) (.inl rfl)
      case measure => simp [intOf]; omega
    · have hjl : j = nn := by omega
      subst hjl
      have hk1 : ¬ (j : Int) < (j : Int) := by omega
      have hoe : wr.ownsRow B 72 3 (.slice a j c) j (reps j [.int .i64 0, .int .i64 m, .int .i64 0]) := by
        have h := unhide hoj
        rw [List.drop_eq_nil_of_le (Nat.le_of_eq (unhide HO).1), List.append_nil] at h
        exact h
      have hpl : w2.heap.size < wr.heap.size := (Array.getElem?_eq_some_iff.1 hpr).1
      have hPX : w2.heap.size ≠ wr.heap.size := by omega
      have hPX' : ¬ wr.heap.size = w2.heap.size := by omega
      have hrB : B ≤ wr.heap.size := by omega
      have C0n := heap_alloc_new wr (.cells #[.slice a j c, .slice none 0 0, .slice none 0 0, .slice none 0 0, .int .i64 m] 108)
      have v0o : ((wr.alloc (.cells #[.slice a j c, .slice none 0 0, .slice none 0 0, .slice none 0 0, .int .i64 m] 108)).alloc (.cells #[.int .i64 0, .int .i64 m, .int .i64 0] 72)).ownsRow B 72 3 (.slice a j c) j (reps j [.int .i64 0, .int .i64 m, .int .i64 0]) := World.ownsRow.alloc (World.ownsRow.alloc hoe _) _
      have v0x : ((wr.alloc (.cells #[.slice a j c, .slice none 0 0, .slice none 0 0, .slice none 0 0, .int .i64 m] 108)).alloc (.cells #[.int .i64 0, .int .i64 m, .int .i64 0] 72)).heap[wr.heap.size]? = some (.cells #[.slice a j c, .slice none 0 0, .slice none 0 0, .slice none 0 0, .int .i64 m] 108) := (Below.heap_alloc _ _ _ (by simp)).trans C0n
      have v0p : ((wr.alloc (.cells #[.slice a j c, .slice none 0 0, .slice none 0 0, .slice none 0 0, .int .i64 m] 108)).alloc (.cells #[.int .i64 0, .int .i64 m, .int .i64 0] 72)).heap[w2.heap.size]? = some (.cells #[.int .i64 0, .int .i64 m, .int .i64 0] 72) := (Below.heap_alloc _ _ _ (by simp; omega)).trans ((Below.heap_alloc _ _ _ hpl).trans hpr)
      have v0n : ((wr.alloc (.cells #[.slice a j c, .slice none 0 0, .slice none 0 0, .slice none 0 0, .int .i64 m] 108)).alloc (.cells #[.int .i64 0, .int .i64 m, .int .i64 0] 72)).heap[wr.heap.size + 1]? = some (.cells #[.int .i64 0, .int .i64 m, .int .i64 0] 72) := by
        have h := heap_alloc_new (wr.alloc (.cells #[.slice a j c, .slice none 0 0, .slice none 0 0, .slice none 0 0, .int .i64 m] 108)) (.cells #[.int .i64 0, .int .i64 m, .int .i64 0] 72)
        rwa [show (wr.alloc (.cells #[.slice a j c, .slice none 0 0, .slice none 0 0, .slice none 0 0, .int .i64 m] 108)).heap.size = wr.heap.size + 1 by simp] at h
      have hB0 : B ≤ ((wr.alloc (.cells #[.slice a j c, .slice none 0 0, .slice none 0 0, .slice none 0 0, .int .i64 m] 108)).alloc (.cells #[.int .i64 0, .int .i64 m, .int .i64 0] 72)).heap.size := by simp; omega
      have V0O := hide v0o
      have V0X := hide v0x
      have V0P := hide v0p
      have V0N := hide v0n
      have HFJ := hide hfj
      clear hoj hoe hfj C0n v0o v0x v0n v0p hpr
      go_wp2_with (at_builtin; first | (refine wpList_both elemE (by omega) (by omega) (B := B) (n := j) (m := 1) (xs := reps j [.int .i64 0, .int .i64 m, .int .i64 0]) (news := [.int .i64 0, .int .i64 m, .int .i64 0]) rfl (.tmp 35) (.tmp 37) rfl (ad := ⟨wr.heap.size + 1, 0, none⟩) (cap := 1) rfl rfl (unhide V0O) rfl (World.news_of_block (unhide V0N)) (by simp [Value.oneCell']) (by omega) (by omega) hB0 ?_; intro va wa sha ra da; obtain ⟨aa, ca, rfl⟩ := sha; have ra' : wa.ownsRow B 72 3 (.slice aa (j + 1) ca) (j + 1) (reps (j + 1) [.int .i64 0, .int .i64 m, .int .i64 0]) := (by rw [← reps_append]; exact ra); have xa := (both_same (unhide V0O) da wr.heap.size (Array.getElem?_eq_some_iff.1 (unhide V0X)).1 (own_ty (unhide V0O) (unhide V0X) (by decide))).trans (unhide V0X); have kca := fun i => cell_of_row wa _ i _ 108 (0, 0) xa; have kza := fun i => frozen_rowE xa i; have pa := (both_same (unhide V0O) da w2.heap.size (Array.getElem?_eq_some_iff.1 (unhide V0P)).1 (unhide HNP)).trans (unhide V0P); have kpa := fun i => cell_of_row wa _ i _ 72 (0, 0) pa; have K1 := hide (keep_oneU (k := 1) (us := [.int .i64 0, .int .i64 m, .int .i64 0]) (by simp) (by decide) (by omega) (unhide V0O) (unhide V0X) ra' da); have PP := hide pa; clear ra ra' da xa pa V0N; have V1O := hide (show ((wa.setCell ⟨wr.heap.size, 1, none⟩ (.slice aa (j + 1) ca)).alloc (.cells #[.int .i64 0, .int .i64 m, .int .i64 0, .int .i64 0, .int .i64 m, .int .i64 0] 72)).ownsRow B 72 3 (.slice a j c) j (reps j [.int .i64 0, .int .i64 m, .int .i64 0]) from World.ownsRow.alloc (unhide K1).1 _); have V1X := hide (show ((wa.setCell ⟨wr.heap.size, 1, none⟩ (.slice aa (j + 1) ca)).alloc (.cells #[.int .i64 0, .int .i64 m, .int .i64 0, .int .i64 0, .int .i64 m, .int .i64 0] 72)).heap[wr.heap.size]? = some (.cells #[.slice a j c, .slice aa (j + 1) ca, .slice none 0 0, .slice none 0 0, .int .i64 m] 108) from (Below.heap_alloc _ _ _ (Array.getElem?_eq_some_iff.1 (unhide K1).2.1).1).trans (unhide K1).2.1); have V1P := hide (show ((wa.setCell ⟨wr.heap.size, 1, none⟩ (.slice aa (j + 1) ca)).alloc (.cells #[.int .i64 0, .int .i64 m, .int .i64 0, .int .i64 0, .int .i64 m, .int .i64 0] 72)).heap[w2.heap.size]? = some (.cells #[.int .i64 0, .int .i64 m, .int .i64 0] 72) from (Below.heap_alloc _ _ _ (by simp [World.setCell]; exact (Array.getElem?_eq_some_iff.1 (unhide PP)).1)).trans ((Below.heap_setCell _ _ _ _ hPX).trans (unhide PP))); have V1N := hide (show ((wa.setCell ⟨wr.heap.size, 1, none⟩ (.slice aa (j + 1) ca)).alloc (.cells #[.int .i64 0, .int .i64 m, .int .i64 0, .int .i64 0, .int .i64 m, .int .i64 0] 72)).heap[wa.heap.size]? = some (.cells #[.int .i64 0, .int .i64 m, .int .i64 0, .int .i64 0, .int .i64 m, .int .i64 0] 72) from (by have h := heap_alloc_new (wa.setCell ⟨wr.heap.size, 1, none⟩ (.slice aa (j + 1) ca)) (.cells #[.int .i64 0, .int .i64 m, .int .i64 0, .int .i64 0, .int .i64 m, .int .i64 0] 72); rwa [show (wa.setCell ⟨wr.heap.size, 1, none⟩ (.slice aa (j + 1) ca)).heap.size = wa.heap.size by simp [World.setCell]] at h)); have hB1 : B ≤ ((wa.setCell ⟨wr.heap.size, 1, none⟩ (.slice aa (j + 1) ca)).alloc (.cells #[.int .i64 0, .int .i64 m, .int .i64 0, .int .i64 0, .int .i64 m, .int .i64 0] 72)).heap.size := (by have h := (unhide K1).2.2.2.2.1.size; have h0 := hB0; simp at h h0 ⊢; omega); clear PP) | (refine wpList_both elemE (by omega) (by omega) (B := B) (n := j) (m := 2) (xs := reps j [.int .i64 0, .int .i64 m, .int .i64 0]) (news := [.int .i64 0, .int .i64 m, .int .i64 0, .int .i64 0, .int .i64 m, .int .i64 0]) rfl (.tmp 40) (.tmp 43) rfl (ad := ⟨wa.heap.size, 0, none⟩) (cap := 2) rfl rfl (unhide V1O) rfl (World.news_of_block (unhide V1N)) (by simp [Value.oneCell']) (by omega) (by omega) hB1 ?_; intro va wb sha ra da; obtain ⟨ab, cb, rfl⟩ := sha; have ra' : wb.ownsRow B 72 3 (.slice ab (j + 2) cb) (j + 2) (reps (j + 2) [.int .i64 0, .int .i64 m, .int .i64 0]) := (by rw [← reps_append]; exact ra); have xa := (both_same (unhide V1O) da wr.heap.size (Array.getElem?_eq_some_iff.1 (unhide V1X)).1 (own_ty (unhide V1O) (unhide V1X) (by decide))).trans (unhide V1X); have kcb := fun i => cell_of_row wb _ i _ 108 (0, 0) xa; have kzb := fun i => frozen_rowE xa i; have pa := (both_same (unhide V1O) da w2.heap.size (Array.getElem?_eq_some_iff.1 (unhide V1P)).1 (unhide HNP)).trans (unhide V1P); have kpb := fun i => cell_of_row wb _ i _ 72 (0, 0) pa; have K2 := hide (keep_oneU (k := 2) (us := [.int .i64 0, .int .i64 m, .int .i64 0]) (by simp) (by decide) (by omega) (unhide V1O) (unhide V1X) ra' da); have PP := hide pa; clear ra ra' da xa pa V1N; have V2O := hide (show ((wb.setCell ⟨wr.heap.size, 2, none⟩ (.slice ab (j + 2) cb)).alloc (.cells #[.int .i64 0, .int .i64 m, .int .i64 0, .int .i64 0, .int .i64 m, .int .i64 0, .int .i64 0, .int .i64 m, .int .i64 0] 72)).ownsRow B 72 3 (.slice a j c) j (reps j [.int .i64 0, .int .i64 m, .int .i64 0]) from World.ownsRow.alloc (unhide K2).1 _); have V2X := hide (show ((wb.setCell ⟨wr.heap.size, 2, none⟩ (.slice ab (j + 2) cb)).alloc (.cells #[.int .i64 0, .int .i64 m, .int .i64 0, .int .i64 0, .int .i64 m, .int .i64 0, .int .i64 0, .int .i64 m, .int .i64 0] 72)).heap[wr.heap.size]? = some (.cells #[.slice a j c, .slice aa (j + 1) ca, .slice ab (j + 2) cb, .slice none 0 0, .int .i64 m] 108) from (Below.heap_alloc _ _ _ (Array.getElem?_eq_some_iff.1 (unhide K2).2.1).1).trans (unhide K2).2.1); have V2P := hide (show ((wb.setCell ⟨wr.heap.size, 2, none⟩ (.slice ab (j + 2) cb)).alloc (.cells #[.int .i64 0, .int .i64 m, .int .i64 0, .int .i64 0, .int .i64 m, .int .i64 0, .int .i64 0, .int .i64 m, .int .i64 0] 72)).heap[w2.heap.size]? = some (.cells #[.int .i64 0, .int .i64 m, .int .i64 0] 72) from (Below.heap_alloc _ _ _ (by simp [World.setCell]; exact (Array.getElem?_eq_some_iff.1 (unhide PP)).1)).trans ((Below.heap_setCell _ _ _ _ hPX).trans (unhide PP))); have V2N := hide (show ((wb.setCell ⟨wr.heap.size, 2, none⟩ (.slice ab (j + 2) cb)).alloc (.cells #[.int .i64 0, .int .i64 m, .int .i64 0, .int .i64 0, .int .i64 m, .int .i64 0, .int .i64 0, .int .i64 m, .int .i64 0] 72)).heap[wb.heap.size]? = some (.cells #[.int .i64 0, .int .i64 m, .int .i64 0, .int .i64 0, .int .i64 m, .int .i64 0, .int .i64 0, .int .i64 m, .int .i64 0] 72) from (by have h := heap_alloc_new (wb.setCell ⟨wr.heap.size, 2, none⟩ (.slice ab (j + 2) cb)) (.cells #[.int .i64 0, .int .i64 m, .int .i64 0, .int .i64 0, .int .i64 m, .int .i64 0, .int .i64 0, .int .i64 m, .int .i64 0] 72); rwa [show (wb.setCell ⟨wr.heap.size, 2, none⟩ (.slice ab (j + 2) cb)).heap.size = wb.heap.size by simp [World.setCell]] at h)); have hB2 : B ≤ ((wb.setCell ⟨wr.heap.size, 2, none⟩ (.slice ab (j + 2) cb)).alloc (.cells #[.int .i64 0, .int .i64 m, .int .i64 0, .int .i64 0, .int .i64 m, .int .i64 0, .int .i64 0, .int .i64 m, .int .i64 0] 72)).heap.size := (by have h := (unhide K2).2.2.2.2.1.size; have h0 := hB1; simp at h h0 ⊢; omega); clear PP) | (refine wpList_both elemE (by omega) (by omega) (B := B) (n := j) (m := 3) (xs := reps j [.int .i64 0, .int .i64 m, .int .i64 0]) (news := [.int .i64 0, .int .i64 m, .int .i64 0, .int .i64 0, .int .i64 m, .int .i64 0, .int .i64 0, .int .i64 m, .int .i64 0]) rfl (.tmp 46) (.tmp 50) rfl (ad := ⟨wb.heap.size, 0, none⟩) (cap := 3) rfl rfl (unhide V2O) rfl (World.news_of_block (unhide V2N)) (by simp [Value.oneCell']) (by omega) (by omega) hB2 ?_; intro va wc sha ra da; obtain ⟨ac, cc, rfl⟩ := sha; have ra' : wc.ownsRow B 72 3 (.slice ac (j + 3) cc) (j + 3) (reps (j + 3) [.int .i64 0, .int .i64 m, .int .i64 0]) := (by rw [← reps_append]; exact ra); have xa := (both_same (unhide V2O) da wr.heap.size (Array.getElem?_eq_some_iff.1 (unhide V2X)).1 (own_ty (unhide V2O) (unhide V2X) (by decide))).trans (unhide V2X); have kcc := fun i => cell_of_row wc _ i _ 108 (0, 0) xa; have kzc := fun i => frozen_rowE xa i; have pa := (both_same (unhide V2O) da w2.heap.size (Array.getElem?_eq_some_iff.1 (unhide V2P)).1 (unhide HNP)).trans (unhide V2P); have kpc := fun i => cell_of_row wc _ i _ 72 (0, 0) pa; have K3 := hide (keep_oneU (k := 3) (us := [.int .i64 0, .int .i64 m, .int .i64 0]) (by simp) (by decide) (by omega) (unhide V2O) (unhide V2X) ra' da); have PP := hide pa; clear ra ra' da xa pa V2N; clear PP))
      have hXB : w2.heap.size ≤ wr.heap.size := by omega
      have f1 : Fr (fun q => own (.slice a j c) q ∨ q = wr.heap.size) w1 (wc.setCell ⟨wr.heap.size, 3, none⟩ (.slice ac (j + 3) cc)) (fun q => own (.slice a j c) q ∨ q = wr.heap.size) :=
        ((unhide HFJ).widen (fun _ h => .inl h)).trans ((((Fr.refl _ wr).alloc _).alloc _).trans ((unhide K1).2.2.2.2.1.trans (((Fr.refl _ _).alloc _).trans ((unhide K2).2.2.2.2.1.trans (((Fr.refl _ _).alloc _).trans (unhide K3).2.2.2.2.1)))))
      have hbl : bb < w1.heap.size := (Array.getElem?_eq_some_iff.1 (unhide Y1)).1
      have hbd : (wc.setCell ⟨wr.heap.size, 3, none⟩ (.slice ac (j + 3) cc)).heap[bb]? = some (.cells #[.int .i64 (wrap64 (n + 1)), vI, .slice aX LE.length cX, vN] 65) := (f1.same bb hbl (fun h => by
        rcases h with h | h
        · exact unhide HNB h
        · omega)).trans (unhide Y1)
      have fT : Fr (fun q => q = bb ∨ own (.slice a j c) q ∨ w2.heap.size ≤ q) w2 (wc.setCell ⟨wr.heap.size, 3, none⟩ (.slice ac (j + 3) cc)) (fun q => q = bb ∨ own (.slice a j c) q ∨ w2.heap.size ≤ q) :=
        ((unhide HF1).widen (fun _ h => .inl h)).trans (f1.widen (fun q h => by
          rcases h with h | h
          · exact .inr (.inl h)
          · exact .inr (.inr (by omega))))
      have bk := (unhide HB).mid fT (fun q hq h => by
        rcases h with h | h | h
        · exact .inl h
        · obtain ⟨cur, hcur⟩ := row_d (unhide HO) h
          exact .inr ⟨unhide HK q h, own_ty (unhide HB).bk.rI hcur (by decide), own_ty (unhide HB).bk.rE hcur (by decide), own_ty (unhide HB).bk.rN hcur (by decide)⟩
        · omega) hbd
      have m1 := (unhide K3).2.2.2.1 _ 1 (by omega) (((unhide K2).2.2.2.1 _ 1 (by omega) ((unhide K1).2.2.1.fr ((Fr.refl _ _).alloc _))).fr ((Fr.refl _ _).alloc _))
      have m2 := (unhide K3).2.2.2.1 _ 2 (by omega) ((unhide K2).2.2.1.fr ((Fr.refl _ _).alloc _))
      have m3 := (unhide K3).2.2.1
      have od := (unhide K3).1
      have xd := (unhide K3).2.1
      have g1 := (unhide K1).2.2.2.2.2
      have g2 := (unhide K2).2.2.2.2.2
      have g3 := (unhide K3).2.2.2.2.2
      have s1 : w2.heap.size ≤ ((wr.alloc (.cells #[.slice a j c, .slice none 0 0, .slice none 0 0, .slice none 0 0, .int .i64 m] 108)).alloc (.cells #[.int .i64 0, .int .i64 m, .int .i64 0] 72)).heap.size := by simp; omega
      have s2 := Nat.le_trans (Nat.le_trans s1 (unhide K1).2.2.2.2.1.size) (Fr.size ((Fr.refl (fun _ => False) _).alloc (.cells #[.int .i64 0, .int .i64 m, .int .i64 0, .int .i64 0, .int .i64 m, .int .i64 0] 72)))
      have s3 := Nat.le_trans (Nat.le_trans s2 (unhide K2).2.2.2.2.1.size) (Fr.size ((Fr.refl (fun _ => False) _).alloc (.cells #[.int .i64 0, .int .i64 m, .int .i64 0, .int .i64 0, .int .i64 m, .int .i64 0, .int .i64 0, .int .i64 m, .int .i64 0] 72)))
      have fresh : ∀ q, (own (.slice a j c) q ∨ own (.slice aa (j + 1) ca) q ∨ own (.slice ab (j + 2) cb) q ∨ own (.slice ac (j + 3) cc) q) → own (.slice a j c) q ∨ w2.heap.size ≤ q := fun q hq => by
        rcases hq with h | h | h | h
        · exact .inl h
        · exact (g1 q h).imp id (fun h => Nat.le_trans s1 h)
        · exact (g2 q h).imp id (fun h => Nat.le_trans s2 h)
        · exact (g3 q h).imp id (fun h => Nat.le_trans s3 h)
      have hXI : ¬ own (.slice aX LE.length cX) wr.heap.size := fun hq => by have := (World.ownsRow.lt (unhide HB).bk.rE _ hq).2; omega
      have hwd : B ≤ (wc.setCell ⟨wr.heap.size, 3, none⟩ (.slice ac (j + 3) cc)).heap.size := Nat.le_trans hBw fT.size
      clear g1 g2 g3 s1 s2 s3 f1 hbd hbl K1 K2 K3 V0O V0X V0P V1O V1X V1P V2O V2X V2P HB HO HK HF1 HFJ Y1 O1 hB0 hB1 hB2 kca kza kpa kcb kzb kpb kcc kzc kpc P1 Z2 cP hpl hPX hPX'
      generalize (wc.setCell ⟨wr.heap.size, 3, none⟩ (.slice ac (j + 3) cc)) = wd at *
      have ty : ∀ q, (own (.slice a j c) q ∨ own (.slice aa (j + 1) ca) q ∨ own (.slice ab (j + 2) cb) q ∨ own (.slice ac (j + 3) cc) q) → ∃ cur, wd.heap[q]? = some (.cells cur 72 (0, 0)) := fun q hq => by
        rcases hq with h | h | h | h
        · exact row_d od h
        · exact m1.ty od h
        · exact m2.ty od h
        · exact m3.ty od h
      have full : FullE wd (.slice a j c) m ∧ FullE wd (.slice aa (j + 1) ca) m ∧ FullE wd (.slice ab (j + 2) cb) m ∧ FullE wd (.slice ac (j + 3) cc) m := ⟨(FullU.row (by simp) od (by omega)).toE, m1.1.toE, m2.1.toE, m3.1.toE⟩
      have cbb := fun i => cell_of_row wd bb i _ 65 (0, 0) bk.bk.blk
      have FT := hide fT
      have BK := hide bk
      have TY := hide ty
      have FULL := hide full
      have FRESH := hide fresh
      have XD := hide xd
      clear fT bk ty full fresh m1 m2 m3 od
      have hE5 : ∀ o, (wd.alloc o).drew.heap[wr.heap.size]? = some (.cells #[.slice a j c, .slice aa (j + 1) ca, .slice ab (j + 2) cb, .slice ac (j + 3) cc, .int .i64 m] 108 (0, 0)) := fun o => (Below.heap_alloc wd o _ (Array.getElem?_eq_some_iff.1 (unhide XD)).1).trans (unhide XD)
      have cbq : ∀ o, (wd.alloc o).drew.cell? ⟨bb, 2, none⟩ = some (.slice aX LE.length cX) := fun o => by
        have h : (wd.alloc o).drew.heap[bb]? = _ := (Below.heap_alloc wd o _ (Array.getElem?_eq_some_iff.1 (unhide BK).bk.blk).1).trans (unhide BK).bk.blk
        exact cell_of_row _ _ 2 _ 65 (0, 0) h
      clear xd
      have hXb : wr.heap.size ≠ bb := fun e => by have h := unhide XD; rw [e] at h; exact absurd (ty_one h (unhide BK).bk.blk) (by decide)
      have fin : ∀ v' w3, w3.ownsRow B 108 5 v' (LE.length + 1) (flat5 LE ++ [.slice a j c, .slice aa (j + 1) ca, .slice ab (j + 2) cb, .slice ac (j + 3) cc, .int .i64 m]) → Fr (own (.slice aX LE.length cX)) (wd.alloc (.cells #[.slice a j c, .slice aa (j + 1) ca, .slice ab (j + 2) cb, .slice ac (j + 3) cc, .int .i64 m] 108)).drew w3 (own v') → KeptE w2 (w3.setCell ⟨bb, 2, none⟩ v') B bb (wrap64 (n + 1)) (vI) (.slice aX LE.length cX) (vN) LI LE LN K (.slice a j c) := fun v' w3 o3 f3 => by
        have fa : Fr (fun _ => False) wd (wd.alloc (.cells #[.slice a j c, .slice aa (j + 1) ca, .slice ab (j + 2) cb, .slice ac (j + 3) cc, .int .i64 m] 108)).drew (fun _ => False) := ((Fr.refl _ _).alloc _).drew
        have hall : ∀ q, q < wd.heap.size → (wd.alloc (.cells #[.slice a j c, .slice aa (j + 1) ca, .slice ab (j + 2) cb, .slice ac (j + 3) cc, .int .i64 m] 108)).drew.heap[q]? = wd.heap[q]? := fun q hq => fa.same q hq (fun h => h)
        have full := unhide FULL
        have hb := ((unhide BK).fr fa).addE (e := ⟨.slice a j c, .slice aa (j + 1) ca, .slice ab (j + 2) cb, .slice ac (j + 3) cc, m⟩) (K2 := fun q => (own (.slice a j c) q ∨ own (.slice aa (j + 1) ca) q ∨ own (.slice ab (j + 2) cb) q ∨ own (.slice ac (j + 3) cc) q)) ⟨full.1.fr fa, full.2.1.fr fa, full.2.2.1.fr fa, full.2.2.2.fr fa⟩ ⟨own_lies.mono (fun _ h => .inl h), own_lies.mono (fun _ h => .inr (.inl h)), own_lies.mono (fun _ h => .inr (.inr (.inl h))), own_lies.mono (fun _ h => .inr (.inr (.inr h)))⟩ (fun q hq => by
          obtain ⟨cur, hcur⟩ := unhide TY q hq
          exact ⟨cur, (hall q (Array.getElem?_eq_some_iff.1 hcur).1).trans hcur⟩) o3 f3
        refine ⟨v', _, _, hb, fun q hq => ?_, fun q hq => ?_, ?_⟩
        · rcases hq with h | h
          · exact .inl h
          · exact .inr (unhide FRESH q h)
        · by_cases hlt : q < w2.heap.size
          · exact .inl (f3.old q (Nat.lt_of_lt_of_le hlt (Nat.le_trans (unhide FT).size fa.size)) hq)
          · exact .inr (by omega)
        · refine Fr.setCell ?_ _ _ (.inl (.inl rfl))
          refine ((unhide FT).widen (fun q h => ?_)).trans ((fa.widen (fun q h => h.elim)).trans (f3.widen (fun q h => .inr (.inl h))))
          rcases h with h | h | h
          · exact .inl h
          · exact .inr (.inr (.inl h))
          · exact .inr (.inr (.inr h))
      refine wp_region_held_drew (S := fun w' => w'.heap[wr.heap.size]? = some (.cells #[.slice a j c, .slice aa (j + 1) ca, .slice ab (j + 2) cb, .slice ac (j + 3) cc, .int .i64 m] 108 (0, 0))) (by kernel_rfl) ?_ (fun hHeld => ?_)
      · exact unhide XD
      refine wpAnyH_take (i := 0) (oi := { dst := some 53, op := Op.move (Operand.tmp 0), type := 60, pos := "law.go:115", after := #[], guard := none }) (v := ?_) rfl (by kernel_rfl) (by kernel_rfl) (by kernel_rfl) (fun _ _ _ h => h) (Or.inl ⟨by rfl, ?_⟩) (by assumption) ?_
      rotate_left
      · intro w hSw; (try dsimp only at hSw); go_simp; try with_reducible rfl
      simp only [Act.put, List.setIfInBounds_toArray, List.set_cons_zero, List.set_cons_succ]
      refine wpAnyH_take (i := 1) (oi := { dst := some 54, op := Op.move (Operand.tmp 0), type := 60, pos := "law.go:115", after := #[], guard := none }) (v := ?_) rfl (by kernel_rfl) (by kernel_rfl) (by kernel_rfl) (fun _ _ _ h => h) (Or.inl ⟨by rfl, ?_⟩) (by assumption) ?_
      rotate_left
      · intro w hSw; (try dsimp only at hSw); go_simp; try with_reducible rfl
      simp only [Act.put, List.setIfInBounds_toArray, List.set_cons_zero, List.set_cons_succ]
      refine wpAnyH_take (i := 2) (oi := { dst := some 55, op := Op.nilCheck (Operand.tmp 54), type := 0, pos := "law.go:115", after := #[{ on := 1, ground := Ground.data }], guard := none }) (v := ?_) rfl (by kernel_rfl) (by kernel_rfl) (by kernel_rfl) (fun _ _ _ h => h) (Or.inl ⟨by rfl, ?_⟩) (by assumption) ?_
      rotate_left
      · intro w hSw; (try dsimp only at hSw); go_simp; try with_reducible rfl
      simp only [Act.put, List.setIfInBounds_toArray, List.set_cons_zero, List.set_cons_succ]
      refine wpAnyH_take (i := 3) (oi := { dst := some 56, op := Op.fieldAddr 65 (Operand.tmp 55) 2, type := 0, pos := "law.go:115", after := #[{ on := 2, ground := Ground.data }], guard := none }) (v := ?_) rfl (by kernel_rfl) (by kernel_rfl) (by kernel_rfl) (fun _ _ _ h => h) (Or.inl ⟨by rfl, ?_⟩) (by assumption) ?_
      rotate_left
      · intro w hSw; (try dsimp only at hSw); go_simp; try with_reducible rfl
      simp only [Act.put, List.setIfInBounds_toArray, List.set_cons_zero, List.set_cons_succ]
      refine wpAnyH_take (i := 5) (oi := { dst := some 58, op := Op.load 108 (Operand.tmp 7), type := 108, pos := "law.go:115", after := #[], guard := none }) (v := ?_) rfl (by kernel_rfl) (by kernel_rfl) (by kernel_rfl) (fun _ _ _ h => h) (Or.inl ⟨by rfl, ?_⟩) (by assumption) ?_
      rotate_left
      · intro w hSw; have c5 := fun j => cell_of_row w _ j _ 108 (0, 0) hSw; go_simp; try with_reducible rfl
      simp only [Act.put, List.setIfInBounds_toArray, List.set_cons_zero, List.set_cons_succ]
      refine wpAnyH_ready (rs := [4, 6]) (by kernel_rfl) (by simp) ?_
      refine AllReadyH.cons (o := { dst := some 57, op := Op.load 62 (Operand.tmp 56), type := 62, pos := "law.go:115", after := #[{ on := 3, ground := Ground.data }], guard := none }) rfl (fun K' hK' => ?_) (AllReadyH.cons (o := { dst := some 59, op := Op.buildSlice 62 1 #[(0, Operand.tmp 58)], type := 62, pos := "law.go:115", after := #[{ on := 5, ground := Ground.data }], guard := none }) rfl (fun K' hK' => ?_) AllReadyH.nil)
      · go_simp
        refine hK'.out _ _ ?_ (fun hHeld => ?_)
        · exact unhide XD
        clear hK' K'
        try simp only [Act.put, List.setIfInBounds_toArray, List.set_cons_zero, List.set_cons_succ]
        refine wpAnyH_ready (rs := [6]) (by kernel_rfl) (by simp) ?_
        refine AllReadyH.cons (o := { dst := some 59, op := Op.buildSlice 62 1 #[(0, Operand.tmp 58)], type := 62, pos := "law.go:115", after := #[{ on := 5, ground := Ground.data }], guard := none }) rfl (fun K' hK' => ?_) AllReadyH.nil
        go_simp
        refine hK'.out _ _ ?_ (fun hHeld => ?_)
        · exact hE5 _
        clear hK' K'
        try simp only [Act.put, List.setIfInBounds_toArray, List.set_cons_zero, List.set_cons_succ]
        refine wpAnyH_ready (rs := [7]) (by kernel_rfl) (by simp) ?_
        refine AllReadyH.cons (o := { dst := some 60, op := Op.call { callee := Callee.builtin Builtin.append, args := #[Operand.tmp 57, Operand.tmp 59], argTypes := #[62, 62] }, type := 62, pos := "law.go:115", after := #[{ on := 4, ground := Ground.data }, { on := 6, ground := Ground.data }], guard := none }) rfl (fun K' hK' => ?_) AllReadyH.nil
        refine step_grown (d := 60) rfl elem108 (by decide) (by decide) (v := (.slice aX LE.length cX)) (n := LE.length) (m := 1) (xs := flat5 LE) (news := [.slice a j c, .slice aa (j + 1) ca, .slice ab (j + 2) cb, .slice ac (j + 3) cc, .int .i64 m]) (B := B) (ad := ⟨wd.heap.size, 0, none⟩) (cap := 1) rfl (.tmp 57) (.tmp 59) rfl rfl rfl ((unhide BK).fr ((Fr.refl _ _).alloc (.cells #[.slice a j c, .slice aa (j + 1) ca, .slice ab (j + 2) cb, .slice ac (j + 3) cc, .int .i64 m] 108)).drew).bk.rE rfl (World.news_of_block (heap_alloc_new wd _)) (by simp [Value.oneCell']) (by omega) (by omega) (by simp; omega) ?_
        intro v3 w3 o3 f3 sh3
        obtain ⟨av, cv, rfl⟩ := sh3
        have pr : w3.heap[bb]? = some (.cells #[.int .i64 (wrap64 (n + 1)), vI, .slice aX LE.length cX, vN] 65) := by
          have hb2 := ((unhide BK).fr ((Fr.refl _ _).alloc (.cells #[.slice a j c, .slice aa (j + 1) ca, .slice ab (j + 2) cb, .slice ac (j + 3) cc, .int .i64 m] 108)).drew)
          exact (f3.same bb (Array.getElem?_eq_some_iff.1 hb2.bk.blk).1 (own_ty hb2.bk.rE hb2.bk.blk (by decide))).trans hb2.bk.blk
        have pc := fun j => cell_of_row w3 bb j _ 65 (0, 0) pr
        have pz := fun j => frozen_rowE pr j
        have gg : w3.heap[wr.heap.size]? = some (.cells #[.slice a j c, .slice aa (j + 1) ca, .slice ab (j + 2) cb, .slice ac (j + 3) cc, .int .i64 m] 108 (0, 0)) := (f3.same _ (Array.getElem?_eq_some_iff.1 (hE5 _)).1 hXI).trans (hE5 (.cells #[.slice a j c, .slice aa (j + 1) ca, .slice ab (j + 2) cb, .slice ac (j + 3) cc, .int .i64 m] 108))
        have O3 := hide o3
        have F3 := hide f3
        clear o3 f3 pr
        refine hK'.out _ _ gg (fun hHeld => ?_)
        clear hK' K'
        simp only [List.setIfInBounds_toArray, List.set_cons_zero, List.set_cons_succ]
        refine wpAnyH_take (i := 8) (oi := { dst := some 61, op := Op.nilCheck (Operand.tmp 53), type := 0, pos := "law.go:115", after := #[{ on := 0, ground := Ground.data }, { on := 0, ground := Ground.phase }, { on := 1, ground := Ground.phase }, { on := 2, ground := Ground.phase }, { on := 3, ground := Ground.phase }, { on := 4, ground := Ground.phase }, { on := 5, ground := Ground.phase }, { on := 6, ground := Ground.phase }, { on := 7, ground := Ground.phase }], guard := none }) (v := ?_) rfl (by kernel_rfl) (by kernel_rfl) (by kernel_rfl) (fun _ _ _ h => h) (Or.inl ⟨by rfl, ?_⟩) (by assumption) ?_
        rotate_left
        · intro w hSw; (try dsimp only at hSw); go_simp; try with_reducible rfl
        simp only [Act.put, List.setIfInBounds_toArray, List.set_cons_zero, List.set_cons_succ]
        refine wpAnyH_take (i := 9) (oi := { dst := some 62, op := Op.fieldAddr 65 (Operand.tmp 61) 2, type := 0, pos := "law.go:115", after := #[{ on := 8, ground := Ground.data }, { on := 0, ground := Ground.phase }, { on := 1, ground := Ground.phase }, { on := 2, ground := Ground.phase }, { on := 3, ground := Ground.phase }, { on := 4, ground := Ground.phase }, { on := 5, ground := Ground.phase }, { on := 6, ground := Ground.phase }, { on := 7, ground := Ground.phase }], guard := none }) (v := ?_) rfl (by kernel_rfl) (by kernel_rfl) (by kernel_rfl) (fun _ _ _ h => h) (Or.inl ⟨by rfl, ?_⟩) (by assumption) ?_
        rotate_left
        · intro w hSw; (try dsimp only at hSw); go_simp; try with_reducible rfl
        simp only [Act.put, List.setIfInBounds_toArray, List.set_cons_zero, List.set_cons_succ]
        refine wpAnyH_ready (rs := [10]) (by kernel_rfl) (by simp) ?_
        refine AllReadyH.cons (o := { dst := none, op := Op.store 62 (Operand.tmp 62) (Operand.tmp 60), type := 0, pos := "law.go:115", after := #[{ on := 9, ground := Ground.data }, { on := 7, ground := Ground.data }, { on := 7, ground := Ground.chain }, { on := 0, ground := Ground.phase }, { on := 1, ground := Ground.phase }, { on := 2, ground := Ground.phase }, { on := 3, ground := Ground.phase }, { on := 4, ground := Ground.phase }, { on := 5, ground := Ground.phase }, { on := 6, ground := Ground.phase }, { on := 7, ground := Ground.phase }], guard := none }) rfl (fun K' hK' => ?_) AllReadyH.nil
        go_simp
        refine hK'.out _ _ ?_ (fun hHeld => ?_)
        · exact (Below.heap_setCell _ _ _ _ hXb).trans gg
        clear hK' K'
        try simp only [Act.put, List.setIfInBounds_toArray, List.set_cons_zero, List.set_cons_succ]
        refine wpAnyH_done (by kernel_rfl) ?_ _
        go_wp2
        go_end0
        exact ⟨rfl, unhide CLOSE _ (fin _ w3 (unhide O3) (unhide F3))⟩
      · go_simp
        refine hK'.out _ _ ?_ (fun hHeld => ?_)
        · exact hE5 _
        clear hK' K'
        try simp only [Act.put, List.setIfInBounds_toArray, List.set_cons_zero, List.set_cons_succ]
        refine wpAnyH_ready (rs := [4]) (by kernel_rfl) (by simp) ?_
        refine AllReadyH.cons (o := { dst := some 57, op := Op.load 62 (Operand.tmp 56), type := 62, pos := "law.go:115", after := #[{ on := 3, ground := Ground.data }], guard := none }) rfl (fun K' hK' => ?_) AllReadyH.nil
        go_simp
        refine hK'.out _ _ ?_ (fun hHeld => ?_)
        · exact hE5 _
        clear hK' K'
        try simp only [Act.put, List.setIfInBounds_toArray, List.set_cons_zero, List.set_cons_succ]
        refine wpAnyH_ready (rs := [7]) (by kernel_rfl) (by simp) ?_
        refine AllReadyH.cons (o := { dst := some 60, op := Op.call { callee := Callee.builtin Builtin.append, args := #[Operand.tmp 57, Operand.tmp 59], argTypes := #[62, 62] }, type := 62, pos := "law.go:115", after := #[{ on := 4, ground := Ground.data }, { on := 6, ground := Ground.data }], guard := none }) rfl (fun K' hK' => ?_) AllReadyH.nil
        refine step_grown (d := 60) rfl elem108 (by decide) (by decide) (v := (.slice aX LE.length cX)) (n := LE.length) (m := 1) (xs := flat5 LE) (news := [.slice a j c, .slice aa (j + 1) ca, .slice ab (j + 2) cb, .slice ac (j + 3) cc, .int .i64 m]) (B := B) (ad := ⟨wd.heap.size, 0, none⟩) (cap := 1) rfl (.tmp 57) (.tmp 59) rfl rfl rfl ((unhide BK).fr ((Fr.refl _ _).alloc (.cells #[.slice a j c, .slice aa (j + 1) ca, .slice ab (j + 2) cb, .slice ac (j + 3) cc, .int .i64 m] 108)).drew).bk.rE rfl (World.news_of_block (heap_alloc_new wd _)) (by simp [Value.oneCell']) (by omega) (by omega) (by simp; omega) ?_
        intro v3 w3 o3 f3 sh3
        obtain ⟨av, cv, rfl⟩ := sh3
        have pr : w3.heap[bb]? = some (.cells #[.int .i64 (wrap64 (n + 1)), vI, .slice aX LE.length cX, vN] 65) := by
          have hb2 := ((unhide BK).fr ((Fr.refl _ _).alloc (.cells #[.slice a j c, .slice aa (j + 1) ca, .slice ab (j + 2) cb, .slice ac (j + 3) cc, .int .i64 m] 108)).drew)
          exact (f3.same bb (Array.getElem?_eq_some_iff.1 hb2.bk.blk).1 (own_ty hb2.bk.rE hb2.bk.blk (by decide))).trans hb2.bk.blk
        have pc := fun j => cell_of_row w3 bb j _ 65 (0, 0) pr
        have pz := fun j => frozen_rowE pr j
        have gg : w3.heap[wr.heap.size]? = some (.cells #[.slice a j c, .slice aa (j + 1) ca, .slice ab (j + 2) cb, .slice ac (j + 3) cc, .int .i64 m] 108 (0, 0)) := (f3.same _ (Array.getElem?_eq_some_iff.1 (hE5 _)).1 hXI).trans (hE5 (.cells #[.slice a j c, .slice aa (j + 1) ca, .slice ab (j + 2) cb, .slice ac (j + 3) cc, .int .i64 m] 108))
        have O3 := hide o3
        have F3 := hide f3
        clear o3 f3 pr
        refine hK'.out _ _ gg (fun hHeld => ?_)
        clear hK' K'
        simp only [List.setIfInBounds_toArray, List.set_cons_zero, List.set_cons_succ]
        refine wpAnyH_take (i := 8) (oi := { dst := some 61, op := Op.nilCheck (Operand.tmp 53), type := 0, pos := "law.go:115", after := #[{ on := 0, ground := Ground.data }, { on := 0, ground := Ground.phase }, { on := 1, ground := Ground.phase }, { on := 2, ground := Ground.phase }, { on := 3, ground := Ground.phase }, { on := 4, ground := Ground.phase }, { on := 5, ground := Ground.phase }, { on := 6, ground := Ground.phase }, { on := 7, ground := Ground.phase }], guard := none }) (v := ?_) rfl (by kernel_rfl) (by kernel_rfl) (by kernel_rfl) (fun _ _ _ h => h) (Or.inl ⟨by rfl, ?_⟩) (by assumption) ?_
        rotate_left
        · intro w hSw; (try dsimp only at hSw); go_simp; try with_reducible rfl
        simp only [Act.put, List.setIfInBounds_toArray, List.set_cons_zero, List.set_cons_succ]
        refine wpAnyH_take (i := 9) (oi := { dst := some 62, op := Op.fieldAddr 65 (Operand.tmp 61) 2, type := 0, pos := "law.go:115", after := #[{ on := 8, ground := Ground.data }, { on := 0, ground := Ground.phase }, { on := 1, ground := Ground.phase }, { on := 2, ground := Ground.phase }, { on := 3, ground := Ground.phase }, { on := 4, ground := Ground.phase }, { on := 5, ground := Ground.phase }, { on := 6, ground := Ground.phase }, { on := 7, ground := Ground.phase }], guard := none }) (v := ?_) rfl (by kernel_rfl) (by kernel_rfl) (by kernel_rfl) (fun _ _ _ h => h) (Or.inl ⟨by rfl, ?_⟩) (by assumption) ?_
        rotate_left
        · intro w hSw; (try dsimp only at hSw); go_simp; try with_reducible rfl
        simp only [Act.put, List.setIfInBounds_toArray, List.set_cons_zero, List.set_cons_succ]
        refine wpAnyH_ready (rs := [10]) (by kernel_rfl) (by simp) ?_
        refine AllReadyH.cons (o := { dst := none, op := Op.store 62 (Operand.tmp 62) (Operand.tmp 60), type := 0, pos := "law.go:115", after := #[{ on := 9, ground := Ground.data }, { on := 7, ground := Ground.data }, { on := 7, ground := Ground.chain }, { on := 0, ground := Ground.phase }, { on := 1, ground := Ground.phase }, { on := 2, ground := Ground.phase }, { on := 3, ground := Ground.phase }, { on := 4, ground := Ground.phase }, { on := 5, ground := Ground.phase }, { on := 6, ground := Ground.phase }, { on := 7, ground := Ground.phase }], guard := none }) rfl (fun K' hK' => ?_) AllReadyH.nil
        go_simp
        refine hK'.out _ _ ?_ (fun hHeld => ?_)
        · exact (Below.heap_setCell _ _ _ _ hXb).trans gg
        clear hK' K'
        try simp only [Act.put, List.setIfInBounds_toArray, List.set_cons_zero, List.set_cons_succ]
        refine wpAnyH_done (by kernel_rfl) ?_ _
        go_wp2
        go_end0
        exact ⟨rfl, unhide CLOSE _ (fin _ w3 (unhide O3) (unhide F3))⟩
end Go.Proofs.YtfmbebofllgmoaaGreatDoor
namespace Go.Proofs.YtfmbebofllgmoaaGreatDoor
open Go.RowKit

theorem ValsC.mono {w : World} {v : Value} {l : List Value} {P Q : Nat → Prop} (h : ValsC w v l P) (hp : ∀ q, P q → Q q) : ValsC w v l Q := by
  obtain ⟨a, c, hv, hc, hl⟩ := h
  exact ⟨a, c, hv, hc, hl.imp id fun ⟨q, off, e, hq, hcell⟩ => ⟨q, off, e, hp q hq, hcell⟩⟩
theorem ValsC.vals {w : World} {v : Value} {l : List Value} {P : Nat → Prop} (h : ValsC w v l P) : ValsIn w v l P := by
  obtain ⟨a, c, hv, _, hl⟩ := h
  exact ⟨a, c, hv, hl⟩
theorem IntsC.ints {w : World} {v : Value} {l : List Int} {P : Nat → Prop} (h : IntsC w v l P) : IntsIn w v l P := by
  obtain ⟨a, c, hv, _, hl⟩ := h
  refine ⟨a, c, by simpa using hv, hl.imp (by simp) fun ⟨q, off, e, hq, hcell⟩ => ⟨q, off, e, hq, fun i hi => ?_⟩⟩
  rw [hcell i (by simpa using hi)]
  simp [hi]

/-- A script's world, below a bound. -/
structure WorldC (w : World) (q0 q1 q2 q3 : Value) (lc : List Int) (bs : List (Value × List Int)) (lp ll : List Int) : Prop where
  c0 : IntsC w q0 lc (fun q => q < w.heap.size)
  c1 : ValsC w q1 (bs.map (·.1)) (fun q => q < w.heap.size)
  c2 : IntsC w q2 lp (fun q => q < w.heap.size)
  c3 : IntsC w q3 ll (fun q => q < w.heap.size)
  cb : ∀ b, b ∈ bs → IntsIn w b.1 b.2 (fun q => q < w.heap.size) ∧ b.2.length ≤ 100000000
  n0 : lc.length ≤ 4000000
  n1 : bs.length ≤ 4000000
  n2 : lp.length ≤ 4000000
  n3 : ll.length ≤ 4000000
theorem WorldC.below {w w' : World} {q0 q1 q2 q3 : Value} {lc lp ll : List Int} {bs : List (Value × List Int)} (h : WorldC w q0 q1 q2 q3 lc bs lp ll) (hb : Below w.heap.size w w') : WorldC w' q0 q1 q2 q3 lc bs lp ll := by
  have k : ∀ q, q < w.heap.size → w'.heap[q]? = w.heap[q]? := fun q hq => hb.block q hq
  have m : ∀ q, q < w.heap.size → q < w'.heap.size := fun q hq => Nat.lt_of_lt_of_le hq hb.size
  exact ⟨(ValsC.keep h.c0 k).mono m, (h.c1.keep k).mono m, (ValsC.keep h.c2 k).mono m, (ValsC.keep h.c3 k).mono m, fun b hb => ⟨intsIn_kept (h.cb b hb).1 k m, (h.cb b hb).2⟩, h.n0, h.n1, h.n2, h.n3⟩
theorem WorldC.bats {w : World} {q0 q1 q2 q3 : Value} {lc lp ll : List Int} {bs : List (Value × List Int)} (h : WorldC w q0 q1 q2 q3 lc bs lp ll) : BatsC w q1 (bs.map (·.2)) (fun q => q < w.heap.size) := by
  refine ⟨bs.map (·.1), h.c1, by simp, fun i u l hu hl => ?_⟩
  simp only [List.getElem?_map, Option.map_eq_some_iff] at hu hl
  obtain ⟨b, hb, rfl⟩ := hu
  obtain ⟨b', hb', rfl⟩ := hl
  rw [hb] at hb'
  cases hb'
  exact (h.cb b (List.mem_of_getElem? hb)).1

/-- The lent batches, with their values. -/
def bsOf (G : Nat → Nat) (ls : List (List Int)) : List (Value × List Int) := (List.range ls.length).map (fun i => (sN (G i) (ls.getD i []), ls.getD i []))
theorem bsOf_len (G : Nat → Nat) (ls : List (List Int)) : (bsOf G ls).length = ls.length := by simp [bsOf]
theorem bsOf_snd (G : Nat → Nat) (ls : List (List Int)) : (bsOf G ls).map (·.2) = ls := by
  apply List.ext_getElem
  · simp [bsOf]
  · intro i h1 h2
    simp [bsOf, h2]
theorem OwnN.ints {w : World} {g : Nat} {l : List Int} {P : Nat → Prop} (h : OwnN w g (l.length + 4) l) (hg : P g) : IntsIn w (sN g l) l P := by
  refine ⟨some ⟨g, 0, none⟩, l.length + 4, rfl, .inr ⟨g, 0, rfl, hg, fun i hi => ?_⟩⟩
  rw [Nat.zero_add, h.cells i (by omega)]
  simp [hi]
theorem OwnBt.vals {w : World} {g : Nat} {ls : List (List Int)} {G : Nat → Nat} {P : Nat → Prop} (h : OwnBt w g ls.length ls.length ls G) (hg : P g) : ValsIn w (.slice (some ⟨g, 0, none⟩) ls.length (ls.length + 4)) ((bsOf G ls).map (·.1)) P := by
  refine ⟨some ⟨g, 0, none⟩, ls.length + 4, by simp [bsOf], .inr ⟨g, 0, rfl, hg, fun i hi => ?_⟩⟩
  have hi' : i < ls.length := by simpa [bsOf] using hi
  rw [Nat.zero_add, h.heads i hi' hi']
  simp [bsOf, hi', sN]
theorem OwnBt.each {w : World} {g : Nat} {ls : List (List Int)} {G : Nat → Nat} {L : Nat → Prop} (h : OwnBt w g ls.length ls.length ls G) (hL : ∀ i, i < ls.length → L (G i)) (hn : ∀ l, l ∈ ls → l.length ≤ 100000000) : ∀ b, b ∈ bsOf G ls → IntsIn w b.1 b.2 L ∧ b.2.length ≤ 100000000 := by
  intro b hb
  simp only [bsOf, List.mem_map, List.mem_range] at hb
  obtain ⟨i, hi, rfl⟩ := hb
  refine ⟨(h.own i hi hi).ints (hL i hi), hn _ ?_⟩
  simp only [List.getD_eq_getElem?_getD, List.getElem?_eq_getElem hi, Option.getD_some]
  exact List.getElem_mem hi

section
variable (p : Pg) (f : Int) (lc : List Int) (bs : List (Value × List Int)) (lp ll : List Int) (x : Int)
/-- The log that Record answers, by the error. -/
def routS : ByteArray := if x = 0 then recLog (recM p f lc bs lp ll) else ⟨#[]⟩
/-- Its trace. -/
def routT : List O3 := if x = 0 then (recM p f lc bs lp ll).1.trace else []
/-- Its Final's numbers. -/
def routF : PS := if x = 0 then (recM p f lc bs lp ll).1 else { (recM p f lc bs lp ll).1 with fin := 0, reg := fun _ => 0, clock := 0, heard := 0 }
end
theorem RecPost.out {w w' : World} {p : Pg} {f : Int} {lc lp ll : List Int} {bs : List (Value × List Int)} {e : Ending} (h : RecPost w p f lc bs lp ll e w') :
    Fr (fun _ => False) w w' (fun _ => False) ∧ ∃ x, Ans p.tn p.fn (1 + p.tn + p.fn) (allL p.sn p.tn p.tl p.fl) (allF p.tn p.sf p.tf p.ff) x ∧ ∃ a c,
      e = .returned (.tuple #[.string (routS p f lc bs lp ll x), .slice a (routT p f lc bs lp ll x).length c, finV (routF p f lc bs lp ll x), .int .i64 x]) ∧ w'.ownsRow w.heap.size 72 3 (.slice a (routT p f lc bs lp ll x).length c) (routT p f lc bs lp ll x).length (flatE (routT p f lc bs lp ll x)) := by
  obtain ⟨hf, x, hx, ⟨h0, he⟩ | ⟨h0, vt, he, hr⟩⟩ := h
  · refine ⟨hf, x, hx, none, 0, ?_, ?_⟩
    · rw [he]; simp [routS, routT, routF, h0, finV]
    · simp only [routT, h0, if_false]
      exact World.ownsRow_nil _ _ _ _
  · subst h0
    obtain ⟨a, c, rfl⟩ := row_shape hr
    refine ⟨hf, 0, hx, a, c, ?_, ?_⟩
    · rw [he]; simp [routS, routT, routF]
    · simpa [routT] using hr
theorem routT_le {p : Pg} {f : Int} {lc lp ll : List Int} {bs : List (Value × List Int)} {x : Int} (hx : Ans p.tn p.fn (1 + p.tn + p.fn) (allL p.sn p.tn p.tl p.fl) (allF p.tn p.sf p.tf p.ff) x) : (routT p f lc bs lp ll x).length ≤ 5000 + 16 * (lc.length + 1) := by
  unfold routT
  split
  · next h => subst h; exact recM_trace (pgok_of_ans hx) f lc bs lp ll
  · simp
/-- The log of a Record, as Again knows it. -/
def LogOf (p : Pg) (f : Int) (lc : List Int) (ls : List (List Int)) (lp ll : List Int) (sg : ByteArray) : Prop :=
  (PgOk p → ∃ bs : List (Value × List Int), bs.map (·.2) = ls ∧ sg = recLog (recM p f lc bs lp ll)) ∧ (¬ PgOk p → sg = ⟨#[]⟩)
theorem logOf_rout {p : Pg} {f : Int} {lc lp ll : List Int} {bs : List (Value × List Int)} {x : Int} (hx : Ans p.tn p.fn (1 + p.tn + p.fn) (allL p.sn p.tn p.tl p.fl) (allF p.tn p.sf p.tf p.ff) x) : LogOf p f lc (bs.map (·.2)) lp ll (routS p f lc bs lp ll x) := by
  refine ⟨fun ok => ⟨bs, rfl, ?_⟩, fun h => ?_⟩
  · have : x = 0 := hx.one (ans_of_ok ok)
    subst this; simp [routS]
  · have : x ≠ 0 := fun e => h (by subst e; exact pgok_of_ans hx)
    simp [routS, this]
end Go.Proofs.YtfmbebofllgmoaaGreatDoor
namespace Go.Proofs.YtfmbebofllgmoaaGreatDoor
open Go.RowKit

theorem OwnOps.opsIn {w : World} {g n : Nat} {f : Nat → O3} (h : OwnOps w g (n + 4) (padF n f)) (hn : n * 24 ≤ 140737488351232) : OpsIn w (.slice (some ⟨g, 0, none⟩) n (n + 4)) n f := by
  refine ⟨_, _, rfl, hn, .inr ⟨g, 0, rfl, fun i hi => ?_⟩⟩
  have := h.cells i (by omega)
  rw [Nat.zero_add]
  simpa [padF, hi] using this
theorem OwnHands.handsIn {w : World} {g n : Nat} {ln : Nat → Nat} {f : Nat → Nat → O3} {G : Nat → Nat} (h : OwnHands w g n (n + 4) ln f G) (hn : n * 24 ≤ 140737488351232) (hl : ∀ i, i < n → ln i * 24 ≤ 140737488351232) :
    HandsIn w (.slice (some ⟨g, 0, none⟩) n (n + 4)) n ln f := by
  refine ⟨_, _, rfl, hn, .inr ⟨g, 0, rfl, fun i hi => ⟨_, ?_, (h.own i (by omega) hi).opsIn (hl i hi)⟩⟩⟩
  rw [Nat.zero_add]
  exact h.heads i (by omega) hi

end Go.Proofs.YtfmbebofllgmoaaGreatDoor
namespace Go.Proofs.YtfmbebofllgmoaaGreatDoor
open Go.RowKit
attribute [local go_sem ↓] Go.wp_at_zero Go.wp_at_succ

theorem OwnN.block {w w' : World} {g k : Nat} {l : List Int} (h : OwnN w g k l) (e : w'.heap[g]? = w.heap[g]?) : OwnN w' g k l :=
  ⟨fun i hi => by rw [World.cell?_of_block (w := w) (a := ⟨g, i, none⟩) e, World.frozen?_of_block (w := w) (a := ⟨g, i, none⟩) e]; exact h.there i hi, fun i hi => by rw [World.cell?_of_block (w := w) (a := ⟨g, i, none⟩) e]; exact h.cells i hi⟩
theorem OwnBt.block {w w' : World} {g n k : Nat} {ls : List (List Int)} {G : Nat → Nat} (h : OwnBt w g n k ls G) (e : w'.heap[g]? = w.heap[g]?) (eG : ∀ i, i < k → i < n → w'.heap[G i]? = w.heap[G i]?) (hz : w.heap.size ≤ w'.heap.size) : OwnBt w' g n k ls G :=
  ⟨fun i hi => by rw [World.cell?_of_block (w := w) (a := ⟨g, i, none⟩) e, World.frozen?_of_block (w := w) (a := ⟨g, i, none⟩) e]; exact h.there i hi, fun i hi hn => by rw [World.cell?_of_block (w := w) (a := ⟨g, i, none⟩) e]; exact h.heads i hi hn,
    fun i hi hn => ⟨(h.far i hi hn).1, Nat.lt_of_lt_of_le (h.far i hi hn).2 hz⟩, fun i hi hn => (h.own i hi hn).block (eG i hi hn)⟩
/-- The Book has one list of events more. -/
def EvKept (w w' : World) (B bb : Nat) (vI vN : Value) (LI LE LN : List Ent) : Prop :=
  ∃ n' vE' LE' K', BookK w' B bb n' vI vE' vN LI LE' LN K' ∧ LE'.length = LE.length + 1 ∧ Below B w w'
theorem KeptE.ev {w w7 w' : World} {B bb : Nat} {n : Int} {vI vE vN lv : Value} {LI LE LN : List Ent} {K : Nat → Prop} (h : KeptE w7 w' B bb n vI vE vN LI LE LN K lv) (hb : Below B w w7) (hbb : B ≤ bb) (hE : ∀ q, own vE q → B ≤ q) (hl : ∀ q, own lv q → B ≤ q) (hBw : B ≤ w7.heap.size) : EvKept w w' B bb vI vN LI LE LN := by
  obtain ⟨vX, e, K', h1, _, _, h4⟩ := h
  refine ⟨n, vX, _, K', h1, by simp, hb.trans (h4.below (fun k hk => ?_) hBw)⟩
  rcases hk with rfl | hk | hk | hk
  · exact hbb
  · exact hE k hk
  · exact hl k hk
  · omega

set_option maxHeartbeats 4000000 in
set_option maxRecDepth 20000 in
theorem recordL_any {w w0 : World} {bb : Nat} {n0 : Int} {vI vE vN : Value} {LI LE LN : List Ent} {K : Nat → Prop} (h : BookK w w0.heap.size bb n0 vI vE vN LI LE LN K) (hbb : w0.heap.size ≤ bb) (hbw : Below w0.heap.size w0 w) (ht : TabIn w0)
    {p1 p2 p3 : Value} {p : Pg} (hpg : PgAt w0 (pvOf p1 p2 p3 undef) p) {q0 q1 q2 q3 : Value} {lc lp ll : List Int} {bs : List (Value × List Int)} (hwo : WorldC w0 q0 q1 q2 q3 lc bs lp ll) (kd lg : Value) (f : Int) (hL : LE.length ≤ 900000000000) :
    Calls Tryz.prog 42 #[.pointer (some ⟨bb, 0, none⟩), .agg #[kd, p1, p2, p3, q0, q1, q2, q3, lg, .int .i64 f]] w fun e w' => ∃ sg, e = .returned (.tuple #[.string sg, .bool true]) ∧ LogOf p f lc (bs.map (·.2)) lp ll sg ∧ EvKept w w' w0.heap.size bb vI vN LI LE LN := by
  have i1 : OpsIn w0 p1 p.sn p.sf := hpg.s
  have i2 : HandsIn w0 p2 p.tn p.tl p.tf := hpg.t
  have i3 : HandsIn w0 p3 p.fn p.fl p.ff := hpg.f
  have n1 := opsIn_len i1
  have n2 := handsIn_len i2
  have n3 := handsIn_len i3
  have e2 := handsIn_each i2
  have e3 := handsIn_each i3
  obtain ⟨W0, hW⟩ : ∃ W0, W0 = w.alloc (.cells #[kd, p1, p2, p3, q0, q1, q2, q3, lg, .int .i64 f] 67) := ⟨_, rfl⟩
  have g0 : Below w.heap.size w W0 := by subst hW; exact (Below.refl _ _).alloc (Nat.le_refl _) _
  have s0 : W0.heap.size = w.heap.size + 1 := by subst hW; simp
  have b0 : W0.heap[w.heap.size]? = some (.cells #[kd, p1, p2, p3, q0, q1, q2, q3, lg, .int .i64 f] 67) := by subst hW; exact heap_alloc_new _ _
  have hsw : w0.heap.size ≤ w.heap.size := hbw.size
  have h00 : Below w0.heap.size w0 W0 := hbw.trans (g0.mono hsw)
  have H39 := hide (program_any p1 p2 p3 p.sn p.tn p.fn p.sf p.tl p.fl p.tf p.ff W0 (opsIn_below h00 i1) (handsIn_below h00 i2) (handsIn_below h00 i3))
  have hbkb : bb < w.heap.size := (Array.getElem?_eq_some_iff.1 h.bk.blk).1
  have hbkE : ∀ q, own vE q → w0.heap.size ≤ q ∧ q < w.heap.size := fun q hq => World.ownsRow.lt h.bk.rE q hq
  have HH := hide h
  have HPG := hide hpg
  have HWO := hide hwo
  have HT := hide ht
  have G0 := hide g0
  have H00 := hide h00
  have HBW := hide hbw
  have B0 := hide b0
  have HW := hide hW
  have I1 := hide i1
  have I2 := hide i2
  have I3 := hide i3
  have N1 := hide n1
  have N2 := hide n2
  have N3 := hide n3
  have E2 := hide e2
  have E3 := hide e3
  have HE := hide hbkE
  have HL := hide hL
  have HBB := hide hbb
  have e35 := eq35
  clear h hpg hwo ht g0 h00 hbw b0 hW i1 i2 i3 n1 n2 n3 e2 e3 hbkE hL hbb
  go_enter Tryz.func42, Tryz.ntmps42
  go_wp2_with fail
  rw [← unhide HW]
  go_at_call 39
  refine (unhide H39).mono ?_
  rintro e w1 ⟨g1, g2, g3, G2, G3, rfl, hb1, m1, m12, m23, mG, o1, o2, o3⟩
  have x1 := keepblk hb1 (unhide B0)
  have z1 : W0.heap.size ≤ w1.heap.size := hb1.size
  obtain ⟨W1, hW1⟩ : ∃ W1, W1 = w1.alloc (.cells #[.slice (some ⟨g1, 0, none⟩) p.sn (p.sn + 4), .slice (some ⟨g2, 0, none⟩) p.tn (p.tn + 4), .slice (some ⟨g3, 0, none⟩) p.fn (p.fn + 4)] 33) := ⟨_, rfl⟩
  have c1 : Below w1.heap.size w1 W1 := by subst hW1; exact (Below.refl _ _).alloc (Nat.le_refl _) _
  have s1 : W1.heap.size = w1.heap.size + 1 := by subst hW1; simp
  have y1 : W1.heap[w1.heap.size]? = some (.cells #[.slice (some ⟨g1, 0, none⟩) p.sn (p.sn + 4), .slice (some ⟨g2, 0, none⟩) p.tn (p.tn + 4), .slice (some ⟨g3, 0, none⟩) p.fn (p.fn + 4)] 33) := by subst hW1; exact heap_alloc_new _ _
  have d1 : Below W0.heap.size W0 W1 := hb1.trans (c1.mono z1)
  have h01 : Below w0.heap.size w0 W1 := (unhide H00).trans (d1.mono (by omega))
  have wc1 := (unhide HWO).below h01
  have l1 : g1 < w1.heap.size := opAt_lt (o1.cells 0 (by omega))
  have l2 : g2 < w1.heap.size := World.block_lt_of_cell? w1 ⟨g2, p.tn, none⟩ (o2.pads p.tn (by omega) (by omega))
  have l3 : g3 < w1.heap.size := World.block_lt_of_cell? w1 ⟨g3, p.fn, none⟩ (o3.pads p.fn (by omega) (by omega))
  have pg1 : PgAt W1 (pvOf (.slice (some ⟨g1, 0, none⟩) p.sn (p.sn + 4)) (.slice (some ⟨g2, 0, none⟩) p.tn (p.tn + 4)) (.slice (some ⟨g3, 0, none⟩) p.fn (p.fn + 4)) undef) p :=
    ⟨(o1.below c1 l1).opsIn (unhide N1), (o2.below c1 l2 (fun i hi => (o2.far i hi).2)).handsIn (unhide N2) (unhide E2), (o3.below c1 l3 (fun i hi => (o3.far i hi).2)).handsIn (unhide N3) (unhide E3)⟩
  obtain ⟨ls, hls⟩ : ∃ ls, ls = bs.map (·.2) := ⟨_, rfl⟩
  have hln : bs.length = ls.length := by rw [hls, List.length_map]
  have h71 := world_any (w := W1) (P := fun q => q < W1.heap.size) (fun _ h => h) wc1.c0.ints wc1.c1.vals wc1.c2.ints wc1.c3.ints (fun b hb => ⟨(wc1.cb b hb).1, by have := (wc1.cb b hb).2; omega⟩) (by have := wc1.n0; omega) (by have := wc1.n1; omega) (by have := wc1.n2; omega) (by have := wc1.n3; omega)
  rw [← hls, hln] at h71
  simp only [sN] at h71
  have H71 := hide h71
  have X1 := hide x1
  have Y1 := hide y1
  have C1 := hide c1
  have D1 := hide d1
  have H01 := hide h01
  have PG1 := hide pg1
  have HW1 := hide hW1
  have O1 := hide o1
  have O2 := hide o2
  have O3 := hide o3
  have HLS := hide hls
  have HLN := hide hln
  have MG := hide mG
  have HB1 := hide hb1
  have k1 := fun j => cell_of_row w1 w.heap.size j _ 67 (0, 0) x1
  have hlt1 : w.heap.size < w1.heap.size := by omega
  clear h71 x1 y1 c1 d1 h01 wc1 pg1 hW1 o1 o2 o3 hls hln mG hb1 H39 HW
  go_wp2_with fail
  rw [← unhide HW1]
  go_at_call 71
  refine (unhide H71).mono ?_
  rintro e w2 ⟨u0, ub, u2, u3, GB, rfl, hb2, v0, vb, v2, v3, on0, on2, on3, onb⟩
  have x2 := keepblk hb2 (keepblk (unhide C1) (unhide X1))
  have y2 := keepblk hb2 (unhide Y1)
  have z2 : W1.heap.size ≤ w2.heap.size := hb2.size
  obtain ⟨W2, hW2⟩ : ∃ W2, W2 = w2.alloc (.cells #[.slice (some ⟨u0, 0, none⟩) lc.length (lc.length + 4), .slice (some ⟨ub, 0, none⟩) ls.length (ls.length + 4), .slice (some ⟨u2, 0, none⟩) lp.length (lp.length + 4), .slice (some ⟨u3, 0, none⟩) ll.length (ll.length + 4)] 29) := ⟨_, rfl⟩
  have c2 : Below w2.heap.size w2 W2 := by subst hW2; exact (Below.refl _ _).alloc (Nat.le_refl _) _
  have s2 : W2.heap.size = w2.heap.size + 1 := by subst hW2; simp
  have y3 : W2.heap[w2.heap.size]? = some (.cells #[.slice (some ⟨u0, 0, none⟩) lc.length (lc.length + 4), .slice (some ⟨ub, 0, none⟩) ls.length (ls.length + 4), .slice (some ⟨u2, 0, none⟩) lp.length (lp.length + 4), .slice (some ⟨u3, 0, none⟩) ll.length (ll.length + 4)] 29) := by subst hW2; exact heap_alloc_new _ _
  have d2 : Below W1.heap.size W1 W2 := hb2.trans (c2.mono z2)
  have r0 : u0 < w2.heap.size := on0.lt (by omega)
  have r2 : u2 < w2.heap.size := on2.lt (by omega)
  have r3 : u3 < w2.heap.size := on3.lt (by omega)
  have rb : ub < w2.heap.size := (by obtain ⟨v, hv⟩ := Option.isSome_iff_exists.1 (onb.there 0 (by omega)).1; exact World.block_lt_of_cell? w2 _ hv)
  have p0 := on0.below c2 r0
  have p2' := on2.below c2 r2
  have p3' := on3.below c2 r3
  have pb := onb.below c2 rb (fun i hi hn => (onb.far i hi hn).2)
  have hWO := unhide HWO
  have hls := unhide HLS
  have hln := unhide HLN
  have hmem : ∀ l, l ∈ ls → l.length ≤ 100000000 := fun l hl => by
    rw [hls, List.mem_map] at hl
    obtain ⟨b, hb, rfl⟩ := hl
    exact (hWO.cb b hb).2
  have hbL := pb.each (L := fun q => W1.heap.size ≤ q ∧ q < W2.heap.size) (fun i hi => ⟨by have := (pb.far i hi hi).1; omega, (pb.far i hi hi).2⟩) hmem
  have hn0 := hWO.n0
  have hn1 := hWO.n1
  have hn2 := hWO.n2
  have hn3 := hWO.n3
  have h22 := record_any (w := W2) (w0 := W1) d2 (tabIn_below d2 (by omega) (tabIn_below (unhide H01) (tabIn_lt (unhide HT)) (unhide HT))) (unhide PG1) f (bs := bsOf GB ls) (L := fun q => W1.heap.size ≤ q ∧ q < W2.heap.size) (P := fun q => q < W2.heap.size) (fun _ h => h) (fun _ h => h)
    (p0.ints (P := fun q => q < W2.heap.size) (by omega)) (pb.vals (P := fun q => q < W2.heap.size) (by omega)) (p2'.ints (P := fun q => q < W2.heap.size) (by omega)) (p3'.ints (P := fun q => q < W2.heap.size) (by omega)) hbL hn0 (by rw [bsOf_len]; omega) hn2 hn3
  simp only [sN] at h22
  have H22 := hide h22
  have X2 := hide x2
  have Y2 := hide y2
  have Y3 := hide y3
  have C2 := hide c2
  have D2 := hide d2
  have P0 := hide p0
  have P2 := hide p2'
  have P3 := hide p3'
  have PB := hide pb
  have HBL := hide hbL
  have HW2 := hide hW2
  have k2 := fun j => cell_of_row w2 w.heap.size j _ 67 (0, 0) x2
  have j2 := fun j => cell_of_row w2 w1.heap.size j _ 33 (0, 0) y2
  have hlt2 : w.heap.size < w2.heap.size := by omega
  have hlt2' : w1.heap.size < w2.heap.size := by omega
  clear h22 x2 y2 y3 c2 d2 p0 p2' p3' pb hbL hW2 hmem hls hln hWO on0 on2 on3 onb hb2 H71 HW1 k1 hlt1
  go_wp2_with fail
  rw [← unhide HW2]
  go_at_call 22
  refine (unhide H22).mono ?_
  rintro e w3 hpost
  obtain ⟨f3, x, hx, a3, c3, rfl, r3⟩ := hpost.out
  obtain ⟨sg, hsg⟩ : ∃ sg, sg = routS p f lc (bsOf GB ls) lp ll x := ⟨_, rfl⟩
  obtain ⟨T, hT⟩ : ∃ T, T = routT p f lc (bsOf GB ls) lp ll x := ⟨_, rfl⟩
  obtain ⟨F, hF⟩ : ∃ F, F = routF p f lc (bsOf GB ls) lp ll x := ⟨_, rfl⟩
  have tle := routT_le (f := f) (lc := lc) (bs := bsOf GB ls) (lp := lp) (ll := ll) hx
  rw [← hT] at r3 tle
  have lof : LogOf p f lc (bs.map (·.2)) lp ll sg := by
    have := logOf_rout (f := f) (lc := lc) (bs := bsOf GB ls) (lp := lp) (ll := ll) hx
    rw [bsOf_snd, ← hsg, unhide HLS] at this
    exact this
  have hb3 : Below W2.heap.size W2 w3 := f3.below (fun k hk => hk.elim) (Nat.le_refl _)
  have x3 := keepblk hb3 (keepblk (unhide C2) (unhide X2))
  have y33 := keepblk hb3 (keepblk (unhide C2) (unhide Y2))
  have y34 := keepblk hb3 (unhide Y3)
  have z3 : W2.heap.size ≤ w3.heap.size := hb3.size
  obtain ⟨W3, hW3⟩ : ∃ W3, W3 = w3.alloc (.cells #[.int .i64 F.fin, .int .i64 (F.reg 0), .int .i64 (F.reg 1), .int .i64 (F.reg 2), .int .i64 (F.reg 3), .int .i64 F.clock, .int .i64 F.heard] 37) := ⟨_, rfl⟩
  have c3b : Below w3.heap.size w3 W3 := by subst hW3; exact (Below.refl _ _).alloc (Nat.le_refl _) _
  have s3 : W3.heap.size = w3.heap.size + 1 := by subst hW3; simp
  have y35 : W3.heap[w3.heap.size]? = some (.cells #[.int .i64 F.fin, .int .i64 (F.reg 0), .int .i64 (F.reg 1), .int .i64 (F.reg 2), .int .i64 (F.reg 3), .int .i64 F.clock, .int .i64 F.heard] 37) := by subst hW3; exact heap_alloc_new _ _
  have d3 : Below W2.heap.size W2 W3 := hb3.trans (c3b.mono z3)
  have h03 : Below w0.heap.size w0 W3 := (unhide H01).trans (((unhide D2).mono (by omega)).trans (d3.mono (by omega)))
  have wc3 := (unhide HWO).below h03
  have h72 := refRecord_any (w := W3) (p1 := p1) (p2 := p2) (p3 := p3) (p := p) ⟨opsIn_below h03 (unhide I1), handsIn_below h03 (unhide I2), handsIn_below h03 (unhide I3)⟩ f (bs := bsOf GB ls) wc3.c0 (by rw [bsOf_snd, unhide HLS]; exact wc3.bats) wc3.c2 wc3.c3 (fun b hb => (unhide HBL b hb).2) hn0 (by rw [bsOf_len]; have := unhide HLN; omega) hn2 hn3
  have H72 := hide h72
  have X3 := hide x3
  have Y33 := hide y33
  have Y34 := hide y34
  have Y35 := hide y35
  have C3 := hide c3b
  have D3 := hide d3
  have R3 := hide r3
  have TLE := hide tle
  have LOF := hide lof
  have HX := hide hx
  have HSG := hide hsg
  have HTT := hide hT
  have HFF := hide hF
  have HW3 := hide hW3
  have k3 := fun j => cell_of_row w3 w.heap.size j _ 67 (0, 0) x3
  have hlt3 : w.heap.size < w3.heap.size := by omega
  rw [← hsg, ← hT, ← hF]
  simp only [finV]
  clear h72 x3 y33 y34 y35 c3b d3 h03 wc3 r3 tle lof hx hsg hT hF hW3 hb3 f3 hpost H22 HW2 k2 j2 hlt2 hlt2'
  go_wp2_with fail
  rw [← unhide HW3]
  go_at_call 72
  refine (unhide H72).mono ?_
  rintro e w4 hpost
  obtain ⟨f4, x', hx', a4, c4, rfl, r4⟩ := hpost.out
  obtain rfl : x = x' := (unhide HX).one hx'
  rw [← unhide HTT] at r4
  have hb4 : Below W3.heap.size W3 w4 := f4.below (fun k hk => hk.elim) (Nat.le_refl _)
  have z4 : W3.heap.size ≤ w4.heap.size := hb4.size
  have x4 := keepblk hb4 (keepblk (unhide C3) (unhide X3))
  have y43 := keepblk hb4 (keepblk (unhide C3) (unhide Y33))
  have y44 := keepblk hb4 (keepblk (unhide C3) (unhide Y34))
  have y45 := keepblk hb4 (unhide Y35)
  obtain ⟨W4, hW4⟩ : ∃ W4, W4 = w4.alloc (.cells #[.int .i64 F.fin, .int .i64 (F.reg 0), .int .i64 (F.reg 1), .int .i64 (F.reg 2), .int .i64 (F.reg 3), .int .i64 F.clock, .int .i64 F.heard] 37) := ⟨_, rfl⟩
  have c4b : Below w4.heap.size w4 W4 := by subst hW4; exact (Below.refl _ _).alloc (Nat.le_refl _) _
  have s4 : W4.heap.size = w4.heap.size + 1 := by subst hW4; simp
  have y46 : W4.heap[w4.heap.size]? = some (.cells #[.int .i64 F.fin, .int .i64 (F.reg 0), .int .i64 (F.reg 1), .int .i64 (F.reg 2), .int .i64 (F.reg 3), .int .i64 F.clock, .int .i64 F.heard] 37) := by subst hW4; exact heap_alloc_new _ _
  have d4 : Below W3.heap.size W3 W4 := hb4.trans (c4b.mono z4)
  have d24 : Below W2.heap.size W2 W4 := (unhide D3).trans (d4.mono (by omega))
  have d14 : Below w1.heap.size w1 W4 := (unhide C1).trans (((unhide D2).mono (by omega)).trans (d24.mono (by omega)))
  have d04 : Below W0.heap.size W0 W4 := (unhide D1).trans (((unhide D2).mono (by omega)).trans (d24.mono (by omega)))
  have h04 : Below w0.heap.size w0 W4 := (unhide H00).trans (d04.mono (by omega))
  have l1 : g1 < w1.heap.size := opAt_lt ((unhide O1).cells 0 (by omega))
  have h40 := stillW_any W0.heap.size w1.heap.size p1 p2 p3 g1 g2 g3 p.sn p.tn p.fn p.sf p.tl p.fl G2 G3 p.tf p.ff W4 (opsIn_below h04 (unhide I1)) (handsIn_below h04 (unhide I2)) (handsIn_below h04 (unhide I3))
    ((unhide O1).below d14 l1) ((unhide O2).below d14 l2 (fun i hi => ((unhide O2).far i hi).2)) ((unhide O3).below d14 l3 (fun i hi => ((unhide O3).far i hi).2)) m1 m12 m23 (unhide MG) (fun i hi => ((unhide O3).far i hi).2)
  have H40 := hide h40
  have X4 := hide x4
  have Y43 := hide y43
  have Y44 := hide y44
  have Y45 := hide y45
  have Y46 := hide y46
  have C4 := hide c4b
  have D4 := hide d4
  have D24 := hide d24
  have D04 := hide d04
  have R4 := hide r4
  have HW4 := hide hW4
  have k4 := fun j => cell_of_row w4 w.heap.size j _ 67 (0, 0) x4
  have j4 := fun j => cell_of_row w4 w1.heap.size j _ 33 (0, 0) y43
  have hlt4 : w.heap.size < w4.heap.size := by omega
  have hlt4' : w1.heap.size < w4.heap.size := by omega
  rw [← unhide HSG, ← unhide HTT, ← unhide HFF]
  simp only [finV]
  clear h40 x4 y43 y44 y45 y46 c4b d4 d24 d14 d04 h04 r4 hW4 hb4 f4 hpost hx' H72 HW3 k3 hlt3 HSG HTT HFF HX
  go_wp2_with fail
  rw [← unhide HW4]
  go_at_call 40
  refine (unhide H40).mono ?_
  rintro e w5 ⟨rfl, hb5, far5⟩
  have z5 : W4.heap.size ≤ w5.heap.size := hb5.size
  have x5 := (hb5.block _ (show w.heap.size < W0.heap.size by omega)).trans (keepblk (unhide C4) (unhide X4))
  have y54 := (far5 w2.heap.size (by omega) (by omega)).trans (keepblk (unhide C4) (unhide Y44))
  have y55 := (far5 w3.heap.size (by omega) (by omega)).trans (keepblk (unhide C4) (unhide Y45))
  have y56 := (far5 w4.heap.size (by omega) (by omega)).trans (unhide Y46)
  have d05 : Below W0.heap.size W0 w5 := (unhide D04).trans hb5
  have h05 : Below w0.heap.size w0 w5 := (unhide H00).trans (d05.mono (by omega))
  have wc5 := (unhide HWO).below h05
  have q0' := ((unhide P0).below (unhide D24) (by omega)).block (far5 u0 (by omega) (by omega))
  have q2' := ((unhide P2).below (unhide D24) (by omega)).block (far5 u2 (by omega) (by omega))
  have q3' := ((unhide P3).below (unhide D24) (by omega)).block (far5 u3 (by omega) (by omega))
  have hpb := (unhide PB).below (unhide D24) (by omega) (fun i hi hn => ((unhide PB).far i hi hn).2)
  have qb' := hpb.block (far5 ub (by omega) (by omega)) (fun i hi hn => far5 (GB i) (by have := (hpb.far i hi hn).1; omega) (hpb.far i hi hn).2) z5
  have h73 := stays_any (w := w5) (P := fun q => q < w5.heap.size) (fun _ h => h) wc5.c0.ints wc5.c1.vals wc5.c2.ints wc5.c3.ints (fun b hb => ⟨(wc5.cb b hb).1, by have := (wc5.cb b hb).2; omega⟩) (by omega) (by omega) (by omega) (by omega) q0' q2' q3' (by rw [← unhide HLS, unhide HLN]; exact qb')
  rw [unhide HLN] at h73
  simp only [sN] at h73
  have H73 := hide h73
  have X5 := hide x5
  have Y54 := hide y54
  have Y55 := hide y55
  have Y56 := hide y56
  have D05 := hide d05
  have FAR5 := hide far5
  have k5 := fun j => cell_of_row w5 w.heap.size j _ 67 (0, 0) x5
  have j5 := fun j => cell_of_row w5 w2.heap.size j _ 29 (0, 0) y54
  clear h73 x5 y54 y55 y56 d05 h05 wc5 q0' q2' q3' hpb qb' hb5 far5 H40 HW4 k4 j4 hlt4 hlt4'
  go_wp2_with fail
  go_at_call 73
  refine (unhide H73).mono ?_
  rintro e w6 ⟨rfl, hb6⟩
  have z6 : w5.heap.size ≤ w6.heap.size := hb6.size
  have blk3 : ∀ q, W2.heap.size ≤ q → q < w3.heap.size → w6.heap[q]? = w3.heap[q]? := fun q h1 h2 =>
    (hb6.block q (by omega)).trans ((unhide FAR5 q (by omega) (by omega)).trans (((unhide D4).block q (by omega)).trans ((unhide C3).block q h2)))
  have blk4 : ∀ q, W3.heap.size ≤ q → q < w4.heap.size → w6.heap[q]? = w4.heap[q]? := fun q h1 h2 =>
    (hb6.block q (by omega)).trans ((unhide FAR5 q (by omega) (by omega)).trans ((unhide C4).block q h2))
  have r36 := ownsRow_of_block (unhide R3) (fun q hq => blk3 q (World.ownsRow.lt (unhide R3) q hq).1 (World.ownsRow.lt (unhide R3) q hq).2)
  have r46 := ownsRow_of_block (unhide R4) (fun q hq => blk4 q (World.ownsRow.lt (unhide R4) q hq).1 (World.ownsRow.lt (unhide R4) q hq).2)
  have tle := unhide TLE
  have h74 := sameEventsL_any T.length _ _ (fun i => T.getD i (0, 0, 0)) w6 (row_ops' r36 (by omega)) (row_ops' r46 (by omega))
  have H74 := hide h74
  have R36 := hide r36
  have HB6 := hide hb6
  clear h74 r36 r46 hb6 tle blk3 blk4 H73 k5 j5
  go_wp2_with fail
  go_at_call 74
  refine (unhide H74).mono ?_
  rintro e w7 ⟨rfl, hd7⟩
  have hb7 : Below w6.heap.size w6 w7 := hd7.below _
  have hb67 : Below w5.heap.size w5 w7 := (unhide HB6).trans (hb7.mono z6)
  have hz7 : w7.heap.size = w6.heap.size := by obtain ⟨m, rfl⟩ := hd7; simp
  have d07 : Below W0.heap.size W0 w7 := (unhide D05).trans (hb67.mono (by omega))
  have hw7 : Below w.heap.size w w7 := (unhide G0).trans (d07.mono (by omega))
  have r37 := ownsRow_of_block (unhide R36) (fun q hq => hb7.block q (World.ownsRow.lt (unhide R36) q hq).2)
  have r3q : ∀ q, own (.slice a3 T.length c3) q → W2.heap.size ≤ q ∧ q < w3.heap.size := fun q hq => World.ownsRow.lt (unhide R3) q hq
  have y75 := keepblk hb67 (unhide Y55)
  have y76 := keepblk hb67 (unhide Y56)
  have tle := unhide TLE
  have h75 := keepEvents_any ((unhide HH).fr (Fr.of_below hw7)) (Nat.le_trans hsw hw7.size) (rowLow r37 (by omega)) (fun q hq hk => by
    have h1 := (r3q q hq).1
    have h2 := ((unhide HH).apart q hk).1
    omega) (by omega) (unhide HL)
  have H75 := hide h75
  have Y75 := hide y75
  have Y76 := hide y76
  have HW7 := hide hw7
  have R3Q := hide r3q
  clear h75 y75 y76 hw7 r3q r37 d07 hb67 hb7 hd7 tle H74
  go_wp2_with fail
  go_at_call 75
  refine (unhide H75).mono ?_
  rintro e w8 ⟨rfl, hk8⟩
  have nin : ∀ q, w3.heap.size ≤ q → q < w7.heap.size → ¬ (q = bb ∨ own vE q ∨ own (.slice a3 T.length c3) q ∨ w7.heap.size ≤ q) := fun q h1 h2 hq => by
    rcases hq with h | h | h | h
    · omega
    · have := (unhide HE q h).2; omega
    · have := (unhide R3Q q h).2; omega
    · omega
  have hev := hk8.ev ((unhide HW7).mono hsw) (unhide HBB) (fun q hq => (unhide HE q hq).1) (fun q hq => by have := (unhide R3Q q hq).1; omega) (by have := (unhide HW7).size; omega)
  obtain ⟨_, _, _, _, _, _, fr8⟩ := hk8
  have y85 := (fr8.same w3.heap.size (by omega) (nin _ (by omega) (by omega))).trans (unhide Y75)
  have y86 := (fr8.same w4.heap.size (by omega) (nin _ (by omega) (by omega))).trans (unhide Y76)
  have k8 := fun j => cell_of_row w8 w3.heap.size j _ 37 (0, 0) y85
  have j8 := fun j => cell_of_row w8 w4.heap.size j _ 37 (0, 0) y86
  have HEV := hide hev
  clear hev y85 y86 nin fr8 H75
  go_wp2
  exact bodyPost_ret (v := .tuple #[.string sg, .bool true]) (by simp [results, Tryz.results42, go_sem]) rfl ⟨sg, rfl, unhide LOF, unhide HEV⟩
end Go.Proofs.YtfmbebofllgmoaaGreatDoor
namespace Go.Proofs.YtfmbebofllgmoaaGreatDoor
open Go.RowKit
attribute [local go_sem ↓] Go.wp_at_zero Go.wp_at_succ

theorem EvKept.below {w w1 w' : World} {B bb : Nat} {vI vN : Value} {LI LE LN : List Ent} (h : EvKept w1 w' B bb vI vN LI LE LN) (hb : Below B w w1) : EvKept w w' B bb vI vN LI LE LN := by
  obtain ⟨n', vE', LE', K', h1, h2, h3⟩ := h
  exact ⟨n', vE', LE', K', h1, h2, hb.trans h3⟩
set_option maxHeartbeats 1000000 in
theorem plays_record {w w0 : World} {bb : Nat} {n0 : Int} {vI vE vN : Value} {LI LE LN : List Ent} {K : Nat → Prop} (h : BookK w w0.heap.size bb n0 vI vE vN LI LE LN K) (hbb : w0.heap.size ≤ bb) (hbw : Below w0.heap.size w0 w) (ht : TabIn w0)
    {p1 p2 p3 : Value} {p : Pg} (hpg : PgAt w0 (pvOf p1 p2 p3 undef) p) {q0 q1 q2 q3 : Value} {lc lp ll : List Int} {bs : List (Value × List Int)} (hwo : WorldC w0 q0 q1 q2 q3 lc bs lp ll) (lg : Value) (f : Int) (hL : LE.length ≤ 900000000000) :
    Calls Tryz.prog 23 #[.pointer (some ⟨bb, 0, none⟩), .agg #[.int .i64 2, p1, p2, p3, q0, q1, q2, q3, lg, .int .i64 f]] w fun e w' => e = .returned (.bool true) ∧ EvKept w w' w0.heap.size bb vI vN LI LE LN := by
  obtain ⟨W0, hW⟩ : ∃ W0, W0 = w.alloc (.cells #[.int .i64 2, p1, p2, p3, q0, q1, q2, q3, lg, .int .i64 f] 67) := ⟨_, rfl⟩
  have f0 : Fr (fun _ => False) w W0 (fun _ => False) := by subst hW; exact (Fr.refl _ _).alloc _
  have b0 : Below w0.heap.size w W0 := f0.below (fun k hk => hk.elim) hbw.size
  have H42 := hide (recordL_any (h.fr f0) hbb (hbw.trans b0) ht hpg hwo (.int .i64 2) lg f hL)
  have B0 := hide b0
  have HW := hide hW
  clear h hbw ht hpg hwo b0 hW f0
  go_enter Tryz.func23, Tryz.ntmps23
  go_wp2_with fail
  rw [← unhide HW]
  go_at_call 42
  refine (unhide H42).mono ?_
  rintro e w1 ⟨sg, rfl, _, hev⟩
  have HEV := hide (hev.below (unhide B0))
  clear hev H42 HW
  go_wp2
  go_ret
  exact ⟨by simp, unhide HEV⟩
end Go.Proofs.YtfmbebofllgmoaaGreatDoor
namespace Go.Proofs.YtfmbebofllgmoaaGreatDoor
open Go.ChangeShapes Go.WideShapes Go.ChangeAt Go.RowKit Go.Deep

theorem cells72 : Tryz.prog.cellsOf 70 = 3 := by kernel_rfl
theorem cells31 : Tryz.prog.cellsOf 31 = 1 := by kernel_rfl
theorem cells32 : Tryz.prog.cellsOf 25 = 1 := by kernel_rfl
theorem cells34 : Tryz.prog.cellsOf 33 = 3 := by kernel_rfl
theorem cells35 : Tryz.prog.cellsOf 26 = 1 := by kernel_rfl
theorem cells36 : Tryz.prog.cellsOf 27 = 1 := by kernel_rfl
theorem cells38 : Tryz.prog.cellsOf 29 = 4 := by kernel_rfl
theorem cells40 : Tryz.prog.cellsOf 67 = 10 := by kernel_rfl
theorem cells3 : Tryz.prog.cellsOf 3 = 1 := by kernel_rfl
theorem cells9 : Tryz.prog.cellsOf 9 = 1 := by kernel_rfl
theorem bytes72 : Tryz.prog.bytesOf 70 = 24 := by kernel_rfl
theorem bytes31 : Tryz.prog.bytesOf 31 = 24 := by kernel_rfl
/-- Every part of a datum is within the form's own reach. -/
def Wt {H : Type} (t : TypeId) (d : DataW H) : Prop := ∀ n ∈ d.weights Tryz.prog t, n ≤ reachBytes

section
variable {H : Type} {enc : TypeId × Value → H} {w : World} {spare : Nat → Bool} {held : Bool}

theorem weightsAll_mem {e : TypeId} {d : DataW H} : ∀ {l : List (DataW H)}, d ∈ l → ∀ n ∈ d.weights Tryz.prog e, n ∈ DataW.weightsAll Tryz.prog e l
  | x :: r, h, n, hn => by
    rw [DataW.weightsAll, List.mem_append]
    rcases List.mem_cons.1 h with rfl | h
    · exact .inl hn
    · exact .inr (weightsAll_mem h n hn)

theorem Wt.len {t e : TypeId} {elems sp : List (DataW H)} (h : Wt t (.slice elems sp)) (hu : Tryz.prog.underlying t = some (.slice e)) : (elems.length + sp.length) * Tryz.prog.bytesOf e ≤ reachBytes :=
  h _ (by simp [DataW.weights, hu])
theorem Wt.elem {t e : TypeId} {elems sp : List (DataW H)} (h : Wt t (.slice elems sp)) (hu : Tryz.prog.underlying t = some (.slice e)) {d : DataW H} (hd : d ∈ elems) : Wt e d := fun n hn =>
  h n (by simp only [DataW.weights, hu, List.mem_cons, List.mem_append]; exact .inr (.inl (weightsAll_mem hd n hn)))
theorem Wt.field {t : TypeId} {fs : Array Field} {parts : List (DataW H)} (h : Wt t (.agg parts)) (hu : Tryz.prog.underlying t = some (.struct fs)) {j : Nat} {tj : TypeId} {d : DataW H} (hj : (fs.toList.map (·.type))[j]? = some tj) (hd : parts[j]? = some d) : Wt tj d := fun n hn =>
  h n (by simp only [DataW.weights, hu]; exact DataW.weights_mem_each hj hd n hn)

theorem addr_of {a : Addr} {n : Nat} {cs : List Value} (h : w.cells? 0 (a.add 0) n = some cs) (hn : 0 < n) : ∃ b off, a = ⟨b, off, none⟩ := by
  obtain ⟨_, hl, hc⟩ := World.cells?_some h
  obtain ⟨b, off, spot⟩ := a
  have h0 := hc 0 hn
  rw [List.getElem?_eq_getElem (by omega)] at h0
  have hspot : spot = none := by simpa [Addr.add] using World.cell?_spot h0
  subst hspot
  exact ⟨b, off, rfl⟩

/-- An operation in memory. -/
theorem down_op {fuel : Nat} {cs : List Value} {x : DataW H × List MemPlace} (h : DataW.trod enc Tryz.prog w 0 spare held fuel 70 cs = some x) : ∃ o : O3, cs = [.int .i64 o.1, .int .i64 o.2.1, .int .i64 o.2.2] := by
  obtain ⟨y0, y1, y2, n, rfl, hl, h0, h1, h2⟩ := trod_struct3 Tryz.underlying70 h
  rw [cells72] at hl
  simp only [cells3] at h0 h1 h2
  match cs, hl with
  | [c0, c1, c2], _ =>
    obtain ⟨a, e0, _, _⟩ := DataW.trod_int Tryz.underlying3 h0
    obtain ⟨b, e1, _, _⟩ := DataW.trod_int Tryz.underlying3 h1
    obtain ⟨c, e2, _, _⟩ := DataW.trod_int Tryz.underlying3 h2
    simp at e0 e1 e2
    subst e0 e1 e2
    exact ⟨(a, b, c), rfl⟩

/-- A handler in memory. -/
theorem down_ops {fuel : Nat} {cs : List Value} {x : DataW H × List MemPlace} (h : DataW.trod enc Tryz.prog w 0 spare held fuel 31 cs = some x) (hw : Wt 31 x.1) : ∃ v n f, cs = [v] ∧ OpsIn w v n f := by
  rcases open_slice Tryz.underlying31 h with ⟨rfl, rfl⟩ | ⟨a, len, cap, m, n, D, Pl, rfl, _, hlc, _, hm, rfl, hx⟩
  · exact ⟨_, 0, fun _ => (0, 0, 0), rfl, none, 0, rfl, by omega, .inl rfl⟩
  have hml : len ≤ m := by rw [hm]; split <;> omega
  have hb := hw.len Tryz.underlying31
  rw [bytes72, List.length_map, List.length_range] at hb
  have hb' : len * 24 ≤ 140737488351232 := Nat.le_trans (Nat.mul_le_mul_right 24 (Nat.le_add_right _ _)) hb
  rw [cells72] at hx
  have hall : ∀ i, i < len → ∃ o : O3, w.cells? 0 (a.add (i * 3)) 3 = some [.int .i64 o.1, .int .i64 o.2.1, .int .i64 o.2.2] := by
    intro i hi
    obtain ⟨cs', h1, h2⟩ := hx i (by omega)
    obtain ⟨o, rfl⟩ := down_op h2
    exact ⟨o, h1⟩
  obtain ⟨f, hf⟩ := choose_lt (α := O3) hall
  refine ⟨_, len, f, rfl, some a, cap, rfl, hb', ?_⟩
  by_cases h0 : len = 0
  · exact .inl h0
  right
  obtain ⟨b, off, rfl⟩ := addr_of (hf 0 (by omega)) (by omega)
  refine ⟨b, off, rfl, fun i hi => ?_⟩
  obtain ⟨_, _, hc⟩ := World.cells?_some (hf i hi)
  rw [Go.WideShapes.add_plain] at hc
  have g0 := hc 0 (by omega)
  have g1 := hc 1 (by omega)
  have g2 := hc 2 (by omega)
  rw [Go.WideShapes.add_plain] at g0 g1 g2
  exact ⟨by simpa using g0, by simpa using g1, by simpa using g2⟩

/-- A list of handlers in memory. -/
theorem down_hands {fuel : Nat} {cs : List Value} {x : DataW H × List MemPlace} (h : DataW.trod enc Tryz.prog w 0 spare held fuel 25 cs = some x) (hw : Wt 25 x.1) : ∃ v n l f, cs = [v] ∧ HandsIn w v n l f := by
  rcases open_slice1 Tryz.underlying25 cells31 h with ⟨rfl, rfl⟩ | ⟨a, len, cap, m, n, V, D, Pl, rfl, _, hlc, _, hm, rfl, hx⟩
  · exact ⟨_, 0, fun _ => 0, fun _ _ => (0, 0, 0), rfl, none, 0, rfl, by omega, .inl rfl⟩
  have hml : len ≤ m := by rw [hm]; split <;> omega
  have hb := hw.len Tryz.underlying25
  rw [bytes31, List.length_map, List.length_range] at hb
  have hb' : len * 24 ≤ 140737488351232 := Nat.le_trans (Nat.mul_le_mul_right 24 (Nat.le_add_right _ _)) hb
  have hall : ∀ i, i < len → ∃ p : Nat × (Nat → O3), OpsIn w (V i) p.1 p.2 := by
    intro i hi
    obtain ⟨_, h2⟩ := hx i (by omega)
    have hwi : Wt 31 (D i) := hw.elem Tryz.underlying25 (List.mem_map.2 ⟨i, List.mem_range.2 hi, rfl⟩)
    obtain ⟨v, k, f, e, ho⟩ := down_ops h2 hwi
    simp only [List.cons.injEq, and_true] at e
    subst e
    exact ⟨(k, f), ho⟩
  obtain ⟨p, hp⟩ := choose_lt (α := Nat × (Nat → O3)) hall
  refine ⟨_, len, fun i => (p i).1, fun i => (p i).2, rfl, some a, cap, rfl, hb', ?_⟩
  by_cases h0 : len = 0
  · exact .inl h0
  right
  obtain ⟨b, off, spot⟩ := a
  have hspot : spot = none := by simpa [Addr.add] using World.cell?_spot (hx 0 (by omega)).1
  subst hspot
  refine ⟨b, off, rfl, fun i hi => ⟨V i, ?_, hp i hi⟩⟩
  rw [← Go.WideShapes.add_plain]
  exact (hx i (by omega)).1

theorem list10 : ∀ {cs : List Value}, cs.length = 10 → ∃ k0 k1 k2 k3 k4 k5 k6 k7 k8 k9, cs = [k0, k1, k2, k3, k4, k5, k6, k7, k8, k9]
  | k0 :: k1 :: k2 :: k3 :: k4 :: k5 :: k6 :: k7 :: k8 :: k9 :: r, h => by
    have : r = [] := List.eq_nil_of_length_eq_zero (by simpa using h)
    subst this
    exact ⟨k0, k1, k2, k3, k4, k5, k6, k7, k8, k9, rfl⟩
theorem list5 {α : Type} : ∀ {cs : List α}, cs.length = 5 → ∃ k0 k1 k2 k3 k4, cs = [k0, k1, k2, k3, k4]
  | k0 :: k1 :: k2 :: k3 :: k4 :: r, h => by
    have : r = [] := List.eq_nil_of_length_eq_zero (by simpa using h)
    subst this
    exact ⟨k0, k1, k2, k3, k4, rfl⟩

end
end Go.Proofs.YtfmbebofllgmoaaGreatDoor
namespace Go.Proofs.YtfmbebofllgmoaaGreatDoor
open Go.ChangeShapes Go.WideShapes Go.ChangeAt Go.RowKit Go.Deep

theorem kc26 : Tryz.prog.cellsOf 26 = 1 := by kernel_rfl
theorem kc3 : Tryz.prog.cellsOf 3 = 1 := by kernel_rfl
section
variable {H : Type} {w : World}

theorem kaddr_of {a : Addr} {n : Nat} {cs : List Value} (h : w.cells? 0 (a.add 0) n = some cs) (hn : 0 < n) : ∃ b off, a = ⟨b, off, none⟩ := by
  obtain ⟨_, hl, hc⟩ := World.cells?_some h
  obtain ⟨b, off, spot⟩ := a
  have h0 := hc 0 hn
  rw [List.getElem?_eq_getElem (by omega)] at h0
  have hspot : spot = none := by simpa [Addr.add] using World.cell?_spot h0
  subst hspot
  exact ⟨b, off, rfl⟩

end

theorem blk_one {H : Type} (d : DataW H) : 1 ≤ Rows.uptoBulk d := by
  cases d with
  | lit l => cases l <;> simp [Rows.uptoBulk]
  | nil => simp [Rows.uptoBulk]
  | ptr d => simp [Rows.uptoBulk]
  | slice elems spare => simp [Rows.uptoBulk]
  | agg parts => simp [Rows.uptoBulk]
  | iface t d => simp [Rows.uptoBulk]
  | map entries => simp [Rows.uptoBulk]
  | held h => simp [Rows.uptoBulk]
theorem blk_part {H : Type} {d : DataW H} {l : List (DataW H)} (h : d ∈ l) : Rows.uptoBulk d ≤ Rows.uptoBulkAll l := by
  induction l with
  | nil => cases h
  | cons x r ih =>
    simp only [Rows.uptoBulkAll]
    cases List.mem_cons.1 h with
    | inl e => subst e; omega
    | inr e => have := ih e; omega
theorem blk_length {H : Type} (l : List (DataW H)) : l.length ≤ Rows.uptoBulkAll l := by
  induction l with
  | nil => simp [Rows.uptoBulkAll]
  | cons x r ih => have := blk_one x; simp only [Rows.uptoBulkAll, List.length_cons]; omega
theorem blk_slice {H : Type} (elems spare : List (DataW H)) : elems.length + spare.length + 1 ≤ Rows.uptoBulk (.slice elems spare) := by
  have h1 := blk_length elems
  have h2 := blk_length spare
  simp only [Rows.uptoBulk]
  omega

section
variable {H : Type} {enc : TypeId × Value → H} {w : World} {spare : Nat → Bool} {held : Bool}

end
theorem kown : ownKnob Tryz.prog.godebug = none := by kernel_rfl
theorem kTab : Tryz.prog.globalNamed "rerun/check.meanings" = some 0 := by kernel_rfl
theorem kTabType : (Tryz.prog.globals[0]?).map (·.type) = some 165 := by kernel_rfl
theorem kc164 : Tryz.prog.cellsOf 164 = 2 := by kernel_rfl

/-- What the row's list gives: the table's cells hold its numbers. -/
theorem ktab_in {W : World} (h : laidMet Tryz.prog [("rerun/check.meanings", Rows.laid_rerun_check_meanings)] W) : TabIn W := by
  obtain ⟨ps, ⟨g', t', cs, fuel, p, q, hg', ht', hvar, hd, _, _⟩, _⟩ := h
  obtain rfl := Option.some.inj (kTab.symm.trans hg')
  obtain rfl := Option.some.inj (kTabType.symm.trans ht')
  obtain ⟨xs, m, _, hx, _, hl, hi⟩ := DataW.trod_array Tryz.underlying165 hd
  have hx1 : Rows.laid_rerun_check_meanings = .agg (xs.map (·.1)) := (Prod.mk.inj hx).1
  have hx2 : xs.map (·.1) = _ := (DataW.agg.inj hx1).symm
  have entry : ∀ (i : Nat) (a b : Int), i < 12 → (xs.map (·.1))[i]? = some (.agg [.lit (.int .i64 a), .lit (.int .i64 b)]) → W.cell? ⟨0, i * 2, none⟩ = some (.int .i64 a) ∧ W.cell? ⟨0, i * 2 + 1, none⟩ = some (.int .i64 b) := by
    intro i a b hlt he
    have hi' := hi i hlt
    rw [kc164] at hi'
    obtain ⟨x, hxi⟩ : ∃ x, xs[i]? = some x := ⟨_, List.getElem?_eq_getElem (by omega)⟩
    rw [hxi] at hi'
    rw [List.getElem?_map, hxi] at he
    simp only [Option.map_some, Option.some.injEq] at he
    obtain ⟨y0, y1, n, hy, _, h0, h1⟩ := trod_struct2 Tryz.underlying164 hi'
    rw [hy] at he
    simp only [kc3] at h0 h1
    obtain ⟨a', e0, r0, _⟩ := DataW.trod_int Tryz.underlying3 h0
    obtain ⟨b', e1, r1, _⟩ := DataW.trod_int Tryz.underlying3 h1
    rw [r0, r1] at he
    simp only [DataW.agg.injEq, List.cons.injEq, DataW.lit.injEq, Lit.int.injEq, true_and, and_true] at he
    obtain ⟨rfl, rfl⟩ := he
    rw [World.var?_cell kTab hvar, World.var?_cell kTab hvar]
    have q0 := congrArg (·[0]?) e0
    have q1 := congrArg (·[0]?) e1
    simp [List.getElem?_drop] at q0 q1
    exact ⟨by simpa using q0, by simpa using q1⟩
  rw [hx2] at entry
  intro c h1 h2
  have hc : c = 1 ∨ c = 2 ∨ c = 3 ∨ c = 4 ∨ c = 5 ∨ c = 6 ∨ c = 7 ∨ c = 8 ∨ c = 9 ∨ c = 10 ∨ c = 11 := by omega
  rcases hc with rfl | rfl | rfl | rfl | rfl | rfl | rfl | rfl | rfl | rfl | rfl
  · exact entry 1 1 0 (by omega) rfl
  · exact entry 2 1 1 (by omega) rfl
  · exact entry 3 2 1 (by omega) rfl
  · exact entry 4 2 0 (by omega) rfl
  · exact entry 5 3 0 (by omega) rfl
  · exact entry 6 3 0 (by omega) rfl
  · exact entry 7 1 0 (by omega) rfl
  · exact entry 8 1 4 (by omega) rfl
  · exact entry 9 1 0 (by omega) rfl
  · exact entry 10 1 0 (by omega) rfl
  · exact entry 11 0 0 (by omega) rfl

end Go.Proofs.YtfmbebofllgmoaaGreatDoor
namespace Go.Proofs.YtfmbebofllgmoaaGreatDoor
open Go.ChangeShapes Go.WideShapes Go.ChangeAt Go.RowKit Go.Deep

/-- Ten cells hold a step of a script. -/
def StepAtC (N : Nat) (w : World) (b o : Nat) : Prop :=
  ∃ (kd : Int) (p1 p2 p3 p4 p5 p6 p7 : Option Addr) (n1 c1 n2 c2 n3 c3 n4 c4 n5 c5 n6 c6 n7 c7 : Nat) (lg : ByteArray) (fu : Int) (p : Pg) (lc : List Int) (bs : List (Value × List Int)) (lp ll : List Int),
    (w.cell? ⟨b, o, none⟩ = some (.int .i64 kd) ∧ w.cell? ⟨b, o + 1, none⟩ = some (.slice p1 n1 c1) ∧ w.cell? ⟨b, o + 2, none⟩ = some (.slice p2 n2 c2) ∧ w.cell? ⟨b, o + 3, none⟩ = some (.slice p3 n3 c3) ∧ w.cell? ⟨b, o + 4, none⟩ = some (.slice p4 n4 c4) ∧
      w.cell? ⟨b, o + 5, none⟩ = some (.slice p5 n5 c5) ∧ w.cell? ⟨b, o + 6, none⟩ = some (.slice p6 n6 c6) ∧ w.cell? ⟨b, o + 7, none⟩ = some (.slice p7 n7 c7) ∧ w.cell? ⟨b, o + 8, none⟩ = some (.string lg) ∧ w.cell? ⟨b, o + 9, none⟩ = some (.int .i64 fu)) ∧
    PgAt w (pvOf (.slice p1 n1 c1) (.slice p2 n2 c2) (.slice p3 n3 c3) undef) p ∧ WorldC w (.slice p4 n4 c4) (.slice p5 n5 c5) (.slice p6 n6 c6) (.slice p7 n7 c7) lc bs lp ll ∧ lc.length + bs.length + lp.length + ll.length ≤ N ∧ lg.size ≤ N
/-- A script in memory. -/
def ScriptInC (N : Nat) (w : World) (v : Value) (n : Nat) : Prop :=
  ∃ a c, v = .slice a n c ∧ n ≤ N ∧ (n = 0 ∨ ∃ b off, a = some ⟨b, off, none⟩ ∧ ∀ i, i < n → StepAtC N w b (off + i * 10))

section
variable {H : Type} {enc : TypeId × Value → H} {w : World} {spare : Nat → Bool} {held : Bool}
/-- A list of integers in memory. -/
theorem down_intsC {fuel : Nat} {cs : List Value} {x : DataW H × List MemPlace} (h : DataW.trod enc Tryz.prog w 0 spare held fuel 26 cs = some x) :
    ∃ v l, cs = [v] ∧ IntsC w v l (fun q => q < w.heap.size) ∧ l.length ≤ Rows.uptoBulk x.1 := by
  rcases open_slice Tryz.underlying26 h with ⟨rfl, rfl⟩ | ⟨a, len, cap, m, n, D, Pl, rfl, _, hlc, _, hm, rfl, hx⟩
  · exact ⟨_, [], rfl, ⟨none, 0, rfl, Nat.le_refl _, .inl rfl⟩, Nat.zero_le _⟩
  have hml : len ≤ m := by rw [hm]; split <;> omega
  rw [kc3] at hx
  have hall : ∀ i, i < len → ∃ z : Int, w.cells? 0 (a.add (i * 1)) 1 = some [.int .i64 z] := by
    intro i hi
    obtain ⟨cs', h1, h2⟩ := hx i (by omega)
    obtain ⟨z, rfl, _, hw⟩ := DataW.trod_int Tryz.underlying3 h2
    exact ⟨z, h1⟩
  obtain ⟨f, hf⟩ := choose_lt (α := Int) hall
  refine ⟨_, (List.range len).map f, rfl, ⟨some a, cap, by simp, by simpa using hlc, ?_⟩, ?_⟩
  · by_cases h0 : len = 0
    · left; subst h0; rfl
    right
    obtain ⟨b, off, rfl⟩ := kaddr_of (hf 0 (by omega)) (by omega)
    have key : ∀ i, i < len → w.cell? ⟨b, off + i, none⟩ = some (.int .i64 (f i)) := fun i hi => by
      obtain ⟨_, _, hc⟩ := World.cells?_some (hf i hi)
      rw [Go.WideShapes.add_plain] at hc
      have g0 := hc 0 (by omega)
      rw [Go.WideShapes.add_plain] at g0
      simpa using g0
    refine ⟨b, off, rfl, World.block_lt_of_cell? w _ (key 0 (by omega)), fun i hi => ?_⟩
    have hi' : i < len := by simpa using hi
    rw [key i hi']
    simp [List.getD, hi']
  · have h1 := blk_slice ((List.range len).map D) ((List.range (m - len)).map fun j => D (len + j))
    simp only [List.length_map, List.length_range] at h1 ⊢
    omega

/-- A list of batches in memory. -/
theorem down_batsC {fuel : Nat} {cs : List Value} {x : DataW H × List MemPlace} (h : DataW.trod enc Tryz.prog w 0 spare held fuel 27 cs = some x) :
    ∃ v, ∃ l : List (Value × List Int), cs = [v] ∧ ValsC w v (l.map (·.1)) (fun q => q < w.heap.size) ∧ (∀ b, b ∈ l → IntsIn w b.1 b.2 (fun q => q < w.heap.size) ∧ b.2.length ≤ Rows.uptoBulk x.1) ∧ l.length ≤ Rows.uptoBulk x.1 := by
  rcases open_slice1 Tryz.underlying27 kc26 h with ⟨rfl, rfl⟩ | ⟨a, len, cap, m, n, V, D, Pl, rfl, _, hlc, _, hm, rfl, hx⟩
  · exact ⟨_, [], rfl, ⟨none, 0, rfl, Nat.le_refl _, .inl rfl⟩, fun b hb => (List.not_mem_nil hb).elim, Nat.zero_le _⟩
  have hml : len ≤ m := by rw [hm]; split <;> omega
  have hall : ∀ i, i < len → ∃ l : List Int, IntsIn w (V i) l (fun q => q < w.heap.size) ∧ l.length ≤ Rows.uptoBulk (D i) := by
    intro i hi
    obtain ⟨_, h2⟩ := hx i (by omega)
    obtain ⟨v, l, e, ho, h3⟩ := down_intsC h2
    simp only [List.cons.injEq, and_true] at e
    subst e
    exact ⟨l, ho.ints, h3⟩
  obtain ⟨L, hL⟩ := choose_lt (α := List Int) hall
  refine ⟨_, (List.range len).map (fun i => (V i, L i)), rfl, ⟨some a, cap, by simp, by simpa using hlc, ?_⟩, fun b hb => ?_, ?_⟩
  · by_cases h0 : len = 0
    · left; subst h0; rfl
    right
    obtain ⟨b, off, spot⟩ := a
    have hspot : spot = none := by simpa [Addr.add] using World.cell?_spot (hx 0 (by omega)).1
    subst hspot
    have key : ∀ i, i < len → w.cell? ⟨b, off + i, none⟩ = some (V i) := fun i hi => by
      rw [← Go.WideShapes.add_plain]
      exact (hx i (by omega)).1
    refine ⟨b, off, rfl, World.block_lt_of_cell? w _ (key 0 (by omega)), fun i hi => ?_⟩
    have hi' : i < len := by simpa using hi
    rw [key i hi']
    simp [List.getD, hi']
  · obtain ⟨i, hi, rfl⟩ := List.mem_map.1 hb
    have hi' := List.mem_range.1 hi
    refine ⟨(hL i hi').1, Nat.le_trans (hL i hi').2 ?_⟩
    have h1 : Rows.uptoBulk (D i) ≤ Rows.uptoBulkAll ((List.range len).map D) := blk_part (List.mem_map.2 ⟨i, hi, rfl⟩)
    have h2 : Rows.uptoBulkAll ((List.range len).map D) ≤ Rows.uptoBulk (DataW.slice ((List.range len).map D) ((List.range (m - len)).map fun j => D (len + j))) := by simp only [Rows.uptoBulk]; omega
    exact Nat.le_trans h1 h2
  · have h1 := blk_slice ((List.range len).map D) ((List.range (m - len)).map fun j => D (len + j))
    simp only [List.length_map, List.length_range] at h1 ⊢
    omega

/-- A step of a script: its ten cells. -/
theorem down_stepC {fuel : Nat} {cs : List Value} {x : DataW H × List MemPlace} (h : DataW.trod enc Tryz.prog w 0 spare held fuel 67 cs = some x) (hw : Wt 67 x.1) (hN : Rows.uptoBulk x.1 ≤ 1048576) :
    ∃ (kd : Int) (p1 p2 p3 p4 p5 p6 p7 : Option Addr) (n1 c1 n2 c2 n3 c3 n4 c4 n5 c5 n6 c6 n7 c7 : Nat) (lg : ByteArray) (fu : Int) (p : Pg) (lc : List Int) (bs : List (Value × List Int)) (lp ll : List Int),
      cs = [.int .i64 kd, .slice p1 n1 c1, .slice p2 n2 c2, .slice p3 n3 c3, .slice p4 n4 c4, .slice p5 n5 c5, .slice p6 n6 c6, .slice p7 n7 c7, .string lg, .int .i64 fu] ∧
      PgAt w (pvOf (.slice p1 n1 c1) (.slice p2 n2 c2) (.slice p3 n3 c3) undef) p ∧ WorldC w (.slice p4 n4 c4) (.slice p5 n5 c5) (.slice p6 n6 c6) (.slice p7 n7 c7) lc bs lp ll ∧ lc.length + bs.length + lp.length + ll.length ≤ Rows.uptoBulk x.1 ∧ lg.size ≤ Rows.uptoBulk x.1 := by
  obtain ⟨xs, n, _, rfl, hl, hlen, hf⟩ := DataW.trod_struct Tryz.underlying67 h
  rw [cells40] at hl
  obtain ⟨z0, z1, z2, z3, z4, rfl⟩ := list5 hlen
  have f0 : DataW.trod enc Tryz.prog w 0 spare held n 3 ((cs.drop 0).take (Tryz.prog.cellsOf 3)) = some z0 := hf 0 _ rfl
  have f1 : DataW.trod enc Tryz.prog w 0 spare held n 33 ((cs.drop 1).take (Tryz.prog.cellsOf 33)) = some z1 := hf 1 _ rfl
  have f2 : DataW.trod enc Tryz.prog w 0 spare held n 29 ((cs.drop 4).take (Tryz.prog.cellsOf 29)) = some z2 := hf 2 _ rfl
  have f3 : DataW.trod enc Tryz.prog w 0 spare held n 9 ((cs.drop 8).take (Tryz.prog.cellsOf 9)) = some z3 := hf 3 _ rfl
  have f4 : DataW.trod enc Tryz.prog w 0 spare held n 3 ((cs.drop 9).take (Tryz.prog.cellsOf 3)) = some z4 := hf 4 _ rfl
  rw [cells3] at f0 f4
  rw [cells34] at f1
  rw [cells38] at f2
  rw [cells9] at f3
  obtain ⟨k0, k1, k2, k3, k4, k5, k6, k7, k8, k9, rfl⟩ := list10 hl
  simp at f0 f1 f2 f3 f4
  obtain ⟨kd, e0, _, _⟩ := DataW.trod_int Tryz.underlying3 f0
  obtain ⟨fu, e4, _, _⟩ := DataW.trod_int Tryz.underlying3 f4
  obtain ⟨lg, e3, hx3, _⟩ := DataW.trod_string Tryz.underlying9 f3
  obtain ⟨y0, y1, y2, n', hz1, _, g0, g1, g2⟩ := trod_struct3 Tryz.underlying33 f1
  simp only [cells31, cells32] at g0 g1 g2
  simp at g0 g1 g2
  obtain ⟨u0, u1, u2, u3, n'', hz2, _, q0, q1, q2, q3⟩ := Go.Joins.trod_struct4 Tryz.underlying29 f2
  simp only [cells35, cells36] at q0 q1 q2 q3
  simp at q0 q1 q2 q3
  have hw1 : Wt 33 z1.1 := hw.field (j := 1) Tryz.underlying67 rfl rfl
  rw [hz1] at hw1
  have w0 : Wt 31 y0.1 := hw1.field (j := 0) Tryz.underlying33 rfl rfl
  have w1 : Wt 25 y1.1 := hw1.field (j := 1) Tryz.underlying33 rfl rfl
  have w2 : Wt 25 y2.1 := hw1.field (j := 2) Tryz.underlying33 rfl rfl
  obtain ⟨v1, ns, s, a1, o1⟩ := down_ops g0 w0
  obtain ⟨v2, nt, tl, t, a2, o2⟩ := down_hands g1 w1
  obtain ⟨v3, nf, fl, f, a3, o3⟩ := down_hands g2 w2
  obtain ⟨v4, lc, a4, i4, m4⟩ := down_intsC q0
  obtain ⟨v5, bs, a5, i5, ib, m5⟩ := down_batsC q1
  obtain ⟨v6, lp, a6, i6, m6⟩ := down_intsC q2
  obtain ⟨v7, ll, a7, i7, m7⟩ := down_intsC q3
  simp only [List.cons.injEq, and_true] at e0 e3 e4 a1 a2 a3 a4 a5 a6 a7
  subst e0 e3 e4 a1 a2 a3 a4 a5 a6 a7
  have hall : Rows.uptoBulk (DataW.agg [z0.1, z1.1, z2.1, z3.1, z4.1]) = Rows.uptoBulkAll [z0.1, z1.1, z2.1, z3.1, z4.1] + 1 := by simp only [Rows.uptoBulk]; try omega
  have hb2 : Rows.uptoBulk z2.1 ≤ Rows.uptoBulkAll [z0.1, z1.1, z2.1, z3.1, z4.1] := blk_part (by simp)
  have hb3 : Rows.uptoBulk z3.1 ≤ Rows.uptoBulkAll [z0.1, z1.1, z2.1, z3.1, z4.1] := blk_part (by simp)
  have hz3 : Rows.uptoBulk z3.1 = lg.size + 1 := by rw [hx3]; simp [Rows.uptoBulk]
  have hu : Rows.uptoBulk u0.1 + Rows.uptoBulk u1.1 + Rows.uptoBulk u2.1 + Rows.uptoBulk u3.1 ≤ Rows.uptoBulk z2.1 := by
    have e : Rows.uptoBulk (DataW.agg [u0.1, u1.1, u2.1, u3.1]) = Rows.uptoBulkAll [u0.1, u1.1, u2.1, u3.1] + 1 := by simp only [Rows.uptoBulk]; try omega
    rw [hz2, e]
    simp only [Rows.uptoBulkAll]
    omega
  change Rows.uptoBulk (DataW.agg [z0.1, z1.1, z2.1, z3.1, z4.1]) ≤ _ at hN
  obtain ⟨a1, c1, rfl, o1'⟩ := id o1
  obtain ⟨a2, c2, rfl, o2'⟩ := id o2
  obtain ⟨a3, c3, rfl, o3'⟩ := id o3
  obtain ⟨a4, c4, rfl, i4'⟩ := id i4
  obtain ⟨a5, c5, rfl, i5'⟩ := id i5
  obtain ⟨a6, c6, rfl, i6'⟩ := id i6
  obtain ⟨a7, c7, rfl, i7'⟩ := id i7
  refine ⟨kd, a1, a2, a3, a4, a5, a6, a7, _, c1, _, c2, _, c3, _, c4, _, c5, _, c6, _, c7, lg, fu, ⟨ns, s, nt, tl, t, nf, fl, f⟩, lc, bs, lp, ll, rfl, ⟨o1, o2, o3⟩, ⟨i4, i5, i6, i7, fun b hb => ⟨(ib b hb).1, ?_⟩, ?_, ?_, ?_, ?_⟩, ?_, ?_⟩
  · have := (ib b hb).2; omega
  · omega
  · omega
  · omega
  · omega
  · show _ ≤ Rows.uptoBulk (DataW.agg [z0.1, z1.1, z2.1, z3.1, z4.1]); omega
  · show _ ≤ Rows.uptoBulk (DataW.agg [z0.1, z1.1, z2.1, z3.1, z4.1]); omega

/-- A script in memory. -/
theorem down_scriptC {fuel : Nat} {cs : List Value} {x : DataW H × List MemPlace} (h : DataW.trod enc Tryz.prog w 0 spare held fuel 22 cs = some x) (hw : Wt 22 x.1) (hN : Rows.uptoBulk x.1 ≤ 1048576) : ∃ v n, cs = [v] ∧ ScriptInC (Rows.uptoBulk x.1) w v n := by
  rcases open_slice Tryz.underlying22 h with ⟨rfl, rfl⟩ | ⟨a, len, cap, m, n, D, Pl, rfl, _, hlc, _, hm, rfl, hx⟩
  · exact ⟨_, 0, rfl, none, 0, rfl, Nat.zero_le _, .inl rfl⟩
  have hml : len ≤ m := by rw [hm]; split <;> omega
  have hbk := blk_slice ((List.range len).map D) ((List.range (m - len)).map fun j => D (len + j))
  simp only [List.length_map, List.length_range] at hbk
  have hb' : len ≤ Rows.uptoBulk (DataW.slice ((List.range len).map D) ((List.range (m - len)).map fun j => D (len + j))) := by omega
  rw [cells40] at hx
  refine ⟨_, len, rfl, some a, cap, rfl, hb', ?_⟩
  by_cases h0 : len = 0
  · exact .inl h0
  right
  have ha : ∃ b off, a = ⟨b, off, none⟩ := by
    obtain ⟨cs', h1, _⟩ := hx 0 (by omega)
    rw [Nat.zero_mul] at h1
    exact addr_of h1 (by omega)
  obtain ⟨b, off, rfl⟩ := ha
  refine ⟨b, off, rfl, fun i hi => ?_⟩
  obtain ⟨cs', h1, h2⟩ := hx i (by omega)
  have hwi : Wt 67 (D i) := hw.elem Tryz.underlying22 (List.mem_map.2 ⟨i, List.mem_range.2 hi, rfl⟩)
  have hle : Rows.uptoBulk (D i) ≤ Rows.uptoBulk (DataW.slice ((List.range len).map D) ((List.range (m - len)).map fun j => D (len + j))) := by
    have h1 : Rows.uptoBulk (D i) ≤ Rows.uptoBulkAll ((List.range len).map D) := blk_part (List.mem_map.2 ⟨i, List.mem_range.2 hi, rfl⟩)
    have h2 : Rows.uptoBulkAll ((List.range len).map D) ≤ Rows.uptoBulk (DataW.slice ((List.range len).map D) ((List.range (m - len)).map fun j => D (len + j))) := by simp only [Rows.uptoBulk]; omega
    exact Nat.le_trans h1 h2
  obtain ⟨kd, p1, p2, p3, p4, p5, p6, p7, n1, c1, n2, c2, n3, c3, n4, c4, n5, c5, n6, c6, n7, c7, lg, fu, p, lc, bs, lp, ll, rfl, o1, o2, o3, hlg⟩ := down_stepC h2 hwi (Nat.le_trans hle hN)
  obtain ⟨_, _, hc⟩ := World.cells?_some h1
  rw [Go.WideShapes.add_plain] at hc
  have hc' : ∀ j, j < 10 → w.cell? ⟨b, off + i * 10 + j, none⟩ = ([.int .i64 kd, .slice p1 n1 c1, .slice p2 n2 c2, .slice p3 n3 c3, .slice p4 n4 c4, .slice p5 n5 c5, .slice p6 n6 c6, .slice p7 n7 c7, .string lg, .int .i64 fu] : List Value)[j]? := fun j hj => by rw [← Go.WideShapes.add_plain]; exact hc j hj
  exact ⟨kd, p1, p2, p3, p4, p5, p6, p7, n1, c1, n2, c2, n3, c3, n4, c4, n5, c5, n6, c6, n7, c7, lg, fu, p, lc, bs, lp, ll,
    ⟨by exact hc' 0 (by omega), by exact hc' 1 (by omega), by exact hc' 2 (by omega), by exact hc' 3 (by omega), by exact hc' 4 (by omega), by exact hc' 5 (by omega), by exact hc' 6 (by omega), by exact hc' 7 (by omega), by exact hc' 8 (by omega), by exact hc' 9 (by omega)⟩, o1, o2, Nat.le_trans o3 hle, Nat.le_trans hlg hle⟩
end
end Go.Proofs.YtfmbebofllgmoaaGreatDoor
namespace Go.Proofs.YtfmbebofllgmoaaGreatDoor
open Go.RowKit
attribute [local go_sem ↓] Go.wp_at_zero Go.wp_at_succ

/-- The Book between two steps. -/
def BookZ (wr : World) (B k : Nat) : Prop := ∃ n vI vE vN LI LE LN K, BookK wr B B n vI vE vN LI LE LN K ∧ 2 * LI.length ≤ 1048576 * k ∧ LE.length ≤ 2 * k ∧ LN.length ≤ k
theorem BookZ.fr {w W : World} {B k : Nat} (h : BookZ w B k) (hf : Fr (fun _ => False) w W (fun _ => False)) : BookZ W B k := by
  obtain ⟨n, vI, vE, vN, LI, LE, LN, K, h1, h2⟩ := h
  exact ⟨n, vI, vE, vN, LI, LE, LN, K, h1.fr hf, h2⟩
theorem BookZ.more {w : World} {B k : Nat} (h : BookZ w B k) : BookZ w B (k + 1) := by
  obtain ⟨n, vI, vE, vN, LI, LE, LN, K, h1, h2, h3, h4⟩ := h
  exact ⟨n, vI, vE, vN, LI, LE, LN, K, h1, by omega, by omega, by omega⟩
theorem bookZ_new (w : World) : BookZ (w.alloc (.cells #[.int .i64 0, .slice none 0 0, .slice none 0 0, .slice none 0 0] 65)) w.heap.size 0 :=
  ⟨0, _, _, _, [], [], [], fun _ => False, ⟨⟨heap_alloc_new _ _, World.ownsRow_nil _ _ _ _, World.ownsRow_nil _ _ _ _, World.ownsRow_nil _ _ _ _, fun _ h => absurd h (by simp), fun _ h => absurd h (by simp), fun _ h => absurd h (by simp)⟩, fun _ h => absurd h (by simp), fun _ h => absurd h (by simp), fun _ h => absurd h (by simp), fun _ h => h.elim⟩, by simp, by simp, by simp⟩
theorem BookZ.looks {W : World} {B k : Nat} (h : BookZ W B k) (hk : k ≤ 1048577) : Calls Tryz.prog 24 #[.pointer (some ⟨B, 0, none⟩)] W fun e w' => e = .returned (.bool true) ∧ Fr (fun _ => False) W w' (fun _ => False) := by
  obtain ⟨n, vI, vE, vN, LI, LE, LN, K, h1, h2, h3, h4⟩ := h
  exact looks_any h1.bk (by omega) (by omega) (by omega)
/-- What a step is made of. -/
structure StepD (N : Nat) (w0 : World) (p1 p2 p3 q0 q1 q2 q3 : Value) (lg : ByteArray) (p : Pg) (lc : List Int) (bs : List (Value × List Int)) (lp ll : List Int) : Prop where
  pg : PgAt w0 (pvOf p1 p2 p3 undef) p
  wo : WorldC w0 q0 q1 q2 q3 lc bs lp ll
  sum : lc.length + bs.length + lp.length + ll.length ≤ N
  lgn : lg.size ≤ N
/-- Every step of a kind from lo to hi is as the document says. -/
def Steps (lo hi : Int) (w0 : World) : Prop :=
  ∀ (W : World) (k : Nat) (kd : Int) (p1 p2 p3 q0 q1 q2 q3 : Value) (lg : ByteArray) (fu : Int) (p : Pg) (lc : List Int) (bs : List (Value × List Int)) (lp ll : List Int), k ≤ 1048576 → BookZ W w0.heap.size k → Below w0.heap.size w0 W → StepD 1048576 w0 p1 p2 p3 q0 q1 q2 q3 lg p lc bs lp ll → lo ≤ kd → kd ≤ hi →
    Calls Tryz.prog 23 #[.pointer (some ⟨w0.heap.size, 0, none⟩), .agg #[.int .i64 kd, p1, p2, p3, q0, q1, q2, q3, .string lg, .int .i64 fu]] W fun e w' => e = .returned (.bool true) ∧ Below w0.heap.size W w' ∧ BookZ w' w0.heap.size (k + 1)

set_option maxHeartbeats 1000000 in
theorem upTo_any {N : Nat} (hN : N ≤ 1048576) {lo hi : Int} (v : Value) (n : Nat) (w : World) (hst : Steps lo hi w) (hv : ScriptInC N w v n) :
    Calls Tryz.prog 12 #[v, .int .i64 lo, .int .i64 hi] w fun e w' => e = .returned (.bool true) ∧ Below w.heap.size w w' := by
  obtain ⟨a, c, rfl, hn, hf⟩ := hv
  have HF := hide hf
  have HST := hide (bookZ_new w)
  have HSS := hide hst
  clear hf hst
  go_enter Tryz.func12, Tryz.ntmps12
  go_wp2
  go_loopw [8] (fun i wr => ∃ k : Nat, k ≤ n ∧ i = .int .i64 k ∧ Below w.heap.size w wr ∧ w.heap.size < wr.heap.size ∧ Hid (BookZ wr w.heap.size k)) (fun i _ => n - (intOf i).toNat)
  case atStart => exact ⟨0, Nat.zero_le _, rfl, (Below.refl _ _).alloc (Nat.le_refl _) _, by simp, HST⟩
  case round =>
    obtain ⟨k, hk, rfl, hb, hsz, hbk⟩ := hrel
    by_cases hlt : k < n
    · rcases unhide HF with hz | ⟨b, off, rfl, hf⟩
      · omega
      obtain ⟨kd, p1, p2, p3, p4, p5, p6, p7, n1, c1, n2, c2, n3, c3, n4, c4, n5, c5, n6, c6, n7, c7, lg, fu, p, lc, bs, lp, ll, ⟨d0, d1, d2, d3, d4, d5, d6, d7, d8, d9⟩, hpg, hwo, hsum, hlg⟩ := hf k hlt
      have hlb : b < w.heap.size := World.block_lt_of_cell? _ _ d0
      rw [← bcel hb b _ hlb] at d0 d1 d2 d3 d4 d5 d6 d7 d8 d9
      have hlb' : b < wr.heap.size := by have := hb.size; omega
      clear hf
      obtain ⟨W1, hW⟩ : ∃ W1, W1 = wr.alloc (.cells #[.int .i64 kd, .slice p1 n1 c1, .slice p2 n2 c2, .slice p3 n3 c3, .slice p4 n4 c4, .slice p5 n5 c5, .slice p6 n6 c6, .slice p7 n7 c7, .string lg, .int .i64 fu] 67) := ⟨_, rfl⟩
      have fr1 : Fr (fun _ => False) wr W1 (fun _ => False) := by subst hW; exact (Fr.refl _ _).alloc _
      have hb1 : Below w.heap.size w W1 := hb.trans (fr1.below (fun k hk => hk.elim) (Nat.le_of_lt hsz))
      have hsw : w.heap.size < W1.heap.size := Nat.lt_of_lt_of_le hsz fr1.size
      have hbk1 := (unhide hbk).fr fr1
      by_cases hk1 : lo ≤ kd
      · by_cases hk2 : kd ≤ hi
        · have HP := hide (unhide HSS W1 k kd _ _ _ _ _ _ _ lg fu p lc bs lp ll (by omega) hbk1 hb1 ⟨hpg, hwo, by omega, by omega⟩ hk1 hk2)
          have HW := hide hW
          have HB1 := hide hb1
          clear hW hbk hbk1 fr1 hb1 hpg hwo hsum
          go_wp2_with fail
          rw [← unhide HW]
          refine (unhide HP).mono ?_
          rintro e w2 ⟨rfl, hb2, hbk2⟩
          have HL := hide (hbk2.looks (by omega))
          have HBK := hide hbk2
          have HB2 := hide ((unhide HB1).trans hb2)
          have hs2 : w.heap.size < w2.heap.size := Nat.lt_of_lt_of_le hsw hb2.size
          clear HP HW hb2 hbk2 HB1
          go_wp2_with fail
          refine (unhide HL).mono ?_
          rintro e w3 ⟨rfl, f3⟩
          have HBK3 := hide ((unhide HBK).fr f3)
          have hb3 : Below w.heap.size w w3 := (unhide HB2).trans (f3.below (fun k hk => hk.elim) (Nat.le_of_lt hs2))
          have hs3 : w.heap.size < w3.heap.size := Nat.lt_of_lt_of_le hs2 f3.size
          clear HL f3 HBK HB2
          go_wp2
          go_roundw
          case rel => exact ⟨k + 1, by omega, by go_num, hb3, hs3, HBK3⟩
          case measure => simp [intOf]; omega
        · have HM := hide hbk1.more
          have HW := hide hW
          clear hW hbk hbk1 fr1 hpg hwo hsum
          go_wp2
          rw [← unhide HW]
          go_roundw
          case rel => exact ⟨k + 1, by omega, by go_num, hb1, hsw, HM⟩
          case measure => simp [intOf]; omega
      · have HM := hide hbk1.more
        have HW := hide hW
        clear hW hbk hbk1 fr1 hpg hwo hsum
        go_wp2
        rw [← unhide HW]
        go_roundw
        case rel => exact ⟨k + 1, by omega, by go_num, hb1, hsw, HM⟩
        case measure => simp [intOf]; omega
    · go_wp2
      go_ret
      exact ⟨rfl, hb⟩

theorem steps_record {w0 : World} (ht : TabIn w0) : Steps 2 2 w0 := by
  intro W k kd p1 p2 p3 q0 q1 q2 q3 lg fu p lc bs lp ll hk hbk hb hd h1 h2
  obtain rfl : kd = 2 := by omega
  obtain ⟨n, vI, vE, vN, LI, LE, LN, K, b1, b2, b3, b4⟩ := hbk
  refine (plays_record b1 (Nat.le_refl _) hb ht hd.pg hd.wo (.string lg) fu (by omega)).mono ?_
  rintro e w' ⟨rfl, n', vE', LE', K', c1, c2, c3⟩
  exact ⟨rfl, c3, n', vI, vE', vN, LI, LE', LN, K', c1, by omega, by omega, by omega⟩
theorem records_any {N : Nat} (hN : N ≤ 1048576) (v : Value) (n : Nat) (w : World) (ht : TabIn w) (hv : ScriptInC N w v n) :
    Calls Tryz.prog 4 #[v] w fun e w' => e = .returned (.bool true) ∧ Below w.heap.size w w' := by
  have HU := hide (upTo_any hN v n w (steps_record ht) hv)
  clear hv ht
  go_enter Tryz.func4, Tryz.ntmps4
  go_wp2_with fail
  refine (unhide HU).mono ?_
  rintro e w1 ⟨rfl, hb⟩
  go_wp2
  go_ret
  exact ⟨rfl, hb⟩
end Go.Proofs.YtfmbebofllgmoaaGreatDoor
