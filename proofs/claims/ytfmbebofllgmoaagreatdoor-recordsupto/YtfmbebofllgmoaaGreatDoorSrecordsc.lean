/-
  PROVED HERE: Run runs a program as the model (runM) says, over a source that keeps its word. the log's writer begins with its head, and ends with the record of the end. what a world's source answers, by kind. the recorder hears what its source answers and writes it down. the recorder over a world is a source that keeps its word. world.New makes a source of all that a world says. the keep statements' world, of a raw one. the document's own loop in memory: its struct, its trace, its armed timers, its source. the bytes of varints and of inputs: written and read. bodies and sums: no body begins another one; one byte turned makes another sum. two runs of one program over two sources that answer alike go alike; where the second source ends the run, what was told so far is a beginning of what the first run tells. two runs of one program over two sources that answer alike go alike; where the second source ends the run, what was told so far is a beginning of what the first run tells. logs, read record by record: whole ones, their first bytes, with one byte turned. how a run may end, in numbers; a program that Check takes is one. a source of inputs of a log (the model of a replay), and what a run has heard, kept beside it. the reader's input: a batch. a list of inputs in memory, each with its files: nobody else's, and no two share room; it grows by one. the document's reader: what a body may come to. the document's reader, of a whole log. the keep statements' program, of raw handlers. the keep statements' program, of raw handlers: the walk.
-/
import Derived.Test.YtfmbebofllgmoaaGreatDoorProg
import Derived.WalkKit
import Derived.WalkSpells
import Derived.WalkLawsBesides
import Derived.Deep.QuietTactic
import Derived.BigQuiet
import Derived.Deep.RegionHeld3
import Derived.Deep.AppendLies
import Derived.Laws.EntriesVeiled
import Derived.Deep.DrawnRows
import Derived.BigRegion
import Derived.Deep.LoopGhost
import Derived.Deep.MidRow
import Derived.Shelf.SlSortCmp.SmallK
import Derived.Shelf.SlicesG.Cmp
import Derived.Shelf.Small.Bits
import Derived.Deep.RegionLaw
import Derived.Lib.SliceRun
import Derived.Laws.StructEq
import Derived.Laws.BytesString
import Derived.ArgAppend
import Derived.Deep.DeepCutAuto
import Derived.Conc.LoneCalls
import Derived.Calls
import Derived.Tactics
import Derived.KernelRfl
import Derived.Laws.Rows
import Derived.Lib.SlBytesConst
import Derived.Laws.BitsAllLaws
import Derived.RangeFuncOwn
import Derived.Laws.IdiomStrings
import Derived.RangeFuncNested
import Derived.RangeFuncBound
import Derived.RangeFuncCalls
import Derived.RangeFuncLeaves
import Derived.Test.YtfmbebofllgmoaaGreatDoorSrecordsb
namespace Go.Proofs.YtfmbebofllgmoaaGreatDoor
open Go.RowKit Go.Sort
attribute [local go_sem ↓] Go.wp_at_zero Go.wp_at_succ

def s0 (fu : Int) : PS := ⟨fu, 0, fun _ => 0, 0, fun _ => (false, 0, 0, 0), 0, fun _ => false, [], 0, 0⟩
def pvOf (v1 v2 v3 sv : Value) (k : Nat) : Value := if k = 0 then v1 else if k = 1 then v2 else if k = 2 then v3 else sv
def cells67 (v1 v2 v3 sv : Value) (fu : Int) : Array Value := ((List.range 67).map (img (pvOf v1 v2 v3 sv) (.slice none 0 0) (s0 fu))).toArray
theorem cells67_chain (v1 v2 v3 : Value) (rb tyS : Nat) (fu : Int) : (((((((((((((((((Tryz.zeroCells130.setIfInBounds 0 v1).setIfInBounds 1 v2).setIfInBounds 2 v3).setIfInBounds 3 (.iface tyS (.pointer (some ⟨rb, 0, none⟩)))).setIfInBounds 4 .nilFunc).setIfInBounds 5 (.func (Fn.func 83) #[] #[])).setIfInBounds 6 (.func (Fn.func 84) #[] #[])).setIfInBounds 7 (.func (Fn.func 85) #[] #[])).setIfInBounds 8 (.func (Fn.func 86) #[] #[])).setIfInBounds 9 (.func (Fn.func 87) #[] #[])).setIfInBounds 10 (.func (Fn.func 88) #[] #[])).setIfInBounds 11 (.func (Fn.func 89) #[] #[])).setIfInBounds 12 (.func (Fn.func 90) #[] #[])).setIfInBounds 13 (.func (Fn.func 91) #[] #[])).setIfInBounds 14 (.func (Fn.func 92) #[] #[])).setIfInBounds 15 (.func (Fn.func 93) #[] #[])).setIfInBounds 16 (.int .i64 fu)) = cells67 v1 v2 v3 (.iface tyS (.pointer (some ⟨rb, 0, none⟩))) fu := by kernel_rfl
theorem cells67_get (v1 v2 v3 sv : Value) (fu : Int) (k : Nat) (hk : k < 67) : (cells67 v1 v2 v3 sv fu)[k]? = some (img (pvOf v1 v2 v3 sv) (.slice none 0 0) (s0 fu) k) := by
  unfold cells67
  simp [hk]
set_option maxHeartbeats 2000000 in
theorem actions_any (w : World) : Calls Tryz.prog 53 #[] w fun e w' => e = .returned (.agg #[.nilFunc, .func (Fn.func 83) #[] #[], .func (Fn.func 84) #[] #[], .func (Fn.func 85) #[] #[], .func (Fn.func 86) #[] #[], .func (Fn.func 87) #[] #[], .func (Fn.func 88) #[] #[], .func (Fn.func 89) #[] #[], .func (Fn.func 90) #[] #[], .func (Fn.func 91) #[] #[], .func (Fn.func 92) #[] #[], .func (Fn.func 93) #[] #[]]) ∧ w' = w.alloc (.cells #[.nilFunc, .func (Fn.func 83) #[] #[], .func (Fn.func 84) #[] #[], .func (Fn.func 85) #[] #[], .func (Fn.func 86) #[] #[], .func (Fn.func 87) #[] #[], .func (Fn.func 88) #[] #[], .func (Fn.func 89) #[] #[], .func (Fn.func 90) #[] #[], .func (Fn.func 91) #[] #[], .func (Fn.func 92) #[] #[], .func (Fn.func 93) #[] #[]] 123) := by
  go_enter Tryz.func53, Tryz.ntmps53
  go_wp2
  refine bodyPost_ret (v := .agg #[.nilFunc, .func (Fn.func 83) #[] #[], .func (Fn.func 84) #[] #[], .func (Fn.func 85) #[] #[], .func (Fn.func 86) #[] #[], .func (Fn.func 87) #[] #[], .func (Fn.func 88) #[] #[], .func (Fn.func 89) #[] #[], .func (Fn.func 90) #[] #[], .func (Fn.func 91) #[] #[], .func (Fn.func 92) #[] #[], .func (Fn.func 93) #[] #[]]) (by simp [results, Tryz.results53, go_sem]) rfl ?_
  exact ⟨rfl, rfl⟩

section
variable {σ : Type} {SA : (Nat → Prop) → World → σ → Prop} {ask : σ → Int → Int → Rep × σ} {may : Int → Int → Prop} {mes : σ → Nat} {B : Nat} {S T : Nat → Prop} {w : World} {b : Nat} {pv : Nat → Value} {vt : Value} {s : PS} {x : σ}
/-- A whole run: what it ends with. -/
def runM (ask : σ → Int → Int → Rep × σ) (p : Pg) (k : Nat) (f : Int) (x : σ) : PS × σ := turnsM ask p k (hM ask p.sf p.sn p.sn (s0 (min (max f 0) 5000)) x).1 (hM ask p.sf p.sn p.sn (s0 (min (max f 0) 5000)) x).2

def RRel (SA : (Nat → Prop) → World → σ → Prop) (ask : σ → Int → Int → Rep × σ) (mes : σ → Nat) (B : Nat) (S : Nat → Prop) (w : World) (b : Nat) (pv : Nat → Value) (p : Pg) (fin : PS × σ) (k : Nat) (wr : World) : Prop :=
  ∃ S' vt' T' s' x' N', RI SA B S' wr b pv vt' T' s' x' ∧ Fr S w wr S' ∧ turnsM ask p k s' x' = fin ∧ RInv p N' s' ∧ N' + 16 * k ≤ 100000000 ∧ (s'.fin ≠ 0 ∨ mes x' < k)

theorem turnsM_stop (p : Pg) (k : Nat) (s : PS) (x : σ) (h : s.fin ≠ 0) : turnsM ask p k s x = (s, x) := by
  cases k with
  | zero => rfl
  | succ k => simp only [turnsM]; rw [if_neg h]

theorem frozen_rowE {w : World} {g e : Nat} {cur : Array Value} (hb : w.heap[g]? = some (.cells cur e (0, 0))) (j : Nat) : w.frozen? ⟨g, j, none⟩ = false := by simp [World.frozen?, hb]
theorem run_start (L : SrcLaw SA) (hx : SA T w x) (hT : ∀ k, T k → B ≤ k ∧ k < w.heap.size) (v1 v2 v3 : Value) (rb tyS : Nat) (fu : Int) (o1 o2 : Obj) {wc : World}
    (hwc : wc = ((((w.alloc (.cells #[v1, v2, v3] 33)).alloc o1).alloc o2).alloc (.cells (cells67 v1 v2 v3 (.iface tyS (.pointer (some ⟨rb, 0, none⟩))) fu) 130)).drew) (hB : B ≤ w.heap.size) :
    RI SA B (fun k => k = w.heap.size + 1 + 1 + 1 ∨ T k) wc (w.heap.size + 1 + 1 + 1) (pvOf v1 v2 v3 (.iface tyS (.pointer (some ⟨rb, 0, none⟩)))) (.slice none 0 0) T (s0 fu) x ∧ Fr T w wc (fun k => k = w.heap.size + 1 + 1 + 1 ∨ T k) ∧
      wc.cell? ⟨w.heap.size, 0, none⟩ = some v1 ∧ wc.heap[w.heap.size + 1]? = some o1 ∧ w.heap.size + 1 + 1 + 1 < wc.heap.size := by
  subst hwc
  have z1 : (((w.alloc (.cells #[v1, v2, v3] 33)).alloc o1).alloc o2).heap.size = w.heap.size + 1 + 1 + 1 := by simp
  have z2 : ((w.alloc (.cells #[v1, v2, v3] 33)).alloc o1).heap.size = w.heap.size + 1 + 1 := by simp
  have z3 : (w.alloc (.cells #[v1, v2, v3] 33)).heap.size = w.heap.size + 1 := by simp
  have hrow : ((((w.alloc (.cells #[v1, v2, v3] 33)).alloc o1).alloc o2).alloc (.cells (cells67 v1 v2 v3 (.iface tyS (.pointer (some ⟨rb, 0, none⟩))) fu) 130)).drew.heap[w.heap.size + 1 + 1 + 1]? = some (.cells (cells67 v1 v2 v3 (.iface tyS (.pointer (some ⟨rb, 0, none⟩))) fu) 130) := by
    have := heap_alloc_new (((w.alloc (.cells #[v1, v2, v3] 33)).alloc o1).alloc o2) (.cells (cells67 v1 v2 v3 (.iface tyS (.pointer (some ⟨rb, 0, none⟩))) fu) 130)
    rw [z1] at this
    exact this
  have hfr : Fr T w ((((w.alloc (.cells #[v1, v2, v3] 33)).alloc o1).alloc o2).alloc (.cells (cells67 v1 v2 v3 (.iface tyS (.pointer (some ⟨rb, 0, none⟩))) fu) 130)).drew T := ((((Fr.refl T w).alloc _).alloc _).alloc _).alloc _ |>.drew
  have hsz : w.heap.size + 1 + 1 + 1 < ((((w.alloc (.cells #[v1, v2, v3] 33)).alloc o1).alloc o2).alloc (.cells (cells67 v1 v2 v3 (.iface tyS (.pointer (some ⟨rb, 0, none⟩))) fu) 130)).drew.heap.size := by
    show _ < (World.alloc _ _).heap.size
    simp
  have hsame : ∀ k, k < w.heap.size → ((((w.alloc (.cells #[v1, v2, v3] 33)).alloc o1).alloc o2).alloc (.cells (cells67 v1 v2 v3 (.iface tyS (.pointer (some ⟨rb, 0, none⟩))) fu) 130)).drew.heap[k]? = w.heap[k]? := fun k hk =>
    (Below.heap_alloc _ _ _ (by rw [z1]; omega)).trans ((Below.heap_alloc _ _ _ (by rw [z2]; omega)).trans ((Below.heap_alloc _ _ _ (by rw [z3]; omega)).trans (Below.heap_alloc _ _ _ hk)))
  refine ⟨⟨?_, ?_, World.ownsRow_nil _ _ _ _, ?_, .inl rfl, ?_, ?_⟩, ⟨hfr.os, hfr.tape, hfr.output, hfr.size, hfr.same, ?_⟩, ?_, ?_, hsz⟩
  · rintro k (rfl | hk)
    · exact ⟨by omega, hsz⟩
    · have := hT k hk
      exact ⟨this.1, by omega⟩
  · intro k hk
    refine ⟨?_, frozen_rowE hrow k⟩
    rw [cell_of_row _ _ k _ 130 (0, 0) hrow]
    exact cells67_get v1 v2 v3 _ fu k hk
  · exact L.keep hx (fun k hk => hsame k (hT k hk).2) hfr.size
  · intro q hq
    simp [Value.ownBlock] at hq
  · intro k hk
    have := hT k hk
    exact ⟨.inr hk, by omega⟩
  · rintro k hk (rfl | h)
    · omega
    · exact h
  · have h1 : ((((w.alloc (.cells #[v1, v2, v3] 33)).alloc o1).alloc o2).alloc (.cells (cells67 v1 v2 v3 (.iface tyS (.pointer (some ⟨rb, 0, none⟩))) fu) 130)).drew.heap[w.heap.size]? = some (.cells #[v1, v2, v3] 33) :=
      (Below.heap_alloc _ _ _ (by rw [z1]; omega)).trans ((Below.heap_alloc _ _ _ (by rw [z2]; omega)).trans ((Below.heap_alloc _ _ _ (by rw [z3]; omega)).trans (heap_alloc_new w _)))
    exact cell_of_row _ _ 0 _ 33 (0, 0) h1
  · have h1 := heap_alloc_new (w.alloc (.cells #[v1, v2, v3] 33)) o1
    rw [z3] at h1
    exact (Below.heap_alloc _ _ _ (by rw [z1]; omega)).trans ((Below.heap_alloc _ _ _ (by rw [z2]; omega)).trans h1)

set_option maxHeartbeats 4000000 in
set_option maxRecDepth 100000 in
theorem run_any (L : SrcLaw SA) {rb tyS fnS : Nat} (K : HearSpec SA ask may B rb tyS fnS) (hm : MayOk may) (hs : SrcOk ask mes) {w0 : World} (hB : B = w0.heap.size) (hbel : Below w0.heap.size w0 w) (hT : ∀ k, T k → B ≤ k ∧ k < w.heap.size) (hx : SA T w x)
    (v1 v2 v3 : Value) {p : Pg} (hv : PgAt w0 (pvOf v1 v2 v3 (.iface tyS (.pointer (some ⟨rb, 0, none⟩)))) p) (ho : PgOk p) (f : Int) (hM0 : mes x ≤ 5000000) :
    Calls Tryz.prog 29 #[.agg #[v1, v2, v3], .iface tyS (.pointer (some ⟨rb, 0, none⟩)), .int .i64 f] w fun e w' => ∃ vt' s' S' T' b, e = .returned (.tuple #[vt', .agg #[.int .i64 s'.fin, .int .i64 (s'.reg 0), .int .i64 (s'.reg 1), .int .i64 (s'.reg 2), .int .i64 (s'.reg 3), .int .i64 s'.clock, .int .i64 s'.heard]]) ∧
      s' = (runM ask p (mes x + 1) f x).1 ∧ RI SA B S' w' b (pvOf v1 v2 v3 (.iface tyS (.pointer (some ⟨rb, 0, none⟩)))) vt' T' s' (runM ask p (mes x + 1) f x).2 ∧ Fr T w w' S' := by
  have hact := actions_any
  have HBEL := hide hbel
  have HBWW := hide (show B ≤ w.heap.size from hB ▸ hbel.size)
  have HBE := hide hB
  have HT := hide hT
  have HX := hide hx
  have HV := hide hv
  have HM0 := hide hM0
  clear hbel hB hT hx hv hM0
  have HCH := hide (cells67_chain v1 v2 v3 rb tyS (min (max f 0) 5000))
  go_enter Tryz.func29, Tryz.ntmps29
  go_upto_region 1 with fail
  go_cut [8] (fun u wc => u = .pointer (some ⟨w.heap.size + 1 + 1 + 1, 0, none⟩) ∧ wc = ((((w.alloc (.cells #[v1, v2, v3] 33)).alloc (.cells #[.int .i64 0, .int .i64 0, .int .i64 0, .int .i64 0, .int .i64 0, .int .i64 0, .int .i64 0] 37)).alloc (.cells #[.nilFunc, .func (Fn.func 83) #[] #[], .func (Fn.func 84) #[] #[], .func (Fn.func 85) #[] #[], .func (Fn.func 86) #[] #[], .func (Fn.func 87) #[] #[], .func (Fn.func 88) #[] #[], .func (Fn.func 89) #[] #[], .func (Fn.func 90) #[] #[], .func (Fn.func 91) #[] #[], .func (Fn.func 92) #[] #[], .func (Fn.func 93) #[] #[]] 123)).alloc (.cells (cells67 v1 v2 v3 (.iface tyS (.pointer (some ⟨rb, 0, none⟩))) (min (max f 0) 5000)) 130)).drew)
  case first =>
   go_region_held3 (fun w' => w'.cell? ⟨w.heap.size, 0, none⟩ = some v1 ∧ w'.cell? ⟨w.heap.size, 1, none⟩ = some v2 ∧ w'.cell? ⟨w.heap.size, 2, none⟩ = some v3) (simp [go_sem, World.cell?_alloc_past]) (first | (go_at_call 53; refine (hact _).mono ?_; rintro e w' ⟨rfl, rfl⟩))
   all_goals (go_wp2_with fail; go_meet; exact ⟨rfl, by rw [← unhide HCH]⟩)
  case rest =>
  obtain ⟨rfl, hwc⟩ := hcut
  clear HCH hact
  obtain ⟨hri, hfr, e0, hF, hbz⟩ := run_start L (unhide HX) (unhide HT) v1 v2 v3 rb tyS (min (max f 0) 5000) (.cells #[.int .i64 0, .int .i64 0, .int .i64 0, .int .i64 0, .int .i64 0, .int .i64 0, .int .i64 0] 37) (.cells #[.nilFunc, .func (Fn.func 83) #[] #[], .func (Fn.func 84) #[] #[], .func (Fn.func 85) #[] #[], .func (Fn.func 86) #[] #[], .func (Fn.func 87) #[] #[], .func (Fn.func 88) #[] #[], .func (Fn.func 89) #[] #[], .func (Fn.func 90) #[] #[], .func (Fn.func 91) #[] #[], .func (Fn.func 92) #[] #[], .func (Fn.func 93) #[] #[]] 123) hwc (unhide HBWW)
  clear hwc
  have hne : w.heap.size + 1 ≠ w.heap.size + 1 + 1 + 1 := by omega
  generalize w.heap.size + 1 + 1 + 1 = b at *
  have hFS : ¬ (fun k => k = b ∨ T k) (w.heap.size + 1) := by
    rintro (h | h)
    · exact hne h
    · have := (unhide HT _ h).2; omega
  have hFz : w.heap.size + 1 < wc.heap.size := by
    have := (Array.getElem?_eq_some_iff.1 hF).1
    exact this
  have hBW := hide (show B ≤ wc.heap.size by have := hri.bound b hri.inB; omega)
  generalize (fun k => k = b ∨ T k) = S at *
  have hSB := hide (fun k (hk : S k) => (hri.bound k hk).1)
  have hv := unhide HV
  have hp3 : pvOf v1 v2 v3 (.iface tyS (.pointer (some ⟨rb, 0, none⟩))) 3 = .iface tyS (.pointer (some ⟨rb, 0, none⟩)) := rfl
  have hop : OpsIn w0 v1 p.sn p.sf := hv.s
  generalize hpv : pvOf v1 v2 v3 (.iface tyS (.pointer (some ⟨rb, 0, none⟩))) = pv at *
  have HPV := hide hpv
  clear hpv
  have hbel := (unhide HBEL).trans (unhide HBE ▸ hfr.below (fun k hk => (unhide HT k hk).1) (unhide HBWW))
  have hq0 : RInv p 5000 (s0 (min (max f 0) 5000)) := by
    refine ⟨⟨⟨by show 0 ≤ min (max f 0) 5000; omega, by show min (max f 0) 5000 ≤ 5000; omega⟩, ⟨by show (0 : Int) ≤ 0; omega, by show (0 : Int) ≤ 1099511627776; omega⟩, ⟨by show (0 : Int) ≤ 0; omega, by show (0 : Int) + min (max f 0) 5000 ≤ 5000; omega⟩, by show 0 + (min (max f 0) 5000).toNat ≤ 5000; omega⟩, ⟨fun _ h => absurd h Bool.false_ne_true, fun _ h => absurd h Bool.false_ne_true, fun _ h => absurd h Bool.false_ne_true, fun _ _ h => absurd h Bool.false_ne_true⟩⟩
  have h60 := handle_any L K hp3 hm.clock hm.lot hs.clock (unhide HBE) hbel hri hop ho.sl ho.tn ho.fn ho.sr hq0.1 (by omega)
  have hq1 := hM_rinv hs ho.sr (s0 (min (max f 0) 5000)) x hq0
  have hm1 := hM_mes hs (f := p.sf) (n := p.sn) p.sn { s0 (min (max f 0) 5000) with next := 0 } x
  have hrun : runM ask p (mes x + 1) f x = turnsM ask p (mes x + 1) (hM ask p.sf p.sn p.sn { s0 (min (max f 0) 5000) with next := 0 } x).1 (hM ask p.sf p.sn p.sn { s0 (min (max f 0) 5000) with next := 0 } x).2 := rfl
  generalize hM ask p.sf p.sn p.sn { s0 (min (max f 0) 5000) with next := 0 } x = Q1 at *
  generalize hfin : runM ask p (mes x + 1) f x = fin at *
  have HR := hide hrun
  have HFN := hide hfin
  have H60 := hide h60
  have HQ1 := hide hq1
  have HM1 := hide hm1
  have HFR := hide hfr
  have HV' := hide hv
  have HBL := hide hbel
  have HF := hide hF
  clear hrun h60 hq1 hm1 hfr hv hbel hri hq0 hop hF hfin HV HX HT
  go_wp2_with (go_at_call 54; refine (unhide H60).mono ?_; rintro e w1 ⟨rfl, S1, vt1, T1, r1, r2⟩; have R1 := hide r1; have R2 := hide r2; clear r1 r2)
  go_loopg [21] (mes x + 1) (fun k u wr => RRel SA ask mes B S wc b pv p fin k wr)
  case atStart => exact ⟨S1, vt1, T1, Q1.1, Q1.2, 5000, unhide R1, unhide R2, (unhide HR).symm, unhide HQ1, by have := unhide HM0; omega, .inr (by have := unhide HM1; omega)⟩
  case round =>
    obtain ⟨S', vt', T', s', x', N', q1, q2, q3, q4, q5, q6⟩ := hrel
    have c66 := (q1.cell 66 (by omega)).trans (by rw [img_fin])
    by_cases hfi : s'.fin = 0
    · obtain ⟨k', rfl⟩ : ∃ k', gk = k' + 1 := ⟨gk - 1, by omega⟩
      have hfb : (s'.fin == 0) = true := by simpa using hfi
      have hu : turnsM ask p (k' + 1) s' x' = turnsM ask p k' (turnM ask p s' x').1 (turnM ask p s' x').2 := by simp only [turnsM]; rw [if_pos hfi]
      have h61 := turn_any L K hp3 hm hs (unhide HBE) (below_of (unhide HBL) (unhide HBE) (unhide hSB) (unhide hBW) q2) q1 (unhide HV') ho q4 (by omega)
      have hi := turnM_rinv hs ho x' q4
      have hme := turnM_mes hs p s' x'
      have H61 := hide h61
      have E := hide (q3.symm.trans hu)
      have HI := hide hi
      have HME := hide hme
      have Q2 := hide q2
      have hlt : mes x' < k' + 1 := by
        rcases q6 with h | h
        · exact absurd hfi h
        · exact h
      clear q1 q2 q3 q4 q6 hu h61 hi hme hfi
      generalize s'.fin = fi at *
      go_wp2_with (go_at_call 55; refine (unhide H61).mono ?_; rintro e w2 ⟨rfl, S2, vt2, T2, r3, r4⟩; have R3 := hide r3; have R4 := hide r4; clear r3 r4)
      go_roundg k'
      case rel =>
        refine ⟨S2, vt2, T2, _, _, N' + 16, unhide R3, (unhide Q2).trans (unhide R4), (unhide E).symm, unhide HI, by omega, ?_⟩
        rcases unhide HME with h | h
        · exact .inl h
        · exact .inr (by omega)
      case measure => omega
    · have e : (s', x') = fin := by rw [← q3, turnsM_stop p gk s' x' hfi]
      have hfb : (s'.fin == 0) = false := by simpa using hfi
      have c64 := (q1.cell 64 (by omega)).trans (by rw [img_trace])
      have c18 := (q1.cell 18 (by omega)).trans (by rw [img_reg _ _ _ 0 (by omega)])
      have c19 := (q1.cell 19 (by omega)).trans (by rw [img_reg _ _ _ 1 (by omega)])
      have c20 := (q1.cell 20 (by omega)).trans (by rw [img_reg _ _ _ 2 (by omega)])
      have c21 := (q1.cell 21 (by omega)).trans (by rw [img_reg _ _ _ 3 (by omega)])
      have c22 := (q1.cell 22 (by omega)).trans (by rw [img_clock])
      have c65 := (q1.cell 65 (by omega)).trans (by rw [img_heard])
      have hFb := (q2.same (w.heap.size + 1) hFz hFS).trans (unhide HF)
      have g0 : wr.cell? ⟨w.heap.size + 1, 0, none⟩ = some (.int .i64 0) := cell_of_row wr (w.heap.size + 1) 0 _ 37 (0, 0) hFb
      have g1 : wr.cell? ⟨w.heap.size + 1, 1, none⟩ = some (.int .i64 0) := cell_of_row wr (w.heap.size + 1) 1 _ 37 (0, 0) hFb
      have g2 : wr.cell? ⟨w.heap.size + 1, 2, none⟩ = some (.int .i64 0) := cell_of_row wr (w.heap.size + 1) 2 _ 37 (0, 0) hFb
      have g3 : wr.cell? ⟨w.heap.size + 1, 3, none⟩ = some (.int .i64 0) := cell_of_row wr (w.heap.size + 1) 3 _ 37 (0, 0) hFb
      have g4 : wr.cell? ⟨w.heap.size + 1, 4, none⟩ = some (.int .i64 0) := cell_of_row wr (w.heap.size + 1) 4 _ 37 (0, 0) hFb
      have g5 : wr.cell? ⟨w.heap.size + 1, 5, none⟩ = some (.int .i64 0) := cell_of_row wr (w.heap.size + 1) 5 _ 37 (0, 0) hFb
      have g6 : wr.cell? ⟨w.heap.size + 1, 6, none⟩ = some (.int .i64 0) := cell_of_row wr (w.heap.size + 1) 6 _ 37 (0, 0) hFb
      have gz := fun j => frozen_rowE hFb j
      have hneb : w.heap.size + 1 ≠ b := hne
      have hne' : b ≠ w.heap.size + 1 := Ne.symm hne
      have Q1' := hide q1
      have Q2 := hide q2
      have E := hide e
      have HS' : Hid (¬ S' (w.heap.size + 1)) := hide (fun h => hFS (q2.old _ hFz h))
      clear q1 q2 q3 q4 q5 q6 e hfi hFb
      generalize hg1 : s'.fin = fi at *
      go_wp2
      go_region
      go_wp2
      refine bodyPost_ret (v := .tuple #[vt', .agg #[.int .i64 fi, .int .i64 (s'.reg 0), .int .i64 (s'.reg 1), .int .i64 (s'.reg 2), .int .i64 (s'.reg 3), .int .i64 s'.clock, .int .i64 s'.heard]]) (by simp [results, Tryz.results29, go_sem, g0, g1, g2, g3, g4, g5, g6]) rfl ?_
      have hS' := unhide HS'
      have q1 := unhide Q1'
      have q2 := (unhide HFR).trans (unhide Q2)
      have hle : w.heap.size ≤ w.heap.size + 1 := Nat.le_succ _
      refine ⟨vt', s', S', T', b, by rw [hg1], by rw [unhide HFN, ← unhide E], ?_, ?_⟩
      · rw [unhide HFN, ← unhide E, unhide HPV]
        exact (((((((q1.setOther L _ _ hS').setOther L _ _ hS').setOther L _ _ hS').setOther L _ _ hS').setOther L _ _ hS').setOther L _ _ hS').setOther L _ _ hS').drew L
      · exact (((((((q2.setCell _ _ (.inr hle)).setCell _ _ (.inr hle)).setCell _ _ (.inr hle)).setCell _ _ (.inr hle)).setCell _ _ (.inr hle)).setCell _ _ (.inr hle)).setCell _ _ (.inr hle)).drew
end
end Go.Proofs.YtfmbebofllgmoaaGreatDoor
namespace Go.Proofs.YtfmbebofllgmoaaGreatDoor
open Go.RowKit
attribute [local go_sem ↓] Go.wp_at_zero Go.wp_at_succ

theorem fold_push (l : List UInt8) : ∀ r : ByteArray, ((l.map fun x => (x.toNat : Int)).foldl (fun r n => r.push (UInt8.ofNat n.toNat)) r) = ⟨r.data ++ l.toArray⟩ := by
  induction l with
  | nil => intro r; apply ByteArray.ext; simp
  | cons x l ih =>
    intro r
    rw [List.map_cons, List.foldl_cons, ih]
    apply ByteArray.ext
    simp
theorem convB {w : World} {g off cap : Nat} {b : ByteArray} (h : ∀ j u, (u8s b)[j]? = some u → w.cell? ((⟨g, off, none⟩ : Addr).add j) = some u) : (convert 54 9 (.slice (some ⟨g, off, none⟩) b.size cap)).run Tryz.prog w = .ok (.string b) w := by
  rw [run_convert_bytes_string w 54 9 5 _ _ _ Tryz.underlying54 Tryz.underlying5 Tryz.underlying9]
  have h1 := run_loadCells_list (P := Tryz.prog) (w := w) ⟨g, off, none⟩ (u8s b) h
  have e : u8s b = (b.data.toList.map fun x => (x.toNat : Int)).map (Value.int .u8) := by simp [u8s]
  rw [u8s_length] at h1
  rw [run_bytesToString w ⟨g, off, none⟩ b.size cap (b.data.toList.map fun x => (x.toNat : Int)) (by rw [h1, e]), fold_push]
  have e2 : (⟨ByteArray.empty.data ++ b.data.toList.toArray⟩ : ByteArray) = b := by apply ByteArray.ext; simp
  rw [e2]

set_option maxHeartbeats 1000000 in
set_option maxRecDepth 20000 in
/-- The last record, and the log. -/
theorem wend_any {w : World} {lb B : Nat} {v : Value} {b : ByteArray} (h : LogAt w lb B v b) (hB : B ≤ w.heap.size) (n : Nat) (hn : n < 1000) (hb : b.size ≤ 800000000) :
    Calls Tryz.prog 38 #[.pointer (some ⟨lb, 0, none⟩), .int .i64 n] w fun e w' => ∃ v', e = .returned (.string (b ++ frameS (bodyS 5 0 n))) ∧ LogAt w' lb B v' (b ++ frameS (bodyS 5 0 n)) ∧ Fr (lgS lb v) w w' (lgS lb v') := by
  have hbs : bodyS 5 0 n = one 5 ++ varS n := by unfold bodyS; rw [if_neg (by omega)]
  have h1s : (one 5).size = 1 := by unfold one; simp
  have hvs := varS_small n (by omega)
  have hsz : (bodyS 5 0 n).size ≤ 1000 := by rw [hbs, ByteArray.size_append]; omega
  have hs0 : 0 < (bodyS 5 0 n).size := by rw [hbs, ByteArray.size_append]; omega
  have hc := wheard_any h hB (.int .i64 5) (.int .i64 0) (.int .i64 n) none 0 0 5 0 n rfl rfl rfl hsz hs0 hb (by
    have := pbody_one 5 0 n (.slice none 0 0) none 0 0 rfl (.inr rfl) (by omega) (w.alloc (.cells #[.int .i64 5, .int .i64 0, .int .i64 n, .slice none 0 0] 49))
    rw [show (w.alloc (.cells #[.int .i64 5, .int .i64 0, .int .i64 n, .slice none 0 0] 49)).heap.size = w.heap.size + 1 by simp] at this
    exact this)
  have hf0 : 0 < (b ++ frameS (bodyS 5 0 n)).size := by
    have := (varS_size (bodyS 5 0 n).size).1
    unfold frameS
    rw [ByteArray.size_append, ByteArray.size_append, ByteArray.size_append]
    omega
  generalize b ++ frameS (bodyS 5 0 n) = R at *
  clear hbs h1s hvs hsz hs0 hb h
  go_enter Tryz.func38, Tryz.ntmps38
  go_wp2_with (go_at_call 64; refine hc.mono ?_; rintro e w1 ⟨v1, rfl, l1, f1⟩; obtain ⟨g, cap, rfl, _, _⟩ := l1.row.bytes hf0; have cl := l1.cell; have hcv := convB (cap := cap) (l1.row.cells hf0); have L1 := hide l1; have F1 := hide f1; clear l1 f1)
  go_ret
  exact ⟨_, rfl, unhide L1, unhide F1⟩

/-- The head of a log. -/
def headS : ByteArray := ((ByteArray.empty.push 82).push 82).push 49
set_option maxRecDepth 20000 in
theorem newWriter_any (w : World) : Calls Tryz.prog 37 #[] w fun e w' => ∃ v, e = .returned (.pointer (some ⟨w.heap.size + 1, 0, none⟩)) ∧ LogAt w' (w.heap.size + 1) w.heap.size v headS ∧ Fr (fun _ => False) w w' (fun _ => False) ∧ (∀ k, own v k → k = w.heap.size) ∧ w'.heap.size = w.heap.size + 2 := by
  have hcv := Go.Lib.run_convert_bytes_const (P := Tryz.prog) w 54 5 #[.int .u8 82, .int .u8 82, .int .u8 49] 3 3 Tryz.underlying54 Tryz.underlying5
  go_enter Tryz.func37, Tryz.ntmps37
  go_wp2
  go_ret
  have z1 : (w.alloc (.cells #[.int .u8 82, .int .u8 82, .int .u8 49] 5 (3, 4))).heap.size = w.heap.size + 1 := by simp
  have hb := heap_alloc_new (w.alloc (.cells #[.int .u8 82, .int .u8 82, .int .u8 49] 5 (3, 4))) (.cells #[.slice (some ⟨w.heap.size, 0, none⟩) 3 3] 149)
  rw [z1] at hb
  have hg : ((w.alloc (.cells #[.int .u8 82, .int .u8 82, .int .u8 49] 5 (3, 4))).alloc (.cells #[.slice (some ⟨w.heap.size, 0, none⟩) 3 3] 149)).heap[w.heap.size]? = some (.cells #[.int .u8 82, .int .u8 82, .int .u8 49] 5 (3, 4)) := (Below.heap_alloc _ _ _ (by rw [z1]; omega)).trans (heap_alloc_new w _)
  refine ⟨.slice (some ⟨w.heap.size, 0, none⟩) 3 3, rfl, ⟨cell_of_row _ _ 0 _ 149 (0, 0) hb, frozen_rowE hb 0, ?_, ?_, by simp⟩, ((Fr.refl _ w).alloc _).alloc _, ?_, by simp⟩
  · refine .inr ⟨w.heap.size, rfl, Nat.le_refl _, by simp; omega, fun j u hj => ?_⟩
    rw [Nat.zero_add, cell_of_row _ _ j _ 5 (3, 4) hg]
    have e : u8s headS = [.int .u8 82, .int .u8 82, .int .u8 49] := by simp [u8s, headS]
    rw [e] at hj
    simpa using hj
  · simp [own, Value.ownBlock]
  · intro k hk
    simp only [own, Value.ownBlock, Option.some.injEq] at hk
    exact hk.symm
end Go.Proofs.YtfmbebofllgmoaaGreatDoor
namespace Go.Proofs.YtfmbebofllgmoaaGreatDoor
open Go.RowKit Go.Conc
attribute [local go_sem ↓] Go.wp_at_zero Go.wp_at_succ

def exRet (Q : Exit → Act → World → Prop) : Exit → Act → World → Prop
  | .ret, a, w => Q .ret a w
  | _, _, _ => False
theorem exRet_ret {Q : Exit → Act → World → Prop} {a : Act} {w : World} (h : Q .ret a w) : exRet Q .ret a w := h
theorem Rn.body {P : Program} {b : Frame} {fn : Func} {R : Ending → World → Prop} {k : List Item} {a : Act} {w : World} {c : Code} (hk : b.kind = .normal) (hf : P.funcs[b.fn]? = some fn) (h : c.wp P (exRet (bodyPost P fn R)) a w) : Rn P b R (.code c :: k) a w :=
  Rn.code (Q := fun _ _ => False) (ret := fun a w => bodyPost P fn R .ret a w) (ex := fun _ _ _ => False) (wp_mono h (fun e a w h => by cases e <;> exact h)) (fun _ _ h => h.elim) (fun _ _ h => ⟨h.1, hk, fn, h.2.choose, hf, h.2.choose_spec.1, h.2.choose_spec.2⟩) (fun _ _ _ h => h.elim)

/-- A closed channel that holds these. -/
def ChanAt (w : World) (c : Nat) (vs : List Value) : Prop := ∃ cap s r, w.heap[c]? = some (.chan cap vs.toArray true s r false)
theorem ChanAt.block {w w' : World} {c : Nat} {vs : List Value} (h : ChanAt w c vs) (hb : w'.heap[c]? = w.heap[c]?) : ChanAt w' c vs := by
  obtain ⟨cap, s, r, e⟩ := h
  exact ⟨cap, s, r, hb.trans e⟩
theorem ChanAt.lt {w : World} {c : Nat} {vs : List Value} (h : ChanAt w c vs) : c < w.heap.size := by
  obtain ⟨cap, s, r, e⟩ := h
  exact (Array.getElem?_eq_some_iff.1 e).1

theorem Fr.setChan (w : World) (c cap : Nat) (buf : Array Value) (cl : Bool) (s r : Nat) (tm : Bool) : Fr (fun k => k = c) w (w.setChan c cap buf cl s r tm) (fun k => k = c) :=
  ⟨rfl, rfl, rfl, by rw [size_setChan]; exact Nat.le_refl _, fun k _ hn => by simp only [World.setChan]; rw [Array.getElem?_setIfInBounds_ne (fun e => hn e.symm)], fun _ _ h => h⟩

/-- A receive from a closed channel. -/
theorem Rn.take {P : Program} {b : Frame} {R : Ending → World → Prop} {k : List Item} {a : Act} {w : World} {ops : Array Oper} {i : Nat} {rest : List Nat} {o : Oper} {c : Nat} {vs : List Value} {z : Value} (hk : b.kind ≠ .early) (ho : ops[i]? = some o) (hw : Region.wanted o (yielded ops a.tmps) = true)
    (hr : (execOp a.eval o).run P w = .ok (.comm #[rcase c z] true (.recv true)) w) (hc : ChanAt w c vs)
    (h : ∀ W, Fr (fun k => k = c) w W (fun k => k = c) → ChanAt W c vs.tail → Rn P b R (.inRegion ops rest :: k) (a.put o.dst (.tuple #[vs.headD z, .bool (!vs.isEmpty)])) W) : Rn P b R (.inRegion ops (i :: rest) :: k) a w := by
  obtain ⟨cap, s, r, hch⟩ := hc
  cases vs with
  | nil => exact Rn.shut true hk ho hw hr hch (h w (Fr.refl _ _) ⟨cap, s, r, hch⟩)
  | cons v vs =>
    refine Rn.recv true hk ho hw hr hch (by simp) ?_
    have := h (w.setChan c cap ((v :: vs).toArray.extract 1 (v :: vs).toArray.size) true s (r + 1) false) (Fr.setChan _ _ _ _ _ _ _ _) ⟨cap, s, r + 1, by
      rw [heap_setChan _ _ _ _ _ _ _ _ (Array.getElem?_eq_some_iff.1 hch).1]
      simp⟩
    simpa [got] using this

theorem Fr.wide {w w' : World} (h : Fr (fun _ => False) w w' (fun _ => False)) (S : Nat → Prop) : Fr S w w' S := ⟨h.os, h.tape, h.output, h.size, fun k hk _ => h.same k hk (fun h => h), fun _ _ h => h⟩
/-- The answer is laid into its new block. -/
theorem outS {S : Nat → Prop} {w W w' : World} (h : Fr S w W S) (h' : Fr (fun _ => False) W w' (fun _ => False)) (v0 v1 v2 v3 : Value) :
    Fr S w ((((w'.setCell ⟨w.heap.size, 0, none⟩ v0).setCell ⟨w.heap.size, 1, none⟩ v1).setCell ⟨w.heap.size, 2, none⟩ v2).setCell ⟨w.heap.size, 3, none⟩ v3) S :=
  ((((h.trans (h'.wide S)).setCell _ _ (.inr (Nat.le_refl _))).setCell _ _ (.inr (Nat.le_refl _))).setCell _ _ (.inr (Nat.le_refl _))).setCell _ _ (.inr (Nat.le_refl _))
theorem outC {S : Nat → Prop} {w W w' : World} {c : Nat} {vs : List Value} (_ : Fr S w W S) (h' : Fr (fun _ => False) W w' (fun _ => False)) (hc : ChanAt W c vs) (hn : w.heap.size ≠ c) (v0 v1 v2 v3 : Value) :
    ChanAt ((((w'.setCell ⟨w.heap.size, 0, none⟩ v0).setCell ⟨w.heap.size, 1, none⟩ v1).setCell ⟨w.heap.size, 2, none⟩ v2).setCell ⟨w.heap.size, 3, none⟩ v3) c vs :=
  hc.block ((((Below.heap_setCell _ _ _ _ (Ne.symm hn)).trans (Below.heap_setCell _ _ _ _ (Ne.symm hn))).trans (Below.heap_setCell _ _ _ _ (Ne.symm hn))).trans ((Below.heap_setCell _ _ _ _ (Ne.symm hn)).trans (h'.same c hc.lt (fun h => h))))

theorem u95 (x y z : Value) : (#[x, y, z] ++ Array.replicate (95 - (#[x, y, z] : Array Value).size) undef) = (x :: y :: z :: List.replicate 92 undef).toArray := by simp

set_option maxRecDepth 100000 in
set_option maxHeartbeats 2000000 in
theorem hearS_clock {w : World} {sb c0 : Nat} (hs : w.cell? ⟨sb, 0, none⟩ = some (.chan (some c0))) (hsb : sb < w.heap.size) (hne : sb ≠ c0) (l : List Int) (hc : ChanAt w c0 (l.map (.int .i64))) (o : Int) {R : Ending → World → Prop}
    (hR : ∀ w', Fr (fun k => k = c0) w w' (fun k => k = c0) → ChanAt w' c0 (l.tail.map (.int .i64)) → R (.returned (.tuple #[if !l.isEmpty then .agg #[.int .i64 1, .int .i64 0, .int .i64 (min (max (l.headD 0) 0) 1099511627776), .slice none 0 0] else .agg #[.int .i64 0, .int .i64 0, .int .i64 0, .slice none 0 0], .int .i64 (if !l.isEmpty then 0 else 5)])) w') :
    Calls Tryz.prog 182 #[.pointer (some ⟨sb, 0, none⟩), .int .i64 1, .int .i64 o] w R := by
  have HR := hide hR
  clear hR
  refine calls_of_rn Tryz.func182 rfl ?_
  rw [Tryz.ntmps182, u95]
  simp only [List.replicate]
  have h161 := fun k o n => heard_any k o n (.slice none 0 0) none 0 0 rfl
  have hf1 := (Fr.refl (fun k => k = c0) w).alloc (.cells #[.int .i64 0, .int .i64 0, .int .i64 0, .slice none 0 0] 49)
  have hs1 : (w.alloc (.cells #[.int .i64 0, .int .i64 0, .int .i64 0, .slice none 0 0] 49)).cell? ⟨sb, 0, none⟩ = some (.chan (some c0)) := (hf1.cell sb 0 hsb hne).trans hs
  have hc1 : ChanAt (w.alloc (.cells #[.int .i64 0, .int .i64 0, .int .i64 0, .slice none 0 0] 49)) c0 (l.map (.int .i64)) := hc.block (Below.heap_alloc _ _ _ hc.lt)
  have hrow := heap_alloc_new w (.cells #[.int .i64 0, .int .i64 0, .int .i64 0, .slice none 0 0] 49)
  have hw1 : w.heap.size ≠ c0 := by have := hc.lt; omega
  have hz1 : w.heap.size < (w.alloc (.cells #[.int .i64 0, .int .i64 0, .int .i64 0, .slice none 0 0] 49)).heap.size := by simp
  have H161 := hide h161
  have HF1 := hide hf1
  have HROW := hide hrow
  have HC1 := hide hc1
  clear h161 hf1 hrow hc1 hc hs
  refine Rn.seq (Rn.go ?_)
  go_wp2
  generalize hW : w.alloc (.cells #[.int .i64 0, .int .i64 0, .int .i64 0, .slice none 0 0] 49) = W1 at *
  clear hW
  refine exNo_normal (Rn.seq (Rn.seq (Rn.go ?_)))
  go_wp2
  refine exNo_normal (Rn.block (Rn.seq (Rn.go ?_)))
  go_wp2
  refine exNo_normal (Rn.cond (t := true) rfl ?_)
  simp only [if_true]
  refine Rn.seq (Rn.region' [0, 1, 2, 3, 4, 5, 6, 7, 8, 9] rfl ?_)
  refine Rn.op rfl rfl rfl ?_
  refine Rn.op rfl rfl rfl ?_
  refine Rn.op rfl rfl rfl ?_
  refine Rn.op (v := .chan (some c0)) (w' := W1) rfl rfl ?_ ?_
  · simp [execOp, Act.eval, Act.put, go_sem, hs1]
  refine Rn.take (c := c0) (z := .int .i64 0) (vs := l.map (.int .i64)) (by decide) rfl rfl ?_ (unhide HC1) ?_
  · simp [execOp, Act.eval, Act.put, go_sem, rcase]
  intro W2 f2 c2
  have e1 : (l.map (Value.int .i64)).headD (.int .i64 0) = .int .i64 (l.headD 0) := by cases l <;> rfl
  have e2 : (l.map (Value.int .i64)).isEmpty = l.isEmpty := by cases l <;> rfl
  have e3 : (l.map (Value.int .i64)).tail = l.tail.map (Value.int .i64) := by cases l <;> rfl
  rw [e1, e2]
  rw [e3] at c2
  have C2 := hide c2
  have F2 := hide ((unhide HF1).trans f2)
  have HR2 := hide ((f2.same w.heap.size hz1 hw1).trans (unhide HROW))
  have hz2 := Nat.lt_of_lt_of_le hz1 f2.size
  clear e1 e2 e3 c2 f2 HC1 HROW HF1 hs1
  generalize (!l.isEmpty) = ok at *
  generalize l.headD 0 = n at *
  simp only [Act.put]
  refine Rn.op (v := .tuple #[.int .i64 n, .bool ok]) (w' := W2) rfl rfl (by simp [execOp, Act.eval, go_sem]) ?_
  simp only [Act.put]
  refine Rn.op (v := .int .i64 n) (w' := W2) rfl rfl (by simp [execOp, Act.eval, go_sem]) ?_
  simp only [Act.put]
  refine Rn.op (v := .bool ok) (w' := W2) rfl rfl (by simp [execOp, Act.eval, go_sem]) ?_
  simp only [Act.put]
  refine Rn.op (v := .int .i64 n) (w' := W2) rfl rfl (by simp [execOp, Act.eval, go_sem]) ?_
  simp only [Act.put]
  refine Rn.op (v := .bool ok) (w' := W2) rfl rfl (by simp [execOp, Act.eval, go_sem]) ?_
  simp only [Act.put]
  refine Rn.regionEnd (Rn.body rfl Tryz.func182 ?_)
  cases ok
  · go_wp2_with (go_at_call 183; refine (unhide H161 _ _ _ _ _).mono ?_; rintro e w3 ⟨rfl, f3⟩; have hrow := (f3.same _ hz2 (fun h => h)).trans (unhide HR2); have hcell := fun j => cell_of_row w3 w.heap.size j _ 49 (0, 0) hrow; have hfz := fun j => frozen_rowE hrow j; have F3 := hide f3; clear f3 hrow)
    refine exRet_ret (bodyPost_ret (v := .tuple #[.agg #[.int .i64 0, .int .i64 0, .int .i64 0, .slice none 0 0], .int .i64 5]) (by simp [results, Tryz.results182, go_sem, hcell]) rfl ?_)
    exact unhide HR _ (outS (unhide F2) (unhide F3) _ _ _ _) (outC (unhide F2) (unhide F3) (unhide C2) hw1 _ _ _ _)
  · go_wp2_with (go_at_call 183; refine (unhide H161 _ _ _ _ _).mono ?_; rintro e w3 ⟨rfl, f3⟩; have hrow := (f3.same _ hz2 (fun h => h)).trans (unhide HR2); have hcell := fun j => cell_of_row w3 w.heap.size j _ 49 (0, 0) hrow; have hfz := fun j => frozen_rowE hrow j; have F3 := hide f3; clear f3 hrow)
    refine exRet_ret (bodyPost_ret (v := .tuple #[.agg #[.int .i64 1, .int .i64 0, .int .i64 (min (max n 0) 1099511627776), .slice none 0 0], .int .i64 0]) (by simp [results, Tryz.results182, go_sem, hcell]) rfl ?_)
    exact unhide HR _ (outS (unhide F2) (unhide F3) _ _ _ _) (outC (unhide F2) (unhide F3) (unhide C2) hw1 _ _ _ _)
set_option maxRecDepth 100000 in
set_option maxHeartbeats 2000000 in
theorem hearS_pick {w : World} {sb c0 : Nat} (hs : w.cell? ⟨sb, 2, none⟩ = some (.chan (some c0))) (hsb : sb < w.heap.size) (hne : sb ≠ c0) (l : List Int) (hc : ChanAt w c0 (l.map (.int .i64))) (o : Int) (ho1 : 1 ≤ o) (ho2 : o ≤ 1000000) {R : Ending → World → Prop}
    (hR : ∀ w', Fr (fun k => k = c0) w w' (fun k => k = c0) → ChanAt w' c0 (l.tail.map (.int .i64)) → R (.returned (.tuple #[if !l.isEmpty then .agg #[.int .i64 3, .int .i64 o, .int .i64 (l.headD 0 % o), .slice none 0 0] else .agg #[.int .i64 0, .int .i64 0, .int .i64 0, .slice none 0 0], .int .i64 (if !l.isEmpty then 0 else 5)])) w') :
    Calls Tryz.prog 182 #[.pointer (some ⟨sb, 0, none⟩), .int .i64 3, .int .i64 o] w R := by
  have HR := hide hR
  clear hR
  refine calls_of_rn Tryz.func182 rfl ?_
  rw [Tryz.ntmps182, u95]
  simp only [List.replicate]
  have h161 := fun k o n => heard_any k o n (.slice none 0 0) none 0 0 rfl
  have hf1 := (Fr.refl (fun k => k = c0) w).alloc (.cells #[.int .i64 0, .int .i64 0, .int .i64 0, .slice none 0 0] 49)
  have hs1 : (w.alloc (.cells #[.int .i64 0, .int .i64 0, .int .i64 0, .slice none 0 0] 49)).cell? ⟨sb, 2, none⟩ = some (.chan (some c0)) := (hf1.cell sb 2 hsb hne).trans hs
  have hc1 : ChanAt (w.alloc (.cells #[.int .i64 0, .int .i64 0, .int .i64 0, .slice none 0 0] 49)) c0 (l.map (.int .i64)) := hc.block (Below.heap_alloc _ _ _ hc.lt)
  have hrow := heap_alloc_new w (.cells #[.int .i64 0, .int .i64 0, .int .i64 0, .slice none 0 0] 49)
  have hw1 : w.heap.size ≠ c0 := by have := hc.lt; omega
  have hz1 : w.heap.size < (w.alloc (.cells #[.int .i64 0, .int .i64 0, .int .i64 0, .slice none 0 0] 49)).heap.size := by simp
  have H161 := hide h161
  have H163 := hide (fun n w => modulo_any n o w ho1 ho2)
  have HF1 := hide hf1
  have HROW := hide hrow
  have HC1 := hide hc1
  clear h161 hf1 hrow hc1 hc hs
  refine Rn.seq (Rn.go ?_)
  go_wp2
  generalize hW : w.alloc (.cells #[.int .i64 0, .int .i64 0, .int .i64 0, .slice none 0 0] 49) = W1 at *
  clear hW
  refine exNo_normal (Rn.seq (Rn.seq (Rn.go ?_)))
  go_wp2
  refine exNo_normal (Rn.block (Rn.seq (Rn.go ?_)))
  go_wp2
  refine exNo_normal (Rn.cond (t := false) rfl ?_)
  simp only [if_false, Bool.false_eq_true]
  refine Rn.seq (Rn.go ?_)
  go_wp2
  refine exNo_normal (Rn.cond (t := false) rfl ?_)
  simp only [if_false, Bool.false_eq_true]
  refine Rn.seq (Rn.go ?_)
  go_wp2
  refine exNo_normal (Rn.cond (t := true) rfl ?_)
  simp only [if_true]
  refine Rn.seq (Rn.region' [0, 1, 2, 3, 4, 5, 6, 7, 8, 9] rfl ?_)
  refine Rn.op rfl rfl rfl ?_
  refine Rn.op rfl rfl rfl ?_
  refine Rn.op rfl rfl rfl ?_
  refine Rn.op (v := .chan (some c0)) (w' := W1) rfl rfl ?_ ?_
  · simp [execOp, Act.eval, Act.put, go_sem, hs1]
  refine Rn.take (c := c0) (z := .int .i64 0) (vs := l.map (.int .i64)) (by decide) rfl rfl ?_ (unhide HC1) ?_
  · simp [execOp, Act.eval, Act.put, go_sem, rcase]
  intro W2 f2 c2
  have e1 : (l.map (Value.int .i64)).headD (.int .i64 0) = .int .i64 (l.headD 0) := by cases l <;> rfl
  have e2 : (l.map (Value.int .i64)).isEmpty = l.isEmpty := by cases l <;> rfl
  have e3 : (l.map (Value.int .i64)).tail = l.tail.map (Value.int .i64) := by cases l <;> rfl
  rw [e1, e2]
  rw [e3] at c2
  have C2 := hide c2
  have F2 := hide ((unhide HF1).trans f2)
  have HR2 := hide ((f2.same w.heap.size hz1 hw1).trans (unhide HROW))
  have hz2 := Nat.lt_of_lt_of_le hz1 f2.size
  clear e1 e2 e3 c2 f2 HC1 HROW HF1 hs1
  generalize (!l.isEmpty) = ok at *
  generalize l.headD 0 = n at *
  simp only [Act.put]
  refine Rn.op (v := .tuple #[.int .i64 n, .bool ok]) (w' := W2) rfl rfl (by simp [execOp, Act.eval, go_sem]) ?_
  simp only [Act.put]
  refine Rn.op (v := .int .i64 n) (w' := W2) rfl rfl (by simp [execOp, Act.eval, go_sem]) ?_
  simp only [Act.put]
  refine Rn.op (v := .bool ok) (w' := W2) rfl rfl (by simp [execOp, Act.eval, go_sem]) ?_
  simp only [Act.put]
  refine Rn.op (v := .int .i64 n) (w' := W2) rfl rfl (by simp [execOp, Act.eval, go_sem]) ?_
  simp only [Act.put]
  refine Rn.op (v := .bool ok) (w' := W2) rfl rfl (by simp [execOp, Act.eval, go_sem]) ?_
  simp only [Act.put]
  refine Rn.regionEnd (Rn.body rfl Tryz.func182 ?_)
  cases ok
  · go_wp2_with (first | (go_at_call 185; refine (unhide H163 _ _).mono ?_; rintro e w3 ⟨rfl, rfl⟩) | (go_at_call 183; refine (unhide H161 _ _ _ _ _).mono ?_; rintro e w3 ⟨rfl, f3⟩; have hrow := (f3.same _ hz2 (fun h => h)).trans (unhide HR2); have hcell := fun j => cell_of_row w3 w.heap.size j _ 49 (0, 0) hrow; have hfz := fun j => frozen_rowE hrow j; have F3 := hide f3; clear f3 hrow))
    refine exRet_ret (bodyPost_ret (v := .tuple #[.agg #[.int .i64 0, .int .i64 0, .int .i64 0, .slice none 0 0], .int .i64 5]) (by simp [results, Tryz.results182, go_sem, hcell]) rfl ?_)
    exact unhide HR _ (outS (unhide F2) (unhide F3) _ _ _ _) (outC (unhide F2) (unhide F3) (unhide C2) hw1 _ _ _ _)
  · go_wp2_with (first | (go_at_call 185; refine (unhide H163 _ _).mono ?_; rintro e w3 ⟨rfl, rfl⟩) | (go_at_call 183; refine (unhide H161 _ _ _ _ _).mono ?_; rintro e w3 ⟨rfl, f3⟩; have hrow := (f3.same _ hz2 (fun h => h)).trans (unhide HR2); have hcell := fun j => cell_of_row w3 w.heap.size j _ 49 (0, 0) hrow; have hfz := fun j => frozen_rowE hrow j; have F3 := hide f3; clear f3 hrow))
    refine exRet_ret (bodyPost_ret (v := .tuple #[.agg #[.int .i64 3, .int .i64 o, .int .i64 (n % o), .slice none 0 0], .int .i64 0]) (by simp [results, Tryz.results182, go_sem, hcell]) rfl ?_)
    exact unhide HR _ (outS (unhide F2) (unhide F3) _ _ _ _) (outC (unhide F2) (unhide F3) (unhide C2) hw1 _ _ _ _)
set_option maxRecDepth 100000 in
set_option maxHeartbeats 2000000 in
theorem hearS_lot {w : World} {sb c0 : Nat} (hs : w.cell? ⟨sb, 3, none⟩ = some (.chan (some c0))) (hsb : sb < w.heap.size) (hne : sb ≠ c0) (l : List Int) (hc : ChanAt w c0 (l.map (.int .i64))) (o : Int) (ho1 : 1 ≤ o) (ho2 : o ≤ 1000000) {R : Ending → World → Prop}
    (hR : ∀ w', Fr (fun k => k = c0) w w' (fun k => k = c0) → ChanAt w' c0 (l.tail.map (.int .i64)) → R (.returned (.tuple #[if !l.isEmpty then .agg #[.int .i64 4, .int .i64 o, .int .i64 (l.headD 0 % o), .slice none 0 0] else .agg #[.int .i64 0, .int .i64 0, .int .i64 0, .slice none 0 0], .int .i64 (if !l.isEmpty then 0 else 5)])) w') :
    Calls Tryz.prog 182 #[.pointer (some ⟨sb, 0, none⟩), .int .i64 4, .int .i64 o] w R := by
  have HR := hide hR
  clear hR
  refine calls_of_rn Tryz.func182 rfl ?_
  rw [Tryz.ntmps182, u95]
  simp only [List.replicate]
  have h161 := fun k o n => heard_any k o n (.slice none 0 0) none 0 0 rfl
  have hf1 := (Fr.refl (fun k => k = c0) w).alloc (.cells #[.int .i64 0, .int .i64 0, .int .i64 0, .slice none 0 0] 49)
  have hs1 : (w.alloc (.cells #[.int .i64 0, .int .i64 0, .int .i64 0, .slice none 0 0] 49)).cell? ⟨sb, 3, none⟩ = some (.chan (some c0)) := (hf1.cell sb 3 hsb hne).trans hs
  have hc1 : ChanAt (w.alloc (.cells #[.int .i64 0, .int .i64 0, .int .i64 0, .slice none 0 0] 49)) c0 (l.map (.int .i64)) := hc.block (Below.heap_alloc _ _ _ hc.lt)
  have hrow := heap_alloc_new w (.cells #[.int .i64 0, .int .i64 0, .int .i64 0, .slice none 0 0] 49)
  have hw1 : w.heap.size ≠ c0 := by have := hc.lt; omega
  have hz1 : w.heap.size < (w.alloc (.cells #[.int .i64 0, .int .i64 0, .int .i64 0, .slice none 0 0] 49)).heap.size := by simp
  have H161 := hide h161
  have H163 := hide (fun n w => modulo_any n o w ho1 ho2)
  have HF1 := hide hf1
  have HROW := hide hrow
  have HC1 := hide hc1
  clear h161 hf1 hrow hc1 hc hs
  refine Rn.seq (Rn.go ?_)
  go_wp2
  generalize hW : w.alloc (.cells #[.int .i64 0, .int .i64 0, .int .i64 0, .slice none 0 0] 49) = W1 at *
  clear hW
  refine exNo_normal (Rn.seq (Rn.seq (Rn.go ?_)))
  go_wp2
  refine exNo_normal (Rn.block (Rn.seq (Rn.go ?_)))
  go_wp2
  refine exNo_normal (Rn.cond (t := false) rfl ?_)
  simp only [if_false, Bool.false_eq_true]
  refine Rn.seq (Rn.go ?_)
  go_wp2
  refine exNo_normal (Rn.cond (t := false) rfl ?_)
  simp only [if_false, Bool.false_eq_true]
  refine Rn.seq (Rn.go ?_)
  go_wp2
  refine exNo_normal (Rn.cond (t := false) rfl ?_)
  simp only [if_false, Bool.false_eq_true]
  refine Rn.seq (Rn.go ?_)
  go_wp2
  refine exNo_normal (Rn.cond (t := true) rfl ?_)
  simp only [if_true]
  refine Rn.seq (Rn.region' [0, 1, 2, 3, 4, 5, 6, 7, 8, 9] rfl ?_)
  refine Rn.op rfl rfl rfl ?_
  refine Rn.op rfl rfl rfl ?_
  refine Rn.op rfl rfl rfl ?_
  refine Rn.op (v := .chan (some c0)) (w' := W1) rfl rfl ?_ ?_
  · simp [execOp, Act.eval, Act.put, go_sem, hs1]
  refine Rn.take (c := c0) (z := .int .i64 0) (vs := l.map (.int .i64)) (by decide) rfl rfl ?_ (unhide HC1) ?_
  · simp [execOp, Act.eval, Act.put, go_sem, rcase]
  intro W2 f2 c2
  have e1 : (l.map (Value.int .i64)).headD (.int .i64 0) = .int .i64 (l.headD 0) := by cases l <;> rfl
  have e2 : (l.map (Value.int .i64)).isEmpty = l.isEmpty := by cases l <;> rfl
  have e3 : (l.map (Value.int .i64)).tail = l.tail.map (Value.int .i64) := by cases l <;> rfl
  rw [e1, e2]
  rw [e3] at c2
  have C2 := hide c2
  have F2 := hide ((unhide HF1).trans f2)
  have HR2 := hide ((f2.same w.heap.size hz1 hw1).trans (unhide HROW))
  have hz2 := Nat.lt_of_lt_of_le hz1 f2.size
  clear e1 e2 e3 c2 f2 HC1 HROW HF1 hs1
  generalize (!l.isEmpty) = ok at *
  generalize l.headD 0 = n at *
  simp only [Act.put]
  refine Rn.op (v := .tuple #[.int .i64 n, .bool ok]) (w' := W2) rfl rfl (by simp [execOp, Act.eval, go_sem]) ?_
  simp only [Act.put]
  refine Rn.op (v := .int .i64 n) (w' := W2) rfl rfl (by simp [execOp, Act.eval, go_sem]) ?_
  simp only [Act.put]
  refine Rn.op (v := .bool ok) (w' := W2) rfl rfl (by simp [execOp, Act.eval, go_sem]) ?_
  simp only [Act.put]
  refine Rn.op (v := .int .i64 n) (w' := W2) rfl rfl (by simp [execOp, Act.eval, go_sem]) ?_
  simp only [Act.put]
  refine Rn.op (v := .bool ok) (w' := W2) rfl rfl (by simp [execOp, Act.eval, go_sem]) ?_
  simp only [Act.put]
  refine Rn.regionEnd (Rn.body rfl Tryz.func182 ?_)
  cases ok
  · go_wp2_with (first | (go_at_call 185; refine (unhide H163 _ _).mono ?_; rintro e w3 ⟨rfl, rfl⟩) | (go_at_call 183; refine (unhide H161 _ _ _ _ _).mono ?_; rintro e w3 ⟨rfl, f3⟩; have hrow := (f3.same _ hz2 (fun h => h)).trans (unhide HR2); have hcell := fun j => cell_of_row w3 w.heap.size j _ 49 (0, 0) hrow; have hfz := fun j => frozen_rowE hrow j; have F3 := hide f3; clear f3 hrow))
    refine exRet_ret (bodyPost_ret (v := .tuple #[.agg #[.int .i64 0, .int .i64 0, .int .i64 0, .slice none 0 0], .int .i64 5]) (by simp [results, Tryz.results182, go_sem, hcell]) rfl ?_)
    exact unhide HR _ (outS (unhide F2) (unhide F3) _ _ _ _) (outC (unhide F2) (unhide F3) (unhide C2) hw1 _ _ _ _)
  · go_wp2_with (first | (go_at_call 185; refine (unhide H163 _ _).mono ?_; rintro e w3 ⟨rfl, rfl⟩) | (go_at_call 183; refine (unhide H161 _ _ _ _ _).mono ?_; rintro e w3 ⟨rfl, f3⟩; have hrow := (f3.same _ hz2 (fun h => h)).trans (unhide HR2); have hcell := fun j => cell_of_row w3 w.heap.size j _ 49 (0, 0) hrow; have hfz := fun j => frozen_rowE hrow j; have F3 := hide f3; clear f3 hrow))
    refine exRet_ret (bodyPost_ret (v := .tuple #[.agg #[.int .i64 4, .int .i64 o, .int .i64 (n % o), .slice none 0 0], .int .i64 0]) (by simp [results, Tryz.results182, go_sem, hcell]) rfl ?_)
    exact unhide HR _ (outS (unhide F2) (unhide F3) _ _ _ _) (outC (unhide F2) (unhide F3) (unhide C2) hw1 _ _ _ _)
theorem ownI_shape {w : World} {B : Nat} {v : Value} {l : List Int} (h : OwnI w B v l) : ∃ a n c, v = .slice a n c := by
  rcases h.2 with ⟨h1, _⟩ | ⟨g, cap, cur, hv, _⟩
  · exact ⟨_, _, _, h1⟩
  · exact ⟨_, _, _, hv⟩
set_option maxRecDepth 100000 in
set_option maxHeartbeats 2000000 in
theorem hearS_batch {w : World} {sb c0 : Nat} (hs : w.cell? ⟨sb, 1, none⟩ = some (.chan (some c0))) (hsb : sb < w.heap.size) (hne : sb ≠ c0) (bs : List (Value × List Int)) (hc : ChanAt w c0 (bs.map (·.1))) (hin : ∀ p, p ∈ bs → IntsIn w p.1 p.2 (fun q => q < w.heap.size ∧ q ≠ c0) ∧ p.2.length ≤ 100000000) (o : Int) {R : Ending → World → Prop}
    (hR : ∀ w' fv, Fr (fun k => k = c0) w w' (fun k => k = c0) → ChanAt w' c0 (bs.tail.map (·.1)) → (bs ≠ [] → OwnI w' (w.heap.size + 1) fv (filesL (bs.headD (.slice none 0 0, [])).2)) → R (.returned (.tuple #[if !bs.isEmpty then .agg #[.int .i64 2, .int .i64 0, .int .i64 0, fv] else .agg #[.int .i64 0, .int .i64 0, .int .i64 0, .slice none 0 0], .int .i64 (if !bs.isEmpty then 0 else 5)])) w') :
    Calls Tryz.prog 182 #[.pointer (some ⟨sb, 0, none⟩), .int .i64 2, .int .i64 o] w R := by
  have HR := hide hR
  clear hR
  refine calls_of_rn Tryz.func182 rfl ?_
  rw [Tryz.ntmps182, u95]
  simp only [List.replicate]
  have h161 := fun k o n a l c => heard_any k o n (.slice a l c) a l c rfl
  have hf1 := (Fr.refl (fun k => k = c0) w).alloc (.cells #[.int .i64 0, .int .i64 0, .int .i64 0, .slice none 0 0] 49)
  have hs1 : (w.alloc (.cells #[.int .i64 0, .int .i64 0, .int .i64 0, .slice none 0 0] 49)).cell? ⟨sb, 1, none⟩ = some (.chan (some c0)) := (hf1.cell sb 1 hsb hne).trans hs
  have hc1 : ChanAt (w.alloc (.cells #[.int .i64 0, .int .i64 0, .int .i64 0, .slice none 0 0] 49)) c0 (bs.map (·.1)) := hc.block (Below.heap_alloc _ _ _ hc.lt)
  have hrow := heap_alloc_new w (.cells #[.int .i64 0, .int .i64 0, .int .i64 0, .slice none 0 0] 49)
  have hw1 : w.heap.size ≠ c0 := by have := hc.lt; omega
  have hz1 : w.heap.size < (w.alloc (.cells #[.int .i64 0, .int .i64 0, .int .i64 0, .slice none 0 0] 49)).heap.size := by simp
  have H161 := hide h161
  have HIN := hide hin
  have HF1 := hide hf1
  have HROW := hide hrow
  have HC1 := hide hc1
  clear h161 hf1 hrow hc1 hc hs hin
  refine Rn.seq (Rn.go ?_)
  go_wp2
  generalize hW : w.alloc (.cells #[.int .i64 0, .int .i64 0, .int .i64 0, .slice none 0 0] 49) = W1 at *
  clear hW
  refine exNo_normal (Rn.seq (Rn.seq (Rn.go ?_)))
  go_wp2
  refine exNo_normal (Rn.block (Rn.seq (Rn.go ?_)))
  go_wp2
  refine exNo_normal (Rn.cond (t := false) rfl ?_)
  simp only [if_false, Bool.false_eq_true]
  refine Rn.seq (Rn.go ?_)
  go_wp2
  refine exNo_normal (Rn.cond (t := true) rfl ?_)
  simp only [if_true]
  refine Rn.seq (Rn.region' [0, 1, 2, 3, 4, 5, 6, 7, 8, 9] rfl ?_)
  refine Rn.op rfl rfl rfl ?_
  refine Rn.op rfl rfl rfl ?_
  refine Rn.op rfl rfl rfl ?_
  refine Rn.op (v := .chan (some c0)) (w' := W1) rfl rfl ?_ ?_
  · simp [execOp, Act.eval, Act.put, go_sem, hs1]
  refine Rn.take (c := c0) (z := .slice none 0 0) (vs := bs.map (·.1)) (by decide) rfl rfl ?_ (unhide HC1) ?_
  · simp [execOp, Act.eval, Act.put, go_sem, rcase]
  intro W2 f2 c2
  have hI : IntsIn W2 (bs.headD (.slice none 0 0, [])).1 (bs.headD (.slice none 0 0, [])).2 (fun q => q < W2.heap.size) ∧ (bs.headD (.slice none 0 0, [])).2.length ≤ 100000000 := by
    cases bs with
    | nil => exact ⟨⟨none, 0, rfl, .inl rfl⟩, by simp⟩
    | cons p r =>
      obtain ⟨⟨a, c, ha, hq⟩, hl⟩ := unhide HIN p (List.mem_cons_self ..)
      refine ⟨⟨a, c, ha, hq.imp id fun ⟨q, off, h1, h2, h3⟩ => ⟨q, off, h1, ?_, fun i hi => ?_⟩⟩, hl⟩
      · exact Nat.lt_of_lt_of_le h2.1 (Nat.le_trans (unhide HF1).size f2.size)
      · exact (((unhide HF1).trans f2).cell q (off + i) h2.1 h2.2).trans (h3 i hi)
  have e1 : (bs.map (·.1)).headD (.slice none 0 0) = (bs.headD (.slice none 0 0, [])).1 := by cases bs <;> rfl
  have e2 : (bs.map (·.1)).isEmpty = bs.isEmpty := by cases bs <;> rfl
  have e3 : (bs.map (·.1)).tail = bs.tail.map (·.1) := by cases bs <;> rfl
  have e4 : (!bs.isEmpty) = false → bs = [] := by cases bs <;> simp
  rw [e1, e2]
  rw [e3] at c2
  have C2 := hide c2
  have F2 := hide ((unhide HF1).trans f2)
  have HR2 := hide ((f2.same w.heap.size hz1 hw1).trans (unhide HROW))
  have hz2 := Nat.lt_of_lt_of_le hz1 f2.size
  have H162 := hide (files_any (fun q h => h) hI.1 hI.2)
  obtain ⟨⟨fa, fc, hfv, _⟩, _⟩ := hI
  have E4 := hide e4
  clear e1 e2 e3 e4 c2 f2 HC1 HROW HF1 hs1 HIN
  generalize hok : (!bs.isEmpty) = ok at *
  have HOK := hide hok
  clear hok
  generalize hp : bs.headD (.slice none 0 0, []) = p at *
  clear hp
  obtain ⟨pv, l⟩ := p
  simp only at hfv H162 HR
  subst hfv
  simp only [Act.put]
  refine Rn.op (v := .tuple #[.slice fa l.length fc, .bool ok]) (w' := W2) rfl rfl (by simp [execOp, Act.eval, go_sem]) ?_
  simp only [Act.put]
  refine Rn.op (v := .slice fa l.length fc) (w' := W2) rfl rfl (by simp [execOp, Act.eval, go_sem]) ?_
  simp only [Act.put]
  refine Rn.op (v := .bool ok) (w' := W2) rfl rfl (by simp [execOp, Act.eval, go_sem]) ?_
  simp only [Act.put]
  refine Rn.op (v := .slice fa l.length fc) (w' := W2) rfl rfl (by simp [execOp, Act.eval, go_sem]) ?_
  simp only [Act.put]
  refine Rn.op (v := .bool ok) (w' := W2) rfl rfl (by simp [execOp, Act.eval, go_sem]) ?_
  simp only [Act.put]
  refine Rn.regionEnd (Rn.body rfl Tryz.func182 ?_)
  cases ok
  · go_wp2_with (first
      | (go_at_call 184; refine (unhide H162).mono ?_; rintro e w4 ⟨v4, rfl, o4, f4⟩; obtain ⟨a4, n4, c4, rfl⟩ := ownI_shape o4; have F4 := hide f4; clear f4)
      | (go_at_call 183; refine (unhide H161 _ _ _ _ _ _ _ _).mono ?_; rintro e w3 ⟨rfl, f3⟩; have f5 := (unhide F4).trans f3; have hrow := (f5.same _ hz2 (fun h => h)).trans (unhide HR2); have hcell := fun j => cell_of_row w3 w.heap.size j _ 49 (0, 0) hrow; have hfz := fun j => frozen_rowE hrow j; have F3 := hide f5; clear f3 f5 hrow))
    refine exRet_ret (bodyPost_ret (v := .tuple #[.agg #[.int .i64 0, .int .i64 0, .int .i64 0, .slice none 0 0], .int .i64 5]) (by simp [results, Tryz.results182, go_sem, hcell]) rfl ?_)
    exact unhide HR _ (.slice none 0 0) (outS (unhide F2) (unhide F3) _ _ _ _) (outC (unhide F2) (unhide F3) (unhide C2) hw1 _ _ _ _) (fun h => absurd (unhide E4 trivial) h)
  · go_wp2_with (first
      | (go_at_call 184; refine (unhide H162).mono ?_; rintro e w4 ⟨v4, rfl, o4, f4⟩; obtain ⟨a4, n4, c4, rfl⟩ := ownI_shape o4; have O4 := hide o4; have F4 := hide f4; clear o4 f4)
      | (go_at_call 183; refine (unhide H161 _ _ _ _ _ _ _ _).mono ?_; rintro e w3 ⟨rfl, f3⟩; have f5 := (unhide F4).trans f3; have hrow := (f5.same _ hz2 (fun h => h)).trans (unhide HR2); have hcell := fun j => cell_of_row w3 w.heap.size j _ 49 (0, 0) hrow; have hfz := fun j => frozen_rowE hrow j; have O5 := hide (ownsRow_of_block (unhide O4) (fun q hq => f3.same q (World.ownsRow.lt (unhide O4) q hq).2 (fun h => h))); have F3 := hide f5; clear f3 f5 hrow))
    refine exRet_ret (bodyPost_ret (v := .tuple #[.agg #[.int .i64 2, .int .i64 0, .int .i64 0, .slice a4 n4 c4], .int .i64 0]) (by simp [results, Tryz.results182, go_sem, hcell]) rfl ?_)
    refine unhide HR _ (.slice a4 n4 c4) (outS (unhide F2) (unhide F3) _ _ _ _) (outC (unhide F2) (unhide F3) (unhide C2) hw1 _ _ _ _) (fun _ => ?_)
    have o5 := unhide O5
    have hlow : ∀ q, own (.slice a4 n4 c4) q → w.heap.size + 1 ≤ q := fun q hq => by have := (World.ownsRow.lt o5 q hq).1; omega
    refine ⟨o5.1, ?_⟩
    have o6 := ownsRow_of_block (w' := (((w3.setCell ⟨w.heap.size, 0, none⟩ (.int .i64 2)).setCell ⟨w.heap.size, 1, none⟩ (.int .i64 0)).setCell ⟨w.heap.size, 2, none⟩ (.int .i64 0)).setCell ⟨w.heap.size, 3, none⟩ (.slice a4 n4 c4)) o5 (fun q hq => by
      have hne : q ≠ w.heap.size := by have := hlow q hq; omega
      rw [Below.heap_setCell _ _ _ _ hne, Below.heap_setCell _ _ _ _ hne, Below.heap_setCell _ _ _ _ hne, Below.heap_setCell _ _ _ _ hne])
    exact o6.2.imp id fun ⟨g, cap, cur, e1, e2, r⟩ => ⟨g, cap, cur, e1, by omega, r⟩
end Go.Proofs.YtfmbebofllgmoaaGreatDoor
namespace Go.Proofs.YtfmbebofllgmoaaGreatDoor
open Go.RowKit
attribute [local go_sem ↓] Go.wp_at_zero Go.wp_at_succ

/-- What a source has answered: if it is an input, what its body is. -/
structure Answ (w1 : World) (z0 z1 z2 : Int) (a : Option Addr) (l c : Nat) (en : Int) (bd : ByteArray) : Prop where
  len : en = 0 → bd.size ≤ 1000 ∧ 0 < bd.size
  body : en = 0 → ∀ W, (∀ q, own (.slice a l c) q → W.heap[q]? = w1.heap[q]?) → w1.heap.size ≤ W.heap.size → Calls Tryz.prog 102 #[.agg #[.int .i64 z0, .int .i64 z1, .int .i64 z2, .slice a l c]] W fun e w' => ∃ v', e = .returned v' ∧ OwnB w' W.heap.size v' bd ∧ Fr (fun _ => False) W w' (fun _ => False)
  old : ∀ q, own (.slice a l c) q → q < w1.heap.size

theorem LogAt.block {w w' : World} {lb B : Nat} {v : Value} {b : ByteArray} (h : LogAt w lb B v b) (hb : ∀ q, lgS lb v q → w'.heap[q]? = w.heap[q]?) (hz : w.heap.size ≤ w'.heap.size) : LogAt w' lb B v b :=
  ⟨(World.cell?_of_block (w := w) (a := ⟨lb, 0, none⟩) (hb lb (.inl rfl))).trans h.cell, (World.frozen?_of_block (w := w) (a := ⟨lb, 0, none⟩) (hb lb (.inl rfl))).trans h.free, h.row.block (fun q hq => hb q (.inr hq)), h.sep, Nat.lt_of_lt_of_le h.lt hz⟩

/-- The input in a box of its own. -/
def boxW (w1 : World) (z0 z1 z2 : Int) (a : Option Addr) (l c : Nat) : World := w1.alloc (.cells #[.int .i64 z0, .int .i64 z1, .int .i64 z2, .slice a l c] 49)

/-- Four cells are written over. -/
theorem out4 {W : World} {g : Nat} {a0 a1 a2 a3 : Value} (h : W.heap[g]? = some (.cells #[a0, a1, a2, a3] 49)) (x0 x1 x2 x3 : Value) :
    ((((W.setCell ⟨g, 0, none⟩ x0).setCell ⟨g, 1, none⟩ x1).setCell ⟨g, 2, none⟩ x2).setCell ⟨g, 3, none⟩ x3).heap[g]? = some (.cells #[x0, x1, x2, x3] 49) := by
  have h0 := setRow_heap W g #[a0, a1, a2, a3] (#[a0, a1, a2, a3].setIfInBounds 0 x0) 49 (0, 0) h
  rw [← setCell_eq_setRow W g 0 _ 49 (0, 0) x0 h] at h0
  have h1 := setRow_heap _ g _ ((#[a0, a1, a2, a3].setIfInBounds 0 x0).setIfInBounds 1 x1) 49 (0, 0) h0
  rw [← setCell_eq_setRow _ g 1 _ 49 (0, 0) x1 h0] at h1
  have h2 := setRow_heap _ g _ (((#[a0, a1, a2, a3].setIfInBounds 0 x0).setIfInBounds 1 x1).setIfInBounds 2 x2) 49 (0, 0) h1
  rw [← setCell_eq_setRow _ g 2 _ 49 (0, 0) x2 h1] at h2
  have h3 := setRow_heap _ g _ ((((#[a0, a1, a2, a3].setIfInBounds 0 x0).setIfInBounds 1 x1).setIfInBounds 2 x2).setIfInBounds 3 x3) 49 (0, 0) h2
  rw [← setCell_eq_setRow _ g 3 _ 49 (0, 0) x3 h2] at h3
  exact h3
theorem out4_other {W : World} {g q : Nat} (hq : q ≠ g) (x0 x1 x2 x3 : Value) : ((((W.setCell ⟨g, 0, none⟩ x0).setCell ⟨g, 1, none⟩ x1).setCell ⟨g, 2, none⟩ x2).setCell ⟨g, 3, none⟩ x3).heap[q]? = W.heap[q]? := by
  rw [Below.heap_setCell _ _ _ _ hq, Below.heap_setCell _ _ _ _ hq, Below.heap_setCell _ _ _ _ hq, Below.heap_setCell _ _ _ _ hq]
theorem out4_size {W : World} {g : Nat} (x0 x1 x2 x3 : Value) : ((((W.setCell ⟨g, 0, none⟩ x0).setCell ⟨g, 1, none⟩ x1).setCell ⟨g, 2, none⟩ x2).setCell ⟨g, 3, none⟩ x3).heap.size = W.heap.size := by simp [World.setCell]
theorem out4_fr {S S' : Nat → Prop} {w W : World} (h : Fr S w W S') {g : Nat} (hg : S g ∨ w.heap.size ≤ g) (x0 x1 x2 x3 : Value) : Fr S w ((((W.setCell ⟨g, 0, none⟩ x0).setCell ⟨g, 1, none⟩ x1).setCell ⟨g, 2, none⟩ x2).setCell ⟨g, 3, none⟩ x3) S' :=
  (((h.setCell _ _ hg).setCell _ _ hg).setCell _ _ hg).setCell _ _ hg

set_option maxHeartbeats 2000000 in
set_option maxRecDepth 20000 in
theorem rec_gen {w : World} {rb sb lb B : Nat} {v : Value} {log : ByteArray} (c0 : w.cell? ⟨rb, 0, none⟩ = some (.pointer (some ⟨sb, 0, none⟩))) (c1 : w.cell? ⟨rb, 1, none⟩ = some (.pointer (some ⟨lb, 0, none⟩))) (hrb : rb < w.heap.size) (hB : B ≤ w.heap.size) (hlog : log.size ≤ 800000000) (hlb : lb < w.heap.size) (k o : Int)
    (Q : World → Int → Int → Int → Option Addr → Nat → Nat → Int → ByteArray → Prop)
    (h160 : Calls Tryz.prog 182 #[.pointer (some ⟨sb, 0, none⟩), .int .i64 k, .int .i64 o] (w.alloc (.cells #[.int .i64 0, .int .i64 0, .int .i64 0, .slice none 0 0] 49)) fun e w1 => ∃ z0 z1 z2 a l c en bd, e = .returned (.tuple #[.agg #[.int .i64 z0, .int .i64 z1, .int .i64 z2, .slice a l c], .int .i64 en]) ∧ Answ w1 z0 z1 z2 a l c en bd ∧ LogAt w1 lb B v log ∧
      w1.heap[rb]? = w.heap[rb]? ∧ w1.heap[w.heap.size]? = some (.cells #[.int .i64 0, .int .i64 0, .int .i64 0, .slice none 0 0] 49) ∧ (¬ own v w.heap.size) ∧ Q w1 z0 z1 z2 a l c en bd) :
    Calls Tryz.prog 181 #[.pointer (some ⟨rb, 0, none⟩), .int .i64 k, .int .i64 o] w fun e w' => ∃ w1 z0 z1 z2 a l c en bd v', e = .returned (.tuple #[.agg #[.int .i64 z0, .int .i64 z1, .int .i64 z2, .slice a l c], .int .i64 en]) ∧ Q w1 z0 z1 z2 a l c en bd ∧ LogAt w' lb B v' (if en = 0 then log ++ frameS bd else log) ∧
      Fr (fun k => lgS lb v k ∨ k = w.heap.size) w1 w' (fun k => lgS lb v' k ∨ k = w.heap.size) ∧ ¬ own v' w.heap.size := by
  have k0 : (w.alloc (.cells #[.int .i64 0, .int .i64 0, .int .i64 0, .slice none 0 0] 49)).cell? ⟨rb, 0, none⟩ = some (.pointer (some ⟨sb, 0, none⟩)) := (World.cell?_of_block (w := w) (a := ⟨rb, 0, none⟩) (Below.heap_alloc _ _ _ hrb)).trans c0
  have C1 := hide c1
  clear c0 c1
  generalize hpost : (fun (e : Ending) (w' : World) => ∃ w1 z0 z1 z2 a l c en bd v', e = .returned (.tuple #[.agg #[.int .i64 z0, .int .i64 z1, .int .i64 z2, .slice a l c], .int .i64 en]) ∧ Q w1 z0 z1 z2 a l c en bd ∧ LogAt w' lb B v' (if en = 0 then log ++ frameS bd else log) ∧
      Fr (fun k => lgS lb v k ∨ k = w.heap.size) w1 w' (fun k => lgS lb v' k ∨ k = w.heap.size) ∧ ¬ own v' w.heap.size) = R
  have HP := hide hpost
  clear hpost
  have H160 := hide h160
  clear h160
  go_enter Tryz.func181, Tryz.ntmps181
  go_wp2_with fail
  go_at_call 182
  refine (unhide H160).mono ?_
  rintro e w1 ⟨z0, z1, z2, a, l, c, en, bd, rfl, an, lg, hr, hz, hv, hq⟩
  have hrz : rb < w1.heap.size := by rw [Array.getElem?_eq_getElem hrb] at hr; exact (Array.getElem?_eq_some_iff.1 hr).1
  have hwz : w.heap.size < w1.heap.size := (Array.getElem?_eq_some_iff.1 hz).1
  have hbox := heap_alloc_new w1 (.cells #[.int .i64 z0, .int .i64 z1, .int .i64 z2, .slice a l c] 49)
  have hr2 : (boxW w1 z0 z1 z2 a l c).heap[w.heap.size]? = some (.cells #[.int .i64 0, .int .i64 0, .int .i64 0, .slice none 0 0] 49) := (Below.heap_alloc _ _ _ hwz).trans hz
  have d1 : (boxW w1 z0 z1 z2 a l c).cell? ⟨rb, 1, none⟩ = some (.pointer (some ⟨lb, 0, none⟩)) := (World.cell?_of_block (w := w) (a := ⟨rb, 1, none⟩) ((Below.heap_alloc _ _ _ hrz).trans hr)).trans (unhide C1)
  have AN := hide an
  have LG := hide lg
  have HV := hide hv
  have HQ := hide hq
  have HB2 := hide hbox
  have HR2 := hide hr2
  have HZ := hide hz
  clear hr hz hv hq hbox hr2 an lg
  unfold boxW at *
  have q0 : w1.cell? ⟨w.heap.size, 0, none⟩ = some (.int .i64 0) := cell_of_row _ _ 0 _ 49 (0, 0) (unhide HZ)
  have q1 : w1.cell? ⟨w.heap.size, 1, none⟩ = some (.int .i64 0) := cell_of_row _ _ 1 _ 49 (0, 0) (unhide HZ)
  have q2 : w1.cell? ⟨w.heap.size, 2, none⟩ = some (.int .i64 0) := cell_of_row _ _ 2 _ 49 (0, 0) (unhide HZ)
  have q3 : w1.cell? ⟨w.heap.size, 3, none⟩ = some (.slice none 0 0) := cell_of_row _ _ 3 _ 49 (0, 0) (unhide HZ)
  have qf := fun j => frozen_rowE (unhide HZ) j
  have hne : w.heap.size ≠ w1.heap.size := by omega
  have hne' : ¬ w1.heap.size = w.heap.size := by omega
  by_cases he : en = 0
  · subst he
    have h70 := wheard_any (w := (w1.alloc (.cells #[.int .i64 z0, .int .i64 z1, .int .i64 z2, .slice a l c] 49)).drew) (lb := lb) (B := B) (v := v) (b := log) (bd := bd)
      ((unhide LG).block (fun q hq => Below.heap_alloc _ _ _ (by
        rcases hq with rfl | hq
        · exact (unhide LG).lt
        · exact ((unhide LG).row.bump q hq).2)) (by show w1.heap.size ≤ (w1.alloc _).heap.size; simp))
      (by show B ≤ (w1.alloc _).heap.size; simp; omega) (.int .i64 z0) (.int .i64 z1) (.int .i64 z2) a l c z0 z1 z2 rfl rfl rfl ((unhide AN).len rfl).1 ((unhide AN).len rfl).2 hlog
      (by
        have hz3 : (((w1.alloc (.cells #[.int .i64 z0, .int .i64 z1, .int .i64 z2, .slice a l c] 49)).drew).alloc (.cells #[.int .i64 z0, .int .i64 z1, .int .i64 z2, .slice a l c] 49)).heap.size = (w1.alloc (.cells #[.int .i64 z0, .int .i64 z1, .int .i64 z2, .slice a l c] 49)).drew.heap.size + 1 := by simp
        have := (unhide AN).body rfl (((w1.alloc (.cells #[.int .i64 z0, .int .i64 z1, .int .i64 z2, .slice a l c] 49)).drew).alloc (.cells #[.int .i64 z0, .int .i64 z1, .int .i64 z2, .slice a l c] 49))
          (fun q hq => (Below.heap_alloc _ _ _ (by show q < (w1.alloc _).heap.size; have := (unhide AN).old q hq; simp; omega)).trans (Below.heap_alloc _ _ _ ((unhide AN).old q hq)))
          (by rw [hz3]; show w1.heap.size ≤ (w1.alloc _).heap.size + 1; simp; omega)
        rw [hz3] at this
        exact this)
    have H70 := hide h70
    have nl : ¬ lgS lb v w.heap.size := fun h => h.elim (fun h => by omega) (unhide HV)
    have nb : ¬ lgS lb v w1.heap.size := fun h => h.elim (fun h => by have := (unhide LG).lt; omega) (fun h => by have := ((unhide LG).row.bump _ h).2; omega)
    have NL := hide nl
    have NB := hide nb
    clear h70 nl nb
    go_wp2
    go_region_with (go_at_call 64; refine (unhide H70).mono ?_; rintro e w2 ⟨v2, rfl, l2, f2⟩; have r1 := (f2.same w.heap.size (by show _ < (w1.alloc _).heap.size; simp; omega) (unhide NL)).trans (unhide HR2); have r2 := (f2.same w1.heap.size (by show _ < (w1.alloc _).heap.size; simp) (unhide NB)).trans (unhide HB2); have t0 := fun j => cell_of_row w2 _ j _ 49 (0, 0) r1; have t1 := fun j => cell_of_row w2 _ j _ 49 (0, 0) r2; have tf := fun j => frozen_rowE r1 j; have L2 := hide l2; have F2 := hide f2; have R1 := hide r1; clear l2 f2 r1 r2)
    all_goals
      go_wp2
      have g0 := fun j => cell_of_row _ _ j _ 49 (0, 0) (out4 (unhide R1) (.int .i64 z0) (.int .i64 z1) (.int .i64 z2) (.slice a l c))
      refine bodyPost_ret (v := .tuple #[.agg #[.int .i64 z0, .int .i64 z1, .int .i64 z2, .slice a l c], .int .i64 0]) (by simp [results, Tryz.results181, go_sem, g0]) rfl ?_
      rw [← unhide HP]
      have f2 := unhide F2
      have hn : ¬ lgS lb v2 w.heap.size := fun h => unhide NL (f2.old _ (by show _ < (w1.alloc _).heap.size; simp; omega) h)
      refine ⟨w1, z0, z1, z2, a, l, c, 0, bd, v2, rfl, unhide HQ, ?_, ?_, fun h => hn (.inr h)⟩
      · rw [if_pos rfl]
        exact (unhide L2).block (fun q hq => out4_other (by rintro rfl; exact hn hq) _ _ _ _) (Nat.le_of_eq (out4_size _ _ _ _).symm)
      · have f3 : Fr (lgS lb v) w1 w2 (lgS lb v2) := Fr.unalloc (o := .cells #[.int .i64 z0, .int .i64 z1, .int .i64 z2, .slice a l c] 49) ⟨f2.os, f2.tape, f2.output, f2.size, f2.same, f2.old⟩
        have f4 : Fr (fun k => lgS lb v k ∨ k = w.heap.size) w1 w2 (fun k => lgS lb v2 k ∨ k = w.heap.size) := ⟨f3.os, f3.tape, f3.output, f3.size, fun k hk hn => f3.same k hk (fun h => hn (.inl h)), fun k hk h => h.imp (f3.old k hk) id⟩
        exact out4_fr f4 (.inl (.inr rfl)) _ _ _ _
  · have hen : (en == 0) = false := by simpa using he
    have hfin : (((((w1.setCell ⟨w.heap.size, 0, none⟩ (.int .i64 z0)).setCell ⟨w.heap.size, 1, none⟩ (.int .i64 z1)).setCell ⟨w.heap.size, 2, none⟩ (.int .i64 z2)).setCell ⟨w.heap.size, 3, none⟩ (.slice a l c)).alloc (.cells #[.int .i64 z0, .int .i64 z1, .int .i64 z2, .slice a l c] 49)).heap[w.heap.size]? = some (.cells #[.int .i64 z0, .int .i64 z1, .int .i64 z2, .slice a l c] 49) :=
      (Below.heap_alloc _ _ _ (by rw [out4_size]; exact hwz)).trans (out4 (unhide HZ) _ _ _ _)
    have g0 := fun j => cell_of_row _ _ j _ 49 (0, 0) hfin
    have HFIN := hide hfin
    clear hfin
    have G0 := hide g0
    clear g0
    go_wp2
    have g0 := unhide G0
    refine bodyPost_ret (v := .tuple #[.agg #[.int .i64 z0, .int .i64 z1, .int .i64 z2, .slice a l c], .int .i64 en]) (by simp [results, Tryz.results181, go_sem, g0]) rfl ?_
    rw [← unhide HP]
    refine ⟨w1, z0, z1, z2, a, l, c, en, bd, v, rfl, unhide HQ, ?_, ?_, unhide HV⟩
    · rw [if_neg he]
      refine (unhide LG).block (fun q hq => ?_) ?_
      · have hlt : q < w1.heap.size := by
          rcases hq with rfl | hq
          · exact (unhide LG).lt
          · exact ((unhide LG).row.bump q hq).2
        have hn : q ≠ w.heap.size := by
          rintro rfl
          rcases hq with hq | hq
          · omega
          · exact unhide HV hq
        exact (Below.heap_alloc _ _ _ (by rw [out4_size]; exact hlt)).trans (out4_other hn _ _ _ _)
      · rw [← out4_size (W := w1) (g := w.heap.size) (.int .i64 z0) (.int .i64 z1) (.int .i64 z2) (.slice a l c)]; simp
    · exact (out4_fr (Fr.refl (fun k => lgS lb v k ∨ k = w.heap.size) w1) (.inl (.inr rfl)) _ _ _ _).alloc _
end Go.Proofs.YtfmbebofllgmoaaGreatDoor
namespace Go.Proofs.YtfmbebofllgmoaaGreatDoor
open Go.RowKit

/-- What a world has still to say, and the log so far. -/
structure RS where
  clocks : List Int
  batches : List (Value × List Int)
  picks : List Int
  lots : List Int
  log : ByteArray
def RS.left (x : RS) : Nat := x.clocks.length + x.batches.length + x.picks.length + x.lots.length
def noRep : Rep := ⟨0, 0, 0, [], 5⟩
def clampC (n : Int) : Int := min (max n 0) 1099511627776
/-- The recorder's answer. -/
def recAsk (x : RS) (k o : Int) : Rep × RS :=
  if k = 1 then match x.clocks with
    | [] => (noRep, x)
    | n :: r => (⟨1, 0, clampC n, [], 0⟩, { x with clocks := r, log := x.log ++ frameS (bodyS 1 0 (clampC n).toNat) })
  else if k = 2 then match x.batches with
    | [] => (noRep, x)
    | b :: r => (⟨2, 0, 0, filesL b.2, 0⟩, { x with batches := r, log := x.log ++ frameS (batchS (filesL b.2)) })
  else if k = 3 then match x.picks with
    | [] => (noRep, x)
    | n :: r => (⟨3, o, n % o, [], 0⟩, { x with picks := r, log := x.log ++ frameS (bodyS 3 o.toNat (n % o).toNat) })
  else match x.lots with
    | [] => (noRep, x)
    | n :: r => (⟨4, o, n % o, [], 0⟩, { x with lots := r, log := x.log ++ frameS (bodyS 4 o.toNat (n % o).toNat) })
def mayR (k o : Int) : Prop := (k = 1 ∧ o = 0) ∨ (k = 2 ∧ o = 0) ∨ (k = 3 ∧ 2 ≤ o ∧ o ≤ 8) ∨ (k = 4 ∧ 1 ≤ o ∧ o ≤ 1000000)

theorem mayR_ok : MayOk mayR := ⟨.inl ⟨rfl, rfl⟩, .inr (.inl ⟨rfl, rfl⟩), fun n h1 h2 => .inr (.inr (.inl ⟨rfl, by omega, by omega⟩)), fun v h1 h2 => .inr (.inr (.inr ⟨rfl, h1, h2⟩))⟩

/-- The recorder in memory. -/
structure RecAt (rb sb lb c0 c1 c2 c3 B : Nat) (v : Value) (L : Nat → Prop) (ob : Nat → Option Obj) (T : Nat → Prop) (w : World) (x : RS) : Prop where
  r0 : w.cell? ⟨rb, 0, none⟩ = some (.pointer (some ⟨sb, 0, none⟩))
  r1 : w.cell? ⟨rb, 1, none⟩ = some (.pointer (some ⟨lb, 0, none⟩))
  s0 : w.cell? ⟨sb, 0, none⟩ = some (.chan (some c0))
  s1 : w.cell? ⟨sb, 1, none⟩ = some (.chan (some c1))
  s2 : w.cell? ⟨sb, 2, none⟩ = some (.chan (some c2))
  s3 : w.cell? ⟨sb, 3, none⟩ = some (.chan (some c3))
  h0 : ChanAt w c0 (x.clocks.map (.int .i64))
  h1 : ChanAt w c1 (x.batches.map (·.1))
  h2 : ChanAt w c2 (x.picks.map (.int .i64))
  h3 : ChanAt w c3 (x.lots.map (.int .i64))
  log : LogAt w lb B v x.log
  low : B ≤ w.heap.size
  nod : [rb, sb, lb, c0, c1, c2, c3].Nodup
  inT : ∀ q, q ∈ [rb, sb, lb, c0, c1, c2, c3] → T q ∧ ¬ L q ∧ ¬ own v q
  vT : ∀ q, own v q → T q ∧ ¬ L q
  lT : ∀ q, L q → T q
  lent : ∀ q, L q → w.heap[q]? = ob q
  bs : ∀ p, p ∈ x.batches → IntsIn w p.1 p.2 L ∧ p.2.length ≤ 100000000
  room : x.log.size + 40 * x.left ≤ 700000000
def RecA (rb : Nat) (L : Nat → Prop) (ob : Nat → Option Obj) (T : Nat → Prop) (w : World) (x : RS) : Prop := ∃ sb lb c0 c1 c2 c3 B v, RecAt rb sb lb c0 c1 c2 c3 B v L ob T w x

theorem IntsIn.block {w w' : World} {v : Value} {l : List Int} {P : Nat → Prop} (h : IntsIn w v l P) (hb : ∀ q, P q → w'.heap[q]? = w.heap[q]?) : IntsIn w' v l P := by
  obtain ⟨a, c, hv, hc⟩ := h
  refine ⟨a, c, hv, hc.imp id fun ⟨q, off, e, hq, hcell⟩ => ⟨q, off, e, hq, fun i hi => ?_⟩⟩
  rw [World.cell?_of_block (w := w) (a := ⟨q, off + i, none⟩) (hb q hq)]
  exact hcell i hi

theorem recA_law (rb : Nat) (L : Nat → Prop) (ob : Nat → Option Obj) : SrcLaw (RecA rb L ob) := by
  constructor
  rintro S w w' x ⟨sb, lb, c0, c1, c2, c3, B, v, h⟩ hs hz
  have m := fun q hq => hs q (h.inT q hq).1
  have cel := fun q hq off => World.cell?_of_block (w := w) (w' := w') (a := ⟨q, off, none⟩) (m q hq)
  refine ⟨sb, lb, c0, c1, c2, c3, B, v, ?_, ?_, ?_, ?_, ?_, ?_, h.h0.block (m _ (by simp)), h.h1.block (m _ (by simp)), h.h2.block (m _ (by simp)), h.h3.block (m _ (by simp)), ?_, Nat.le_trans h.low hz, h.nod, h.inT, h.vT, h.lT, ?_, ?_, h.room⟩
  · exact (cel rb (by simp) 0).trans h.r0
  · exact (cel rb (by simp) 1).trans h.r1
  · exact (cel sb (by simp) 0).trans h.s0
  · exact (cel sb (by simp) 1).trans h.s1
  · exact (cel sb (by simp) 2).trans h.s2
  · exact (cel sb (by simp) 3).trans h.s3
  · exact h.log.block (fun q hq => by
      rcases hq with rfl | hq
      · exact m _ (by simp)
      · exact hs q (h.vT q hq).1) hz
  · exact fun q hq => (hs q (h.lT q hq)).trans (h.lent q hq)
  · exact fun p hp => ⟨(h.bs p hp).1.block (fun q hq => hs q (h.lT q hq)), (h.bs p hp).2⟩

theorem filesL_mem (l : List Int) (z : Int) (h : z ∈ filesL l) : 0 ≤ z ∧ z < 8 := filesK_mem _ 8 z h
theorem filesL_most (l : List Int) : (filesL l).length ≤ 8 := filesK_length _ 8
theorem recAsk_ok : SrcOk recAsk (fun x => x.clocks.length) := by
  refine ⟨?_, ?_, ?_, ?_, ?_, ?_⟩
  · intro x k o
    simp only [recAsk]
    split
    · split <;> simp_all
    · split
      · split <;> simp
      · split
        · split <;> simp
        · split <;> simp
  · intro x h
    simp only [recAsk, if_true] at h ⊢
    split at h
    · simp [noRep] at h
    · rename_i n r hx
      simp [hx]
  · intro x h
    simp only [recAsk, if_true] at h ⊢
    split at h
    · simp [noRep] at h
    · rename_i n r hx
      simp only [clampC]
      omega
  · intro x n h2 h8 h
    have e1 : ¬ (3 : Int) = 1 := by omega
    have e2 : ¬ (3 : Int) = 2 := by omega
    simp only [recAsk, e1, e2, if_false, if_true] at h ⊢
    split at h
    · simp [noRep] at h
    · exact ⟨Int.emod_nonneg _ (by omega), Int.emod_lt_of_pos _ (by omega)⟩
  · intro x z h
    have e1 : ¬ (2 : Int) = 1 := by omega
    simp only [recAsk, e1, if_false, if_true] at h
    split at h
    · simp [noRep] at h
    · exact filesL_mem _ z h
  · intro x
    have e1 : ¬ (2 : Int) = 1 := by omega
    simp only [recAsk, e1, if_false, if_true]
    split
    · simp [noRep]
    · exact filesL_most _

theorem varS_le (k : Nat) : ∀ n, n < 128 ^ k → (varS n).size ≤ k + 1 := by
  induction k with
  | zero => intro n h; rw [varS_eq, if_pos (by omega)]; simp
  | succ k ih =>
    intro n h
    rw [varS_eq]
    by_cases hn : n < 128
    · rw [if_pos hn]; simp
    · rw [if_neg hn, ByteArray.size_append]
      have h1 : n / 128 < 128 ^ k := by
        rw [Nat.div_lt_iff_lt_mul (by omega)]
        rw [Nat.pow_succ] at h
        exact h
      have := ih (n / 128) h1
      simp
      omega
theorem varS_one (n : Nat) (h : n < 128) : (varS n).size = 1 := by rw [varS_eq, if_pos h]; simp
theorem one_size (k : Nat) : (one k).size = 1 := by unfold one; simp
theorem sumS_size (b : ByteArray) : (sumS b).size = 4 := b4_size _
theorem frameS_size (b : ByteArray) (h : b.size ≤ 32) : (frameS b).size ≤ 40 := by
  unfold frameS
  rw [ByteArray.size_append, ByteArray.size_append, sumS_size, varS_one _ (by omega)]
  omega
theorem bodyS_size (k o n : Nat) (ho : o ≤ 1099511627776) (hn : n ≤ 1099511627776) : (bodyS k o n).size ≤ 32 ∧ 0 < (bodyS k o n).size := by
  have h1 := varS_le 6 o (by omega)
  have h2 := varS_le 6 n (by omega)
  unfold bodyS
  split
  · rw [ByteArray.size_append, ByteArray.size_append, one_size]; omega
  · rw [ByteArray.size_append, one_size]; omega
theorem filesS_size (l : List Int) (hz : ∀ z, z ∈ l → 0 ≤ z ∧ z < 8) : ∀ r, (filesS l r).size = r.size + l.length := by
  induction l with
  | nil => intro r; simp [filesS]
  | cons z l ih =>
    intro r
    have h := hz z (List.mem_cons_self ..)
    have := ih (fun z hm => hz z (List.mem_cons_of_mem _ hm)) (r ++ varS z.toNat)
    simp only [filesS, List.foldl_cons] at this ⊢
    rw [this, ByteArray.size_append, varS_one _ (by omega), List.length_cons]
    omega
theorem batchS_size (l : List Int) (hz : ∀ z, z ∈ l → 0 ≤ z ∧ z < 8) (h8 : l.length ≤ 8) : (batchS l).size ≤ 32 ∧ 0 < (batchS l).size := by
  unfold batchS
  rw [filesS_size l hz, ByteArray.size_append, one_size, varS_one _ (by omega)]
  omega

/-- The source has answered by its channel ci, and what was heard is written down. -/
theorem RecAt.next {rb sb lb c0 c1 c2 c3 B : Nat} {v : Value} {L : Nat → Prop} {ob : Nat → Option Obj} {T : Nat → Prop} {w : World} {x : RS} (h : RecAt rb sb lb c0 c1 c2 c3 B v L ob T w x) (hT : ∀ q, T q → q < w.heap.size) {ci : Nat} (hci : ci ∈ [c0, c1, c2, c3]) {o : Obj} {w1 w' : World} {v' : Value} {x' : RS}
    (f1 : Fr (fun k => k = ci) (w.alloc o) w1 (fun k => k = ci)) (fl : Fr (fun k => lgS lb v k ∨ k = w.heap.size) w1 w' (fun k => lgS lb v' k ∨ k = w.heap.size)) (lg : LogAt w' lb B v' x'.log) (hnw : ¬ own v' w.heap.size)
    (hx : ∀ w'' : World, (∀ q, q ∈ [c0, c1, c2, c3] → w''.heap[q]? = w1.heap[q]?) → ChanAt w'' c0 (x'.clocks.map (.int .i64)) ∧ ChanAt w'' c1 (x'.batches.map (·.1)) ∧ ChanAt w'' c2 (x'.picks.map (.int .i64)) ∧ ChanAt w'' c3 (x'.lots.map (.int .i64)))
    (hb : ∀ p, p ∈ x'.batches → p ∈ x.batches) (hr : x'.log.size + 40 * x'.left ≤ 700000000) :
    ∃ T', RecA rb L ob T' w' x' ∧ Fr T w w' T' ∧ (∀ q, T' q → q < w'.heap.size) ∧ (∀ q, w.heap.size < q → q < w1.heap.size → ¬ T' q) := by
  have hz1 : w.heap.size < w1.heap.size := Nat.lt_of_lt_of_le (by simp) f1.size
  have hcm : ∀ q, q ∈ [c0, c1, c2, c3] → q ∈ [rb, sb, lb, c0, c1, c2, c3] := by intro q hq; simp at hq ⊢; omega
  have hTw : ∀ q, T q → q < w1.heap.size := fun q hq => Nat.lt_trans (hT q hq) hz1
  -- a block of the source that is not the channel, the log, or the log's row
  have same : ∀ q, T q → q ≠ ci → q ≠ lb → ¬ own v q → w'.heap[q]? = w.heap[q]? := by
    intro q hq h1 h2 h3
    have hlt := hT q hq
    refine (fl.same q (hTw q hq) ?_).trans ((f1.same q (by simp; omega) h1).trans (Below.heap_alloc _ _ _ hlt))
    rintro ((h | h) | h)
    · exact h2 h
    · exact h3 h
    · omega
  have sep := (List.nodup_append (l₁ := [rb, sb, lb]) (l₂ := [c0, c1, c2, c3]).1 h.nod).2.2
  have hlr : lb ≠ rb ∧ lb ≠ sb := by
    have := (List.nodup_append (l₁ := [rb, sb, lb]) (l₂ := [c0, c1, c2, c3]).1 h.nod).1
    simp at this
    exact ⟨fun e => this.1.2 e.symm, fun e => this.2 e.symm⟩
  have hcil : rb ≠ ci ∧ sb ≠ ci ∧ lb ≠ ci := ⟨sep rb (by simp) ci hci, sep sb (by simp) ci hci, sep lb (by simp) ci hci⟩
  have hv' : ∀ q, own v' q → (own v q ∨ w1.heap.size ≤ q) ∧ q < w'.heap.size ∧ q ≠ lb := by
    intro q hq
    have hb := (lg.row.bump q hq).2
    have hnl : q ≠ lb := by rintro rfl; exact lg.sep hq
    refine ⟨?_, hb, hnl⟩
    by_cases hlt : q < w1.heap.size
    · rcases fl.old q hlt (.inl (.inr hq)) with (h1 | h1) | h1
      · exact absurd h1 hnl
      · exact .inl h1
      · exact absurd (h1 ▸ hq) hnw
    · exact .inr (by omega)
  have cell : ∀ q off, q ∈ [rb, sb] → w'.cell? ⟨q, off, none⟩ = w.cell? ⟨q, off, none⟩ := by
    intro q off hq
    have hm : q ∈ [rb, sb, lb, c0, c1, c2, c3] := by simp at hq ⊢; rcases hq with h | h <;> simp [h]
    have h1 : q ≠ ci := by simp at hq; rcases hq with h | h <;> (rw [h]; first | exact hcil.1 | exact hcil.2.1)
    have h2 : q ≠ lb := by simp at hq; rcases hq with h | h <;> (rw [h]; first | exact hlr.1.symm | exact hlr.2.symm)
    exact World.cell?_of_block (w := w) (a := ⟨q, off, none⟩) (same q (h.inT q hm).1 h1 h2 (h.inT q hm).2.2)
  have chan := hx w' (fun q hq => fl.same q (hTw q (h.inT q (hcm q hq)).1) (by
    rintro ((e | e) | e)
    · exact sep lb (by simp) q hq e.symm
    · exact (h.inT q (hcm q hq)).2.2 e
    · have := hT q (h.inT q (hcm q hq)).1; omega))
  have hvL : ∀ q, own v' q → ¬ L q := fun q hq hl => by
    rcases (hv' q hq).1 with h1 | h1
    · exact (h.vT q h1).2 hl
    · have := hT q (h.lT q hl); omega
  have hLs : ∀ q, L q → w'.heap[q]? = w.heap[q]? := fun q hq => same q (h.lT q hq) (fun e => (h.inT ci (hcm ci hci)).2.1 (e ▸ hq)) (fun e => (h.inT lb (by simp)).2.1 (e ▸ hq)) (fun e => (h.vT q e).2 hq)
  refine ⟨fun q => (T q ∧ ¬ own v q) ∨ own v' q, ⟨sb, lb, c0, c1, c2, c3, B, v', (cell rb 0 (by simp)).trans h.r0, (cell rb 1 (by simp)).trans h.r1, (cell sb 0 (by simp)).trans h.s0, (cell sb 1 (by simp)).trans h.s1, (cell sb 2 (by simp)).trans h.s2, (cell sb 3 (by simp)).trans h.s3, chan.1, chan.2.1, chan.2.2.1, chan.2.2.2, lg, ?_, h.nod, ?_, ?_, ?_, ?_, ?_, hr⟩, ?_, ?_, ?_⟩
  · have := h.low; have := fl.size; omega
  · intro q hq
    have := h.inT q hq
    refine ⟨.inl ⟨this.1, this.2.2⟩, this.2.1, fun e => ?_⟩
    rcases (hv' q e).1 with h1 | h1
    · exact this.2.2 h1
    · have := hT q this.1; omega
  · exact fun q hq => ⟨.inr hq, hvL q hq⟩
  · exact fun q hq => .inl ⟨h.lT q hq, fun e => (h.vT q e).2 hq⟩
  · exact fun q hq => (hLs q hq).trans (h.lent q hq)
  · exact fun p hp => ⟨(h.bs p (hb p hp)).1.block hLs, (h.bs p (hb p hp)).2⟩
  · refine ⟨fl.os.trans f1.os, fl.tape.trans f1.tape, fl.output.trans f1.output, by have := fl.size; omega, ?_, ?_⟩
    · intro k hk hn
      refine (fl.same k (by omega) ?_).trans ((f1.same k (by simp; omega) ?_).trans (Below.heap_alloc _ _ _ hk))
      · rintro ((e | e) | e)
        · exact hn (e ▸ (h.inT lb (by simp)).1)
        · exact hn (h.vT k e).1
        · omega
      · exact fun e => hn (e ▸ (h.inT ci (hcm ci hci)).1)
    · rintro k hk (e | e)
      · exact e.1
      · rcases (hv' k e).1 with h1 | h1
        · exact (h.vT k h1).1
        · omega
  · rintro q (e | e)
    · have := hTw q e.1; have := fl.size; omega
    · exact (hv' q e).2.1
  · rintro q h1 h2 (e | e)
    · have := hT q e.1; omega
    · rcases (hv' q e).1 with h3 | h3
      · have := hT q (h.vT q h3).1; omega
      · omega

def zero88 : Obj := .cells #[.int .i64 0, .int .i64 0, .int .i64 0, .slice none 0 0] 49
/-- What is as it was, when the source has answered by a channel. -/
theorem RecAt.pre {rb sb lb c0 c1 c2 c3 B : Nat} {v : Value} {L : Nat → Prop} {ob : Nat → Option Obj} {T : Nat → Prop} {w : World} {x : RS} (h : RecAt rb sb lb c0 c1 c2 c3 B v L ob T w x) (hT : ∀ q, T q → q < w.heap.size) {ci : Nat} (hci : ci ∈ [c0, c1, c2, c3]) {w1 : World}
    (f1 : Fr (fun k => k = ci) (w.alloc zero88) w1 (fun k => k = ci)) : LogAt w1 lb B v x.log ∧ w1.heap[rb]? = w.heap[rb]? ∧ w1.heap[w.heap.size]? = some zero88 ∧ (¬ own v w.heap.size) ∧ (∀ q, q < w.heap.size → q ≠ ci → w1.heap[q]? = w.heap[q]?) := by
  have hcm : ∀ q, q ∈ [c0, c1, c2, c3] → q ∈ [rb, sb, lb, c0, c1, c2, c3] := by intro q hq; simp at hq ⊢; omega
  have sep := (List.nodup_append (l₁ := [rb, sb, lb]) (l₂ := [c0, c1, c2, c3]).1 h.nod).2.2
  have same : ∀ q, q < w.heap.size → q ≠ ci → w1.heap[q]? = w.heap[q]? := fun q hq hn => (f1.same q (by simp; omega) hn).trans (Below.heap_alloc _ _ _ hq)
  have hcl := hT ci (h.inT ci (hcm ci hci)).1
  refine ⟨h.log.block (fun q hq => ?_) (by have := f1.size; simp at this; omega), same rb (hT rb (h.inT rb (by simp)).1) (sep rb (by simp) ci hci), (f1.same w.heap.size (by simp) (by omega)).trans (heap_alloc_new w _), fun e => by have := (h.log.row.bump _ e).2; omega, same⟩
  rcases hq with rfl | hq
  · exact same _ h.log.lt (sep _ (by simp) ci hci)
  · exact same q (h.log.row.bump q hq).2 (fun e => (h.inT ci (hcm ci hci)).2.2 (e ▸ hq))

/-- From an answer of the source the word of the recorder. -/
theorem RecAt.hears {B0 rb sb lb c0 c1 c2 c3 B : Nat} {v : Value} {L : Nat → Prop} {ob : Nat → Option Obj} {T : Nat → Prop} {w : World} {x : RS} (h : RecAt rb sb lb c0 c1 c2 c3 B v L ob T w x) (hT : ∀ q, T q → q < w.heap.size) {ci : Nat} (hci : ci ∈ [c0, c1, c2, c3]) {k o : Int} {r : Rep} {x' : RS}
    (hb : ∀ p, p ∈ x'.batches → p ∈ x.batches) (hr : x'.log.size + 40 * x'.left ≤ 700000000)
    (h160 : Calls Tryz.prog 182 #[.pointer (some ⟨sb, 0, none⟩), .int .i64 k, .int .i64 o] (w.alloc zero88) fun e w1 => ∃ a l c bd, e = .returned (.tuple #[.agg #[.int .i64 r.kind, .int .i64 r.of, .int .i64 r.n, .slice a l c], .int .i64 r.e]) ∧ Answ w1 r.kind r.of r.n a l c r.e bd ∧ Fr (fun k => k = ci) (w.alloc zero88) w1 (fun k => k = ci) ∧
      (∀ w'' : World, (∀ q, q ∈ [c0, c1, c2, c3] → w''.heap[q]? = w1.heap[q]?) → ChanAt w'' c0 (x'.clocks.map (.int .i64)) ∧ ChanAt w'' c1 (x'.batches.map (·.1)) ∧ ChanAt w'' c2 (x'.picks.map (.int .i64)) ∧ ChanAt w'' c3 (x'.lots.map (.int .i64))) ∧
      IntsIn w1 (.slice a l c) r.files (fun q => w.heap.size < q ∧ q < w1.heap.size) ∧ x'.log = (if r.e = 0 then x.log ++ frameS bd else x.log)) :
    Calls Tryz.prog 181 #[.pointer (some ⟨rb, 0, none⟩), .int .i64 k, .int .i64 o] w fun e w' =>
      ∃ fv T', e = .returned (.tuple #[.agg #[.int .i64 r.kind, .int .i64 r.of, .int .i64 r.n, fv], .int .i64 r.e]) ∧ RecA rb L ob T' w' x' ∧ Fr T w w' T' ∧ (∀ q, T' q → q < w'.heap.size) ∧ IntsIn w' fv r.files (fun q => (q < B0 ∨ w.heap.size ≤ q ∨ T q) ∧ q < w'.heap.size ∧ ¬ T' q) := by
  have hroom := h.room
  refine (rec_gen (B := B) (v := v) (log := x.log) h.r0 h.r1 (hT rb (h.inT rb (by simp)).1) h.low (by omega) h.log.lt k o (fun w1 z0 z1 z2 a l c en bd => z0 = r.kind ∧ z1 = r.of ∧ z2 = r.n ∧ en = r.e ∧ Fr (fun k => k = ci) (w.alloc zero88) w1 (fun k => k = ci) ∧
      (∀ w'' : World, (∀ q, q ∈ [c0, c1, c2, c3] → w''.heap[q]? = w1.heap[q]?) → ChanAt w'' c0 (x'.clocks.map (.int .i64)) ∧ ChanAt w'' c1 (x'.batches.map (·.1)) ∧ ChanAt w'' c2 (x'.picks.map (.int .i64)) ∧ ChanAt w'' c3 (x'.lots.map (.int .i64))) ∧
      IntsIn w1 (.slice a l c) r.files (fun q => w.heap.size < q ∧ q < w1.heap.size) ∧ x'.log = (if r.e = 0 then x.log ++ frameS bd else x.log)) (h160.mono ?_)).mono ?_
  · rintro e w1 ⟨a, l, c, bd, rfl, an, f1, hx, hi, hl⟩
    obtain ⟨p1, p2, p3, p4, _⟩ := h.pre hT hci f1
    exact ⟨_, _, _, a, l, c, _, bd, rfl, an, p1, p2, p3, p4, rfl, rfl, rfl, rfl, f1, hx, hi, hl⟩
  · rintro e w' ⟨w1, z0, z1, z2, a, l, c, en, bd, v', rfl, ⟨rfl, rfl, rfl, rfl, f1, hx, hi, hl⟩, lg, fl, hnw⟩
    rw [← hl] at lg
    obtain ⟨T', g1, g2, g3, g4⟩ := h.next hT hci f1 fl lg hnw hx hb hr
    refine ⟨_, T', rfl, g1, g2, g3, ?_⟩
    obtain ⟨a', c', hv, hc⟩ := hi
    refine ⟨a', c', hv, hc.imp id fun ⟨q, off, e, ⟨hq1, hq2⟩, hcell⟩ => ⟨q, off, e, ⟨.inr (by omega), Nat.lt_of_lt_of_le hq2 fl.size, g4 q hq1 hq2⟩, fun i hi => ?_⟩⟩
    rw [fl.cell q (off + i) hq2 ?_]
    · exact hcell i hi
    · rintro ((e | e) | e)
      · have := h.log.lt; omega
      · have := (h.log.row.bump q e).2; omega
      · omega

theorem ints_nil (w : World) (P : Nat → Prop) : IntsIn w (.slice none 0 0) [] P := ⟨none, 0, rfl, .inl rfl⟩
theorem answ_no (w : World) (z0 z1 z2 : Int) : Answ w z0 z1 z2 none 0 0 5 ByteArray.empty := ⟨fun h => absurd h (by omega), fun h => absurd h (by omega), fun q h => by simp [own, Value.ownBlock] at h⟩
theorem answ_one (w : World) (n : Nat) (hn : n ≤ 1099511627776) : Answ w 1 0 n none 0 0 0 (bodyS 1 0 n) :=
  ⟨fun _ => by have := bodyS_size 1 0 n (by omega) hn; omega, fun _ W _ _ => pbody_one 1 0 n _ none 0 0 rfl (.inl rfl) (by omega) W, fun q h => by simp [own, Value.ownBlock] at h⟩
theorem answ_two (w : World) (k o n : Nat) (hk : k = 3 ∨ k = 4) (ho : o ≤ 1000000) (hn : n ≤ 1000000) : Answ w k o n none 0 0 0 (bodyS k o n) :=
  ⟨fun _ => by have := bodyS_size k o n (by omega) (by omega); omega, fun _ W _ _ => pbody_two k o n _ none 0 0 rfl hk (by omega) (by omega) W, fun q h => by simp [own, Value.ownBlock] at h⟩
theorem ownI_ints {w : World} {B : Nat} {v : Value} {l : List Int} (h : OwnI w B v l) : IntsIn w v l (fun q => own v q ∧ B ≤ q ∧ q < w.heap.size) := by
  rcases Nat.eq_zero_or_pos l.length with h0 | h0
  · obtain rfl := List.length_eq_zero_iff.1 h0
    rcases h.2 with ⟨h1, _⟩ | ⟨g, cap, cur, hv, _⟩
    · exact ⟨none, 0, h1, .inl rfl⟩
    · exact ⟨_, cap, hv, .inl rfl⟩
  · obtain ⟨g, cap, cur, hv, hB, hg, _, _, _, hc⟩ := ownI_parts h h0
    refine ⟨_, cap, hv, .inr ⟨g, 0, rfl, ⟨by rw [hv]; rfl, hB, (Array.getElem?_eq_some_iff.1 hg).1⟩, fun i hi => by rw [Nat.zero_add]; exact hc i hi⟩⟩
theorem answ_files {w : World} {B : Nat} {a : Option Addr} {n c : Nat} {l : List Int} (h : OwnI w B (.slice a n c) l) (h8 : l.length ≤ 8) (hz : ∀ z, z ∈ l → 0 ≤ z ∧ z < 8) : Answ w 2 0 0 a n c 0 (batchS l) := by
  refine ⟨fun _ => by have := batchS_size l hz h8; omega, fun _ W hW hw => ?_, fun q hq => (World.ownsRow.lt h q hq).2⟩
  have h2 : OwnI W B (.slice a n c) l := ownsRow_of_block h hW
  exact pbody_files 0 0 _ l W (fun q hq => hq.2.2) (ownI_ints h2) h8 hz

theorem recA_hear {B0 : Nat} (rb : Nat) (L : Nat → Prop) (ob : Nat → Option Obj) : HearSpec (RecA rb L ob) recAsk mayR B0 rb 89 181 := by
  refine ⟨invoke_hear, ?_⟩
  rintro T w x k o ⟨sb, lb, c0, c1, c2, c3, B, v, h⟩ hT hmay
  have hm := fun q hq => hT q (h.inT q hq).1
  have hsbl := hm sb (by simp)
  have sep := (List.nodup_append (l₁ := [rb, sb, lb]) (l₂ := [c0, c1, c2, c3]).1 h.nod).2.2
  have nod := (List.nodup_append (l₁ := [rb, sb, lb]) (l₂ := [c0, c1, c2, c3]).1 h.nod).2.1
  simp at nod
  obtain ⟨⟨n01, n02, n03⟩, ⟨n12, n13⟩, n23⟩ := nod
  have hcl : ∀ off, (w.alloc zero88).cell? ⟨sb, off, none⟩ = w.cell? ⟨sb, off, none⟩ := fun off => World.cell?_of_block (w := w) (a := ⟨sb, off, none⟩) (Below.heap_alloc _ _ _ hsbl)
  have hsz : sb < (w.alloc zero88).heap.size := by simp; omega
  have l0 := hm c0 (by simp)
  have l1 := hm c1 (by simp)
  have l2 := hm c2 (by simp)
  have l3 := hm c3 (by simp)
  have hroom := h.room
  unfold RS.left at hroom
  rcases hmay with ⟨rfl, rfl⟩ | ⟨rfl, rfl⟩ | ⟨rfl, h1, h2⟩ | ⟨rfl, h1, h2⟩
  · -- a clock
    have chs : ∀ w1, Fr (fun k => k = c0) (w.alloc zero88) w1 (fun k => k = c0) → ∀ l : List Int, ChanAt w1 c0 (l.map (.int .i64)) → ∀ w'' : World, (∀ q, q ∈ [c0, c1, c2, c3] → w''.heap[q]? = w1.heap[q]?) → ChanAt w'' c0 (l.map (.int .i64)) ∧ ChanAt w'' c1 (x.batches.map (·.1)) ∧ ChanAt w'' c2 (x.picks.map (.int .i64)) ∧ ChanAt w'' c3 (x.lots.map (.int .i64)) := by
      intro w1 f1 l hl w'' hs
      have p5 := (h.pre hT (ci := c0) (by simp) f1).2.2.2.2
      exact ⟨hl.block (hs c0 (by simp)), h.h1.block ((hs c1 (by simp)).trans (p5 c1 l1 (Ne.symm n01))), h.h2.block ((hs c2 (by simp)).trans (p5 c2 l2 (Ne.symm n02))), h.h3.block ((hs c3 (by simp)).trans (p5 c3 l3 (Ne.symm n03)))⟩
    refine h.hears hT (ci := c0) (by simp) (r := (recAsk x 1 0).1) (x' := (recAsk x 1 0).2) ?_ ?_ ?_
    · cases hx : x.clocks <;> simp [recAsk, hx]
    · cases hx : x.clocks with
      | nil => simpa [recAsk, hx, RS.left] using hroom
      | cons n r =>
        have := frameS_size (bodyS 1 0 (clampC n).toNat) (bodyS_size _ _ _ (by omega) (by simp only [clampC]; omega)).1
        simp [recAsk, hx, RS.left, ByteArray.size_append] at hroom ⊢
        omega
    · refine hearS_clock ((hcl 0).trans h.s0) hsz (sep sb (by simp) c0 (by simp)) x.clocks (h.h0.block (Below.heap_alloc _ _ _ l0)) 0 ?_
      intro w1 f1 hc1
      cases hx : x.clocks with
      | nil =>
        rw [hx] at hc1
        refine ⟨none, 0, 0, ByteArray.empty, by simp [recAsk, hx, noRep], by simpa [recAsk, hx, noRep] using answ_no w1 0 0 0, f1, ?_, by simpa [recAsk, hx, noRep] using ints_nil w1 _, by simp [recAsk, hx, noRep]⟩
        simpa [recAsk, hx] using chs w1 f1 _ hc1
      | cons n r =>
        rw [hx] at hc1
        have hcp : ((clampC n).toNat : Int) = clampC n := by simp only [clampC]; omega
        have ha := answ_one w1 (clampC n).toNat (by simp only [clampC]; omega)
        rw [hcp] at ha
        refine ⟨none, 0, 0, bodyS 1 0 (clampC n).toNat, by simp [recAsk, hx, clampC], by simpa [recAsk, hx] using ha, f1, ?_, by simpa [recAsk, hx] using ints_nil w1 _, by simp [recAsk, hx]⟩
        simpa [recAsk, hx] using chs w1 f1 _ hc1
  · -- a batch
    have chs : ∀ w1, Fr (fun k => k = c1) (w.alloc zero88) w1 (fun k => k = c1) → ∀ l : List (Value × List Int), ChanAt w1 c1 (l.map (·.1)) → ∀ w'' : World, (∀ q, q ∈ [c0, c1, c2, c3] → w''.heap[q]? = w1.heap[q]?) → ChanAt w'' c0 (x.clocks.map (.int .i64)) ∧ ChanAt w'' c1 (l.map (·.1)) ∧ ChanAt w'' c2 (x.picks.map (.int .i64)) ∧ ChanAt w'' c3 (x.lots.map (.int .i64)) := by
      intro w1 f1 l hl w'' hs
      have p5 := (h.pre hT (ci := c1) (by simp) f1).2.2.2.2
      exact ⟨h.h0.block ((hs c0 (by simp)).trans (p5 c0 l0 (n01))), hl.block (hs c1 (by simp)), h.h2.block ((hs c2 (by simp)).trans (p5 c2 l2 (Ne.symm n12))), h.h3.block ((hs c3 (by simp)).trans (p5 c3 l3 (Ne.symm n13)))⟩
    have hin : ∀ p, p ∈ x.batches → IntsIn (w.alloc zero88) p.1 p.2 (fun q => q < (w.alloc zero88).heap.size ∧ q ≠ c1) ∧ p.2.length ≤ 100000000 := by
      intro p hp
      obtain ⟨hi, hl⟩ := h.bs p hp
      obtain ⟨a, c, hv, hc⟩ := hi.block (w' := w.alloc zero88) (fun q hq => Below.heap_alloc _ _ _ (hT q (h.lT q hq)))
      refine ⟨⟨a, c, hv, hc.imp id fun ⟨q, off, e, hq, hcell⟩ => ⟨q, off, e, ⟨by have := hT q (h.lT q hq); simp; omega, fun e => (h.inT c1 (by simp)).2.1 (e ▸ hq)⟩, hcell⟩⟩, hl⟩
    refine h.hears hT (ci := c1) (by simp) (r := (recAsk x 2 0).1) (x' := (recAsk x 2 0).2) ?_ ?_ ?_
    · cases hx : x.batches with
      | nil => simp [recAsk, hx]
      | cons n r => simp [recAsk, hx]; exact fun a b h => .inr h
    · cases hx : x.batches with
      | nil => simpa [recAsk, hx, RS.left] using hroom
      | cons n r =>
        have := frameS_size (batchS (filesL n.2)) (batchS_size _ (filesL_mem _) (filesL_most _)).1
        simp [recAsk, hx, RS.left, ByteArray.size_append] at hroom ⊢
        omega
    · refine hearS_batch ((hcl 1).trans h.s1) hsz (sep sb (by simp) c1 (by simp)) x.batches (h.h1.block (Below.heap_alloc _ _ _ l1)) hin 0 ?_
      intro w1 fv f1 hc1 ho
      cases hx : x.batches with
      | nil =>
        rw [hx] at hc1
        refine ⟨none, 0, 0, ByteArray.empty, by simp [recAsk, hx, noRep], by simpa [recAsk, hx, noRep] using answ_no w1 0 0 0, f1, ?_, by simpa [recAsk, hx, noRep] using ints_nil w1 _, by simp [recAsk, hx, noRep]⟩
        simpa [recAsk, hx] using chs w1 f1 _ hc1
      | cons n r =>
        rw [hx] at hc1 ho
        have hO := ho (by simp)
        simp only [List.headD_cons] at hO
        obtain ⟨a, l, c, rfl⟩ := ownI_shape hO
        have ha := answ_files hO (filesL_most _) (filesL_mem _)
        have hI : IntsIn w1 (.slice a l c) (filesL n.2) (fun q => w.heap.size < q ∧ q < w1.heap.size) := by
          obtain ⟨a', c', hv, hc⟩ := ownI_ints hO
          exact ⟨a', c', hv, hc.imp id fun ⟨q, off, e, ⟨_, h2, h3⟩, hcell⟩ => ⟨q, off, e, ⟨by simp at h2; omega, h3⟩, hcell⟩⟩
        refine ⟨a, l, c, batchS (filesL n.2), by simp [recAsk, hx], by simpa [recAsk, hx] using ha, f1, ?_, by simpa [recAsk, hx] using hI, by simp [recAsk, hx]⟩
        simpa [recAsk, hx] using chs w1 f1 _ hc1
  · -- a pick
    have chs : ∀ w1, Fr (fun k => k = c2) (w.alloc zero88) w1 (fun k => k = c2) → ∀ l : List Int, ChanAt w1 c2 (l.map (.int .i64)) → ∀ w'' : World, (∀ q, q ∈ [c0, c1, c2, c3] → w''.heap[q]? = w1.heap[q]?) → ChanAt w'' c0 (x.clocks.map (.int .i64)) ∧ ChanAt w'' c1 (x.batches.map (·.1)) ∧ ChanAt w'' c2 (l.map (.int .i64)) ∧ ChanAt w'' c3 (x.lots.map (.int .i64)) := by
      intro w1 f1 l hl w'' hs
      have p5 := (h.pre hT (ci := c2) (by simp) f1).2.2.2.2
      exact ⟨h.h0.block ((hs c0 (by simp)).trans (p5 c0 l0 (n02))), h.h1.block ((hs c1 (by simp)).trans (p5 c1 l1 (n12))), hl.block (hs c2 (by simp)), h.h3.block ((hs c3 (by simp)).trans (p5 c3 l3 (Ne.symm n23)))⟩
    have hpos : ∀ n : Int, 0 ≤ n % o ∧ n % o < o := fun n => ⟨Int.emod_nonneg _ (by omega), Int.emod_lt_of_pos _ (by omega)⟩
    refine h.hears hT (ci := c2) (by simp) (r := (recAsk x 3 o).1) (x' := (recAsk x 3 o).2) ?_ ?_ ?_
    · cases hx : x.picks <;> simp [recAsk, hx]
    · cases hx : x.picks with
      | nil => simpa [recAsk, hx, RS.left] using hroom
      | cons n r =>
        have := hpos n
        have := frameS_size (bodyS 3 o.toNat (n % o).toNat) (bodyS_size _ _ _ (by omega) (by omega)).1
        simp [recAsk, hx, RS.left, ByteArray.size_append] at hroom ⊢
        omega
    · refine hearS_pick ((hcl 2).trans h.s2) hsz (sep sb (by simp) c2 (by simp)) x.picks (h.h2.block (Below.heap_alloc _ _ _ l2)) o (by omega) (by omega) ?_
      intro w1 f1 hc1
      cases hx : x.picks with
      | nil =>
        rw [hx] at hc1
        refine ⟨none, 0, 0, ByteArray.empty, by simp [recAsk, hx, noRep], by simpa [recAsk, hx, noRep] using answ_no w1 0 0 0, f1, ?_, by simpa [recAsk, hx, noRep] using ints_nil w1 _, by simp [recAsk, hx, noRep]⟩
        simpa [recAsk, hx] using chs w1 f1 _ hc1
      | cons n r =>
        rw [hx] at hc1
        have hp := hpos n
        have e1 : (o.toNat : Int) = o := by omega
        have e2 : ((n % o).toNat : Int) = n % o := by omega
        have ha := answ_two w1 3 o.toNat (n % o).toNat (.inl rfl) (by omega) (by omega)
        rw [e1, e2] at ha
        refine ⟨none, 0, 0, bodyS 3 o.toNat (n % o).toNat, by simp [recAsk, hx], by simpa [recAsk, hx] using ha, f1, ?_, by simpa [recAsk, hx] using ints_nil w1 _, by simp [recAsk, hx]⟩
        simpa [recAsk, hx] using chs w1 f1 _ hc1
  · -- a lot
    have chs : ∀ w1, Fr (fun k => k = c3) (w.alloc zero88) w1 (fun k => k = c3) → ∀ l : List Int, ChanAt w1 c3 (l.map (.int .i64)) → ∀ w'' : World, (∀ q, q ∈ [c0, c1, c2, c3] → w''.heap[q]? = w1.heap[q]?) → ChanAt w'' c0 (x.clocks.map (.int .i64)) ∧ ChanAt w'' c1 (x.batches.map (·.1)) ∧ ChanAt w'' c2 (x.picks.map (.int .i64)) ∧ ChanAt w'' c3 (l.map (.int .i64)) := by
      intro w1 f1 l hl w'' hs
      have p5 := (h.pre hT (ci := c3) (by simp) f1).2.2.2.2
      exact ⟨h.h0.block ((hs c0 (by simp)).trans (p5 c0 l0 (n03))), h.h1.block ((hs c1 (by simp)).trans (p5 c1 l1 (n13))), h.h2.block ((hs c2 (by simp)).trans (p5 c2 l2 (n23))), hl.block (hs c3 (by simp))⟩
    have hpos : ∀ n : Int, 0 ≤ n % o ∧ n % o < o := fun n => ⟨Int.emod_nonneg _ (by omega), Int.emod_lt_of_pos _ (by omega)⟩
    refine h.hears hT (ci := c3) (by simp) (r := (recAsk x 4 o).1) (x' := (recAsk x 4 o).2) ?_ ?_ ?_
    · cases hx : x.lots <;> simp [recAsk, hx]
    · cases hx : x.lots with
      | nil => simpa [recAsk, hx, RS.left] using hroom
      | cons n r =>
        have := hpos n
        have := frameS_size (bodyS 4 o.toNat (n % o).toNat) (bodyS_size _ _ _ (by omega) (by omega)).1
        simp [recAsk, hx, RS.left, ByteArray.size_append] at hroom ⊢
        omega
    · refine hearS_lot ((hcl 3).trans h.s3) hsz (sep sb (by simp) c3 (by simp)) x.lots (h.h3.block (Below.heap_alloc _ _ _ l3)) o (by omega) (by omega) ?_
      intro w1 f1 hc1
      cases hx : x.lots with
      | nil =>
        rw [hx] at hc1
        refine ⟨none, 0, 0, ByteArray.empty, by simp [recAsk, hx, noRep], by simpa [recAsk, hx, noRep] using answ_no w1 0 0 0, f1, ?_, by simpa [recAsk, hx, noRep] using ints_nil w1 _, by simp [recAsk, hx, noRep]⟩
        simpa [recAsk, hx] using chs w1 f1 _ hc1
      | cons n r =>
        rw [hx] at hc1
        have hp := hpos n
        have e1 : (o.toNat : Int) = o := by omega
        have e2 : ((n % o).toNat : Int) = n % o := by omega
        have ha := answ_two w1 4 o.toNat (n % o).toNat (.inr rfl) (by omega) (by omega)
        rw [e1, e2] at ha
        refine ⟨none, 0, 0, bodyS 4 o.toNat (n % o).toNat, by simp [recAsk, hx], by simpa [recAsk, hx] using ha, f1, ?_, by simpa [recAsk, hx] using ints_nil w1 _, by simp [recAsk, hx]⟩
        simpa [recAsk, hx] using chs w1 f1 _ hc1
end Go.Proofs.YtfmbebofllgmoaaGreatDoor
namespace Go.Proofs.YtfmbebofllgmoaaGreatDoor
open Go.RowKit
attribute [local go_sem ↓] Go.wp_at_zero Go.wp_at_succ

/-- A slice of values in memory, in a block of P. -/
def ValsIn (w : World) (v : Value) (l : List Value) (P : Nat → Prop) : Prop :=
  ∃ a c, v = .slice a l.length c ∧ (l = [] ∨ ∃ q off, a = some ⟨q, off, none⟩ ∧ P q ∧ ∀ i, i < l.length → w.cell? ⟨q, off + i, none⟩ = some (l.getD i undef))
theorem IntsIn.vals {w : World} {v : Value} {l : List Int} {P : Nat → Prop} (h : IntsIn w v l P) : ValsIn w v (l.map (.int .i64)) P := by
  obtain ⟨a, c, hv, hc⟩ := h
  refine ⟨a, c, by simpa using hv, hc.imp (by simp) fun ⟨q, off, e, hq, hcell⟩ => ⟨q, off, e, hq, fun i hi => ?_⟩⟩
  have hi' : i < l.length := by simpa using hi
  rw [hcell i hi']
  simp [List.getD, hi']
theorem ValsIn.block {w w' : World} {v : Value} {l : List Value} {P : Nat → Prop} (h : ValsIn w v l P) (hb : ∀ q, P q → w'.heap[q]? = w.heap[q]?) : ValsIn w' v l P := by
  obtain ⟨a, c, hv, hc⟩ := h
  refine ⟨a, c, hv, hc.imp id fun ⟨q, off, e, hq, hcell⟩ => ⟨q, off, e, hq, fun i hi => ?_⟩⟩
  rw [World.cell?_of_block (w := w) (a := ⟨q, off + i, none⟩) (hb q hq)]
  exact hcell i hi
theorem range_getD (l : List Value) : (List.range l.length).map (fun i => l.getD i undef) = l := by
  apply List.ext_getElem?
  intro i
  by_cases h : i < l.length
  · simp [h, List.getD]
  · rw [List.getElem?_eq_none (by simp; omega), List.getElem?_eq_none (by omega)]
theorem filled_list {w : World} {v : Value} {l : List Value} {P : Nat → Prop} (h : ValsIn w v l P) (hP : ∀ q, P q → q < w.heap.size) (hn : l.length ≤ 5000000) :
    Calls Tryz.prog 62 #[v] w fun e w' => e = .returned (.chan (some w.heap.size)) ∧ w' = w.alloc (.chan l.length l.toArray true l.length 0 false) := by
  obtain ⟨a, c, rfl, hc⟩ := h
  have := filled_any (w := w) a l.length c (fun i => l.getD i undef) hn (fun i hi => by
    rcases hc with rfl | ⟨q, off, e, hq, hcell⟩
    · simp at hi
    · exact ⟨q, off, e, hP q hq, hcell i hi⟩)
  rw [range_getD] at this
  exact this
theorem filledL_list {w : World} {v : Value} {l : List Value} {P : Nat → Prop} (h : ValsIn w v l P) (hP : ∀ q, P q → q < w.heap.size) (hn : l.length ≤ 5000000) :
    Calls Tryz.prog 63 #[v] w fun e w' => e = .returned (.chan (some w.heap.size)) ∧ w' = w.alloc (.chan l.length l.toArray true l.length 0 false) := by
  obtain ⟨a, c, rfl, hc⟩ := h
  have := filledL_any (w := w) a l.length c (fun i => l.getD i undef) hn (fun i hi => by
    rcases hc with rfl | ⟨q, off, e, hq, hcell⟩
    · simp at hi
    · exact ⟨q, off, e, hP q hq, hcell i hi⟩)
  rw [range_getD] at this
  exact this

/-- A closed channel's block. -/
def chanO (l : List Value) : Obj := .chan l.length l.toArray true l.length 0 false
def newW (w : World) (v0 v1 v2 v3 : Value) (l0 l1 l2 l3 : List Value) : World :=
  ((((((w.alloc (.cells #[v0, v1, v2, v3] 29)).drew.alloc (chanO l0)).alloc (chanO l1)).alloc (chanO l2)).alloc (chanO l3)).alloc (.cells #[.chan (some (w.heap.size + 1)), .chan (some (w.heap.size + 2)), .chan (some (w.heap.size + 3)), .chan (some (w.heap.size + 4))] 147))

set_option maxHeartbeats 2000000 in
set_option maxRecDepth 20000 in
theorem new_any {w : World} {v0 v1 v2 v3 : Value} {l0 l1 l2 l3 : List Value} {P : Nat → Prop} (hP : ∀ q, P q → q < w.heap.size) (h0 : ValsIn w v0 l0 P) (h1 : ValsIn w v1 l1 P) (h2 : ValsIn w v2 l2 P) (h3 : ValsIn w v3 l3 P)
    (n0 : l0.length ≤ 5000000) (n1 : l1.length ≤ 5000000) (n2 : l2.length ≤ 5000000) (n3 : l3.length ≤ 5000000) :
    Calls Tryz.prog 36 #[.agg #[v0, v1, v2, v3]] w fun e w' => e = .returned (.pointer (some ⟨w.heap.size + 5, 0, none⟩)) ∧ w' = newW w v0 v1 v2 v3 l0 l1 l2 l3 := by
  have hz1 : (w.alloc (.cells #[v0, v1, v2, v3] 29)).drew.heap.size = w.heap.size + 1 := by show (w.alloc _).heap.size = _; simp
  have s1 : ∀ q, P q → (w.alloc (.cells #[v0, v1, v2, v3] 29)).drew.heap[q]? = w.heap[q]? := fun q hq => Below.heap_alloc _ _ _ (hP q hq)
  have A0 := hide (filled_list (h0.block s1) (fun q hq => by rw [hz1]; have := hP q hq; omega) n0)
  rw [hz1] at A0
  have z2 : ((w.alloc (.cells #[v0, v1, v2, v3] 29)).drew.alloc (chanO l0)).heap.size = w.heap.size + 1 + 1 := by simp
  have s2 : ∀ q, P q → ((w.alloc (.cells #[v0, v1, v2, v3] 29)).drew.alloc (chanO l0)).heap[q]? = w.heap[q]? := fun q hq => (Below.heap_alloc _ _ _ (by rw [hz1]; have := hP q hq; omega)).trans (s1 q hq)
  have A1 := hide (filledL_list (h1.block s2) (fun q hq => by rw [z2]; have := hP q hq; omega) n1)
  rw [z2] at A1
  have z3 : (((w.alloc (.cells #[v0, v1, v2, v3] 29)).drew.alloc (chanO l0)).alloc (chanO l1)).heap.size = w.heap.size + 1 + 1 + 1 := by simp
  have s3 : ∀ q, P q → (((w.alloc (.cells #[v0, v1, v2, v3] 29)).drew.alloc (chanO l0)).alloc (chanO l1)).heap[q]? = w.heap[q]? := fun q hq => (Below.heap_alloc _ _ _ (by rw [z2]; have := hP q hq; omega)).trans (s2 q hq)
  have A2 := hide (filled_list (h2.block s3) (fun q hq => by rw [z3]; have := hP q hq; omega) n2)
  rw [z3] at A2
  have z4 : ((((w.alloc (.cells #[v0, v1, v2, v3] 29)).drew.alloc (chanO l0)).alloc (chanO l1)).alloc (chanO l2)).heap.size = w.heap.size + 1 + 1 + 1 + 1 := by simp
  have s4 : ∀ q, P q → ((((w.alloc (.cells #[v0, v1, v2, v3] 29)).drew.alloc (chanO l0)).alloc (chanO l1)).alloc (chanO l2)).heap[q]? = w.heap[q]? := fun q hq => (Below.heap_alloc _ _ _ (by rw [z3]; have := hP q hq; omega)).trans (s3 q hq)
  have A3 := hide (filled_list (h3.block s4) (fun q hq => by rw [z4]; have := hP q hq; omega) n3)
  rw [z4] at A3
  obtain ⟨a0, k0, rfl, _⟩ := h0
  obtain ⟨a1, k1, rfl, _⟩ := h1
  obtain ⟨a2, k2, rfl, _⟩ := h2
  obtain ⟨a3, k3, rfl, _⟩ := h3
  clear hz1 s1 z2 s2 z3 s3 z4 s4 hP
  rw [show Obj.chan l0.length l0.toArray true l0.length 0 false = chanO l0 from rfl] at A0
  rw [show Obj.chan l1.length l1.toArray true l1.length 0 false = chanO l1 from rfl] at A1
  rw [show Obj.chan l2.length l2.toArray true l2.length 0 false = chanO l2 from rfl] at A2
  rw [show Obj.chan l3.length l3.toArray true l3.length 0 false = chanO l3 from rfl] at A3
  generalize hO0 : chanO l0 = O0 at *
  generalize hO1 : chanO l1 = O1 at *
  generalize hO2 : chanO l2 = O2 at *
  generalize hO3 : chanO l3 = O3 at *
  have hN : newW w (.slice a0 l0.length k0) (.slice a1 l1.length k1) (.slice a2 l2.length k2) (.slice a3 l3.length k3) l0 l1 l2 l3 = ((((((w.alloc (.cells #[.slice a0 l0.length k0, .slice a1 l1.length k1, .slice a2 l2.length k2, .slice a3 l3.length k3] 29)).drew.alloc O0).alloc O1).alloc O2).alloc O3).alloc (.cells #[.chan (some (w.heap.size + 1)), .chan (some (w.heap.size + 2)), .chan (some (w.heap.size + 3)), .chan (some (w.heap.size + 4))] 147)) := by
    unfold newW
    rw [hO0, hO1, hO2, hO3]
  have HN := hide hN
  clear hN
  clear hO0 hO1 hO2 hO3
  go_enter Tryz.func36, Tryz.ntmps36
  go_wp2
  go_region_held3 (fun w' => w'.cell? ⟨w.heap.size, 0, none⟩ = some (.slice a0 l0.length k0) ∧ w'.cell? ⟨w.heap.size, 1, none⟩ = some (.slice a1 l1.length k1) ∧ w'.cell? ⟨w.heap.size, 2, none⟩ = some (.slice a2 l2.length k2) ∧ w'.cell? ⟨w.heap.size, 3, none⟩ = some (.slice a3 l3.length k3)) (simp [go_sem, World.cell?_alloc_past])
    (first
      | (go_at_call 63; refine (unhide A1).mono ?_; rintro e w' ⟨rfl, rfl⟩)
      | (go_at_call_of 62 (Value.slice a0 l0.length k0); refine (unhide A0).mono ?_; rintro e w' ⟨rfl, rfl⟩)
      | (go_at_call_of 62 (Value.slice a2 l2.length k2); refine (unhide A2).mono ?_; rintro e w' ⟨rfl, rfl⟩)
      | (go_at_call_of 62 (Value.slice a3 l3.length k3); refine (unhide A3).mono ?_; rintro e w' ⟨rfl, rfl⟩))
  all_goals
    go_wp2
    go_ret
    refine ⟨rfl, ?_⟩
    rw [unhide HN]
    rfl
end Go.Proofs.YtfmbebofllgmoaaGreatDoor
namespace Go.Proofs.YtfmbebofllgmoaaGreatDoor
open Go.RowKit
attribute [local go_sem ↓] Go.wp_at_zero Go.wp_at_succ

/-! ### What it is -/
/-! ### How it lies -/
abbrev Br := Value × List Int
structure C1 (w : World) (wb : Nat) (wr : World) (v0 p2 p3 : Value) (lc : List Int) : Prop where
  fr : Fr (fun _ => False) w wr (fun _ => False)
  wb_ : wr.heap[wb]? = some (.cells #[v0, .slice none 0 0, p2, p3] 29)
  wbB : w.heap.size ≤ wb
  cl : OwnI wr w.heap.size v0 lc
structure W1 (w : World) (wb : Nat) (wr : World) (v0 v1 p2 p3 : Value) (lc : List Int) (bt : List Br) : Prop where
  fr : Fr (fun _ => False) w wr (fun _ => False)
  wb_ : wr.heap[wb]? = some (.cells #[v0, v1, p2, p3] 29)
  wbB : w.heap.size ≤ wb
  cl : OwnI wr w.heap.size v0 lc
  bm : wr.ownsRow w.heap.size 26 1 v1 bt.length (bt.map (·.1))
  bh : ∀ b, b ∈ bt → OwnI wr w.heap.size b.1 b.2
theorem row_d {W : World} {B e size n : Nat} {v : Value} {xs : List Value} (h : W.ownsRow B e size v n xs) {q : Nat} (hq : own v q) : ∃ cur, W.heap[q]? = some (.cells cur e (0, 0)) := by
  rcases h.2 with ⟨rfl, _⟩ | ⟨g, cap, cur, rfl, _, hg, _⟩
  · simp [own, Value.ownBlock] at hq
  · simp only [own, Value.ownBlock, Option.some.injEq] at hq
    subst hq
    exact ⟨cur, hg⟩
end Go.Proofs.YtfmbebofllgmoaaGreatDoor
namespace Go.Proofs.YtfmbebofllgmoaaGreatDoor
open Go.RowKit

/-- An armed timer, as the document keeps it: the program's own record, and the turn in which it was armed. -/
abbrev AT := TM × Int
def flatA : List AT → List Value
  | [] => []
  | p :: r => .int .i64 p.1.2.2.2 :: .int .i64 p.1.2.1 :: .int .i64 p.2 :: flatA r
theorem flatA_append (a b : List AT) : flatA (a ++ b) = flatA a ++ flatA b := by
  induction a with
  | nil => rfl
  | cons x r ih => simp [flatA, ih]
theorem flatA_get : ∀ (A : List AT) (i : Nat) (p : AT), A[i]? = some p → (flatA A)[i * 3]? = some (.int .i64 p.1.2.2.2) ∧ (flatA A)[i * 3 + 1]? = some (.int .i64 p.1.2.1) ∧ (flatA A)[i * 3 + 2]? = some (.int .i64 p.2)
  | [], i, p, h => by simp at h
  | x :: r, 0, p, h => by
    simp at h
    subst h
    exact ⟨rfl, rfl, rfl⟩
  | x :: r, i + 1, p, h => by
    have hr := flatA_get r i p (by simpa using h)
    have e : ∀ j, (flatA (x :: r))[(i + 1) * 3 + j]? = (flatA r)[i * 3 + j]? := fun j => by
      rw [show (i + 1) * 3 + j = (i * 3 + j) + 3 by omega]; rfl
    exact ⟨(e 0).trans hr.1, (e 1).trans hr.2.1, (e 2).trans hr.2.2⟩

/-- The document's armed timers are the program's: as they were armed; those of number sq and below before this turn. -/
structure ARel (s : PS) (A : List AT) (tn sq : Int) : Prop where
  mem : ∀ p, p ∈ A → p.1.1 = true ∧ 0 ≤ p.1.2.2.2 ∧ p.1.2.2.2 < 8 ∧ s.tim p.1.2.2.2.toNat = p.1
  all : ∀ i, (s.tim i).1 = true → i < 8 ∧ (s.tim i).2.2.2 = (i : Int) ∧ ∃ u, (s.tim i, u) ∈ A
  seq : A.Pairwise fun p q => p.1.2.2.1 < q.1.2.2.1
  top : ∀ p, p ∈ A → p.1.2.2.1 ≤ s.armings
  trn : ∀ p, p ∈ A → (p.2 < tn ↔ p.1.2.2.1 ≤ sq) ∧ p.2 ≤ tn
  sq : sq ≤ s.armings
  len : (A.length : Int) ≤ s.armings
theorem ARel.of {s s' : PS} {A : List AT} {tn sq : Int} (h : ARel s A tn sq) (ht : s'.tim = s.tim) (ha : s'.armings = s.armings) : ARel s' A tn sq :=
  ⟨by rw [ht]; exact h.mem, by rw [ht]; exact h.all, h.seq, by rw [ha]; exact h.top, h.trn, by rw [ha]; exact h.sq, by rw [ha]; exact h.len⟩

/-- A timer is cancelled. -/
theorem ARel.cancel {s : PS} {A : List AT} {tn sq : Int} (h : ARel s A tn sq) (z : Int) (hz : 0 ≤ z) : ARel { s with tim := upd s.tim z.toNat (false, (s.tim z.toNat).2) } (A.filter fun p => decide (p.1.2.2.2 ≠ z)) tn sq := by
  have hm : ∀ p, p ∈ (A.filter fun p => decide (p.1.2.2.2 ≠ z)) → p ∈ A ∧ p.1.2.2.2 ≠ z := fun p hp => by
    rw [List.mem_filter] at hp
    exact ⟨hp.1, of_decide_eq_true hp.2⟩
  refine ⟨fun p hp => ?_, fun i hi => ?_, h.seq.filter _, fun p hp => h.top p (hm p hp).1, fun p hp => h.trn p (hm p hp).1, h.sq, ?_⟩
  · obtain ⟨h1, h2⟩ := hm p hp
    obtain ⟨a1, a2, a3, a4⟩ := h.mem p h1
    refine ⟨a1, a2, a3, ?_⟩
    show upd s.tim z.toNat _ p.1.2.2.2.toNat = p.1
    unfold upd
    rw [if_neg (by omega)]
    exact a4
  · change (upd s.tim z.toNat (false, (s.tim z.toNat).2) i).1 = true at hi
    by_cases e : i = z.toNat
    · unfold upd at hi; rw [if_pos e] at hi; cases hi
    · have hu : upd s.tim z.toNat (false, (s.tim z.toNat).2) i = s.tim i := by unfold upd; rw [if_neg e]
      show i < 8 ∧ (upd s.tim z.toNat (false, (s.tim z.toNat).2) i).2.2.2 = (i : Int) ∧ ∃ u, (upd s.tim z.toNat (false, (s.tim z.toNat).2) i, u) ∈ _
      rw [hu] at hi ⊢
      obtain ⟨b1, b2, u, b3⟩ := h.all i hi
      refine ⟨b1, b2, u, ?_⟩
      rw [List.mem_filter]
      exact ⟨b3, decide_eq_true (by show (s.tim i).2.2.2 ≠ z; omega)⟩
  · have := List.length_filter_le (fun p : AT => decide (p.1.2.2.2 ≠ z)) A
    have := h.len
    show ((A.filter _).length : Int) ≤ s.armings
    omega
/-- A timer is armed. -/
theorem ARel.arm {s : PS} {A : List AT} {tn sq : Int} (h : ARel s A tn sq) (z at_ : Int) (hz : 0 ≤ z) (hz8 : z < 8) : ARel { s with armings := s.armings + 1, tim := upd s.tim z.toNat (true, at_, s.armings + 1, z) } ((A.filter fun p => decide (p.1.2.2.2 ≠ z)) ++ [((true, at_, s.armings + 1, z), tn)]) tn sq := by
  have hc := h.cancel z hz
  have hm : ∀ p, p ∈ (A.filter fun p => decide (p.1.2.2.2 ≠ z)) → p ∈ A ∧ p.1.2.2.2 ≠ z := fun p hp => by
    rw [List.mem_filter] at hp
    exact ⟨hp.1, of_decide_eq_true hp.2⟩
  have hsq := h.sq
  refine ⟨fun p hp => ?_, fun i hi => ?_, ?_, fun p hp => ?_, fun p hp => ?_, by show sq ≤ s.armings + 1; omega, ?_⟩
  · rcases List.mem_append.1 hp with hp | hp
    · obtain ⟨h1, h2⟩ := hm p hp
      obtain ⟨a1, a2, a3, a4⟩ := h.mem p h1
      refine ⟨a1, a2, a3, ?_⟩
      show upd s.tim z.toNat _ p.1.2.2.2.toNat = p.1
      unfold upd
      rw [if_neg (by omega)]
      exact a4
    · rw [List.mem_singleton] at hp
      subst hp
      refine ⟨rfl, hz, hz8, ?_⟩
      show upd s.tim z.toNat _ z.toNat = _
      unfold upd
      rw [if_pos rfl]
  · show i < 8 ∧ (upd s.tim z.toNat (true, at_, s.armings + 1, z) i).2.2.2 = (i : Int) ∧ ∃ u, (upd s.tim z.toNat (true, at_, s.armings + 1, z) i, u) ∈ _
    change (upd s.tim z.toNat (true, at_, s.armings + 1, z) i).1 = true at hi
    by_cases e : i = z.toNat
    · have hu : upd s.tim z.toNat (true, at_, s.armings + 1, z) i = (true, at_, s.armings + 1, z) := by unfold upd; rw [if_pos e]
      rw [hu]
      exact ⟨by omega, by show z = (i : Int); omega, tn, by simp⟩
    · have hu : upd s.tim z.toNat (true, at_, s.armings + 1, z) i = s.tim i := by unfold upd; rw [if_neg e]
      rw [hu] at hi ⊢
      obtain ⟨b1, b2, u, b3⟩ := h.all i hi
      refine ⟨b1, b2, u, List.mem_append_left _ ?_⟩
      rw [List.mem_filter]
      exact ⟨b3, decide_eq_true (by show (s.tim i).2.2.2 ≠ z; omega)⟩
  · refine List.pairwise_append.2 ⟨h.seq.filter _, List.pairwise_singleton _ _, fun p hp q hq => ?_⟩
    rw [List.mem_singleton] at hq
    subst hq
    have := h.top p (hm p hp).1
    show p.1.2.2.1 < s.armings + 1
    omega
  · show p.1.2.2.1 ≤ s.armings + 1
    rcases List.mem_append.1 hp with hp | hp
    · have := h.top p (hm p hp).1; omega
    · rw [List.mem_singleton] at hp
      subst hp
      exact Int.le_refl _
  · rcases List.mem_append.1 hp with hp | hp
    · exact h.trn p (hm p hp).1
    · rw [List.mem_singleton] at hp
      subst hp
      refine ⟨⟨fun e => absurd e (Int.lt_irrefl _), fun e => ?_⟩, Int.le_refl _⟩
      change s.armings + 1 ≤ sq at e
      omega
  · have h1 := List.length_filter_le (fun p : AT => decide (p.1.2.2.2 ≠ z)) A
    have h2 := h.len
    show ((_ ++ [_] : List AT).length : Int) ≤ s.armings + 1
    rw [List.length_append]
    simp only [List.length_cons, List.length_nil]
    omega
/-- A turn begins. -/
theorem ARel.turn {s : PS} {A : List AT} {tn sq : Int} (h : ARel s A tn sq) : ARel s A (tn + 1) s.armings :=
  ⟨h.mem, h.all, h.seq, h.top, fun p hp => ⟨⟨fun _ => h.top p hp, fun _ => by have := (h.trn p hp).2; omega⟩, by have := (h.trn p hp).2; omega⟩, Int.le_refl _, h.len⟩

/-- The cells of the struct. -/
def limg (pv : Nat → Value) (vt va : Value) (s : PS) (tn : Int) (k : Nat) : Value :=
  if k < 10 then pv k else if k < 14 then .int .i64 (s.reg (k - 10)) else if k = 14 then .int .i64 s.clock else if k = 15 then .int .i64 tn else if k = 16 then va else if k < 25 then .bool (s.wat (k - 17)) else if k = 25 then .int .i64 s.fuel else if k = 26 then vt else .int .i64 s.fin
/-- Block b holds the cells c 0 .. c 27, free to be written. -/
def LAt (w : World) (b : Nat) (c : Nat → Value) : Prop := ∀ k, k < 28 → w.cell? ⟨b, k, none⟩ = some (c k) ∧ w.frozen? ⟨b, k, none⟩ = false
theorem LAt.set {w : World} {b : Nat} {c : Nat → Value} (h : LAt w b c) (k : Nat) (v : Value) (_hk : k < 28) : LAt (w.setCell ⟨b, k, none⟩ v) b (setC c k v) := by
  intro j hj
  obtain ⟨h1, h2⟩ := h j hj
  refine ⟨?_, by simpa using h2⟩
  by_cases e : j = k
  · subst e
    rw [World.cell?_setCell_same' _ _ _ (by rw [h1]; rfl)]
    simp [setC]
  · rw [World.cell?_setCell_other _ _ _ _ (by intro he; injection he; omega), h1]
    simp [setC, e]
theorem LAt.congr {w : World} {b : Nat} {c c' : Nat → Value} (h : LAt w b c) (he : ∀ k, k < 28 → c' k = c k) : LAt w b c' := fun k hk => by rw [he k hk]; exact h k hk
theorem LAt.block {w w' : World} {b : Nat} {c : Nat → Value} (h : LAt w b c) (he : w'.heap[b]? = w.heap[b]?) : LAt w' b c := fun k hk => by
  rw [World.cell?_of_block (w := w) (a := ⟨b, k, none⟩) he, World.frozen?_of_block (w := w) (a := ⟨b, k, none⟩) he]
  exact h k hk
section
variable (pv : Nat → Value) (vt va : Value) (s : PS) (tn : Int)
theorem limg_pv (i : Nat) (h : i < 10) : limg pv vt va s tn i = pv i := by simp [limg, h]
theorem limg_reg (i : Nat) (h : i < 4) : limg pv vt va s tn (10 + i) = .int .i64 (s.reg i) := by
  have e1 : ¬ 10 + i < 10 := by omega
  have e2 : 10 + i < 14 := by omega
  have e3 : 10 + i - 10 = i := by omega
  simp only [limg, e1, e2, e3, if_true, if_false]
theorem limg_clock : limg pv vt va s tn 14 = .int .i64 s.clock := by simp [limg]
theorem limg_turn : limg pv vt va s tn 15 = .int .i64 tn := by simp [limg]
theorem limg_armed : limg pv vt va s tn 16 = va := by simp [limg]
theorem limg_wat (i : Nat) (h : i < 8) : limg pv vt va s tn (17 + i) = .bool (s.wat i) := by
  have e1 : ¬ 17 + i < 10 := by omega
  have e2 : ¬ 17 + i < 14 := by omega
  have e3 : ¬ 17 + i = 14 := by omega
  have e4 : ¬ 17 + i = 15 := by omega
  have e5 : ¬ 17 + i = 16 := by omega
  have e6 : 17 + i < 25 := by omega
  have e7 : 17 + i - 17 = i := by omega
  simp only [limg, e1, e2, e3, e4, e5, e6, e7, if_true, if_false]
theorem limg_fuel : limg pv vt va s tn 25 = .int .i64 s.fuel := by simp [limg]
theorem limg_trace : limg pv vt va s tn 26 = vt := by simp [limg]
theorem limg_fin : limg pv vt va s tn 27 = .int .i64 s.fin := by simp [limg]
end
theorem lidx (j : Nat) (h : j < 28) : j < 10 ∨ (∃ i, i < 4 ∧ j = 10 + i) ∨ j = 14 ∨ j = 15 ∨ j = 16 ∨ (∃ i, i < 8 ∧ j = 17 + i) ∨ j = 25 ∨ j = 26 ∨ j = 27 := by
  by_cases h1 : j < 10
  · exact .inl h1
  by_cases h2 : j < 14
  · exact .inr (.inl ⟨j - 10, by omega, by omega⟩)
  by_cases h3 : j = 14
  · exact .inr (.inr (.inl h3))
  by_cases h4 : j = 15
  · exact .inr (.inr (.inr (.inl h4)))
  by_cases h5 : j = 16
  · exact .inr (.inr (.inr (.inr (.inl h5))))
  by_cases h6 : j < 25
  · exact .inr (.inr (.inr (.inr (.inr (.inl ⟨j - 17, by omega, by omega⟩)))))
  by_cases h7 : j = 25
  · exact .inr (.inr (.inr (.inr (.inr (.inr (.inl h7))))))
  by_cases h8 : j = 26
  · exact .inr (.inr (.inr (.inr (.inr (.inr (.inr (.inl h8)))))))
  · exact .inr (.inr (.inr (.inr (.inr (.inr (.inr (.inr (by omega))))))))
/-- One store into the struct, read off the state. -/
theorem lset_gen {pv : Nat → Value} {vt va vt' va' : Value} {s s' : PS} {tn tn' : Int} {k : Nat} {v : Value} (hk : limg pv vt' va' s' tn' k = v) (hreg : ∀ i, i < 4 → k ≠ 10 + i → s'.reg i = s.reg i) (h14 : k ≠ 14 → s'.clock = s.clock) (h15 : k ≠ 15 → tn' = tn) (h16 : k ≠ 16 → va' = va)
    (hwat : ∀ i, i < 8 → k ≠ 17 + i → s'.wat i = s.wat i) (h25 : k ≠ 25 → s'.fuel = s.fuel) (h26 : k ≠ 26 → vt' = vt) (h27 : k ≠ 27 → s'.fin = s.fin) (j : Nat) (hj : j < 28) : limg pv vt' va' s' tn' j = setC (limg pv vt va s tn) k v j := by
  unfold setC
  by_cases e : j = k
  · subst e; rw [if_pos rfl]; exact hk
  rw [if_neg e]
  rcases lidx j hj with h | ⟨i, hi, rfl⟩ | rfl | rfl | rfl | ⟨i, hi, rfl⟩ | rfl | rfl | rfl
  · rw [limg_pv _ _ _ _ _ _ h, limg_pv _ _ _ _ _ _ h]
  · rw [limg_reg _ _ _ _ _ _ hi, limg_reg _ _ _ _ _ _ hi, hreg i hi (Ne.symm e)]
  · rw [limg_clock, limg_clock, h14 (Ne.symm e)]
  · rw [limg_turn, limg_turn, h15 (Ne.symm e)]
  · rw [limg_armed, limg_armed, h16 (Ne.symm e)]
  · rw [limg_wat _ _ _ _ _ _ hi, limg_wat _ _ _ _ _ _ hi, hwat i hi (Ne.symm e)]
  · rw [limg_fuel, limg_fuel, h25 (Ne.symm e)]
  · rw [limg_trace, limg_trace, h26 (Ne.symm e)]
  · rw [limg_fin, limg_fin, h27 (Ne.symm e)]

/-- The document's source in memory: it lies in the blocks of T, hangs on nothing else but what lies below B. -/
structure SQLaw {σ : Type} (SQ : (Nat → Value) → (Nat → Prop) → World → σ → Prop) (B : Nat) : Prop where
  keep : ∀ {pv : Nat → Value} {T : Nat → Prop} {w w' : World} {x : σ}, SQ pv T w x → (∀ k, T k → w'.heap[k]? = w.heap[k]?) → (∀ k, k < B → w'.heap[k]? = w.heap[k]?) → w.heap.size ≤ w'.heap.size → SQ pv T w' x
/-- The document's loop in memory. -/
structure LQ {σ : Type} (SQ : (Nat → Value) → (Nat → Prop) → World → σ → Prop) (B : Nat) (S : Nat → Prop) (w : World) (b : Nat) (pv : Nat → Value) (vt va : Value) (T : Nat → Prop) (s : PS) (A : List AT) (tn sq : Int) (x : σ) : Prop where
  bound : ∀ k, S k → B ≤ k ∧ k < w.heap.size
  cells : LAt w b (limg pv vt va s tn)
  row : w.ownsRow B 72 3 vt s.trace.length (flatE s.trace)
  arow : w.ownsRow B 210 3 va A.length (flatA A)
  rel : ARel s A tn sq
  src : SQ pv T w x
  hc : ∃ a n c, pv 9 = .slice a n c ∧ (n : Int) = s.heard
  inB : S b
  inV : ∀ q, own vt q → S q ∧ q ≠ b ∧ ¬ T q
  inA : ∀ q, own va q → S q ∧ q ≠ b ∧ ¬ T q
  inT : ∀ k, T k → S k ∧ k ≠ b
section
variable {σ : Type} {SQ : (Nat → Value) → (Nat → Prop) → World → σ → Prop} {B : Nat} {S T : Nat → Prop} {w : World} {b : Nat} {pv : Nat → Value} {vt va : Value} {s : PS} {A : List AT} {tn sq : Int} {x : σ}
theorem LQ.cell (h : LQ SQ B S w b pv vt va T s A tn sq x) (k : Nat) (hk : k < 28) : w.cell? ⟨b, k, none⟩ = some (limg pv vt va s tn k) := (h.cells k hk).1
theorem LQ.free (h : LQ SQ B S w b pv vt va T s A tn sq x) (k : Nat) (hk : k < 28) : w.frozen? ⟨b, k, none⟩ = false := (h.cells k hk).2
theorem LQ.blt (h : LQ SQ B S w b pv vt va T s A tn sq x) : b < w.heap.size := (h.bound b h.inB).2
theorem LQ.below (h : LQ SQ B S w b pv vt va T s A tn sq x) : B ≤ w.heap.size := by have := h.bound b h.inB; omega
/-- The loop lies there still, where its own blocks have not turned. -/
theorem LQ.kept (L : SQLaw SQ B) (h : LQ SQ B S w b pv vt va T s A tn sq x) {w' : World} (hs : ∀ k, S k → w'.heap[k]? = w.heap[k]?) (hb : ∀ k, k < B → w'.heap[k]? = w.heap[k]?) (hz : w.heap.size ≤ w'.heap.size) : LQ SQ B S w' b pv vt va T s A tn sq x :=
  ⟨fun k hk => ⟨(h.bound k hk).1, Nat.lt_of_lt_of_le (h.bound k hk).2 hz⟩, h.cells.block (hs b h.inB), ownsRow_of_block h.row (fun q hq => hs q (h.inV q hq).1), ownsRow_of_block h.arow (fun q hq => hs q (h.inA q hq).1), h.rel, L.keep h.src (fun k hk => hs k (h.inT k hk).1) hb hz, h.hc, h.inB, h.inV, h.inA, h.inT⟩
theorem LQ.fr (L : SQLaw SQ B) (h : LQ SQ B S w b pv vt va T s A tn sq x) {w' : World} (hf : Fr (fun _ => False) w w' (fun _ => False)) : LQ SQ B S w' b pv vt va T s A tn sq x :=
  h.kept L (fun k hk => hf.same k (h.bound k hk).2 (fun h => h)) (fun k hk => hf.same k (Nat.lt_of_lt_of_le hk h.below) (fun h => h)) hf.size
theorem LQ.alloc (L : SQLaw SQ B) (h : LQ SQ B S w b pv vt va T s A tn sq x) (o : Obj) : LQ SQ B S (w.alloc o) b pv vt va T s A tn sq x := h.fr L ((Fr.refl _ _).alloc o)
theorem LQ.drew (L : SQLaw SQ B) (h : LQ SQ B S w b pv vt va T s A tn sq x) : LQ SQ B S w.drew b pv vt va T s A tn sq x := h.fr L (Fr.refl _ _).drew
theorem LQ.drewN (L : SQLaw SQ B) (h : LQ SQ B S w b pv vt va T s A tn sq x) (n : Nat) : LQ SQ B S (w.drewN n) b pv vt va T s A tn sq x := h.fr L ((Fr.refl _ _).drewN n)
/-- A store into a block that is new. -/
theorem LQ.setNew (L : SQLaw SQ B) (h : LQ SQ B S w b pv vt va T s A tn sq x) (a : Addr) (v : Value) (ha : ¬ S a.block) (hB : B ≤ a.block) : LQ SQ B S (w.setCell a v) b pv vt va T s A tn sq x :=
  h.kept L (fun k hk => Below.heap_setCell _ _ _ _ (by intro e; subst e; exact ha hk)) (fun k hk => Below.heap_setCell _ _ _ _ (by intro e; subst e; omega)) (by simp [World.setCell])
/-- A store into the struct that turns no row. -/
theorem LQ.set (L : SQLaw SQ B) (h : LQ SQ B S w b pv vt va T s A tn sq x) (k : Nat) (v : Value) (s' : PS) {tn' sq' : Int} (hk : k < 28) (he : ∀ j, j < 28 → limg pv vt va s' tn' j = setC (limg pv vt va s tn) k v j) (ht : s'.trace = s.trace) (hr : ARel s' A tn' sq') (hh : s'.heard = s.heard) :
    LQ SQ B S (w.setCell ⟨b, k, none⟩ v) b pv vt va T s' A tn' sq' x := by
  have hsame : ∀ q, q ≠ b → (w.setCell ⟨b, k, none⟩ v).heap[q]? = w.heap[q]? := fun q hq => Below.heap_setCell _ _ _ _ hq
  have hz : w.heap.size = (w.setCell ⟨b, k, none⟩ v).heap.size := by simp [World.setCell]
  have hbB := (h.bound b h.inB).1
  exact ⟨fun k hk => ⟨(h.bound k hk).1, by rw [← hz]; exact (h.bound k hk).2⟩, (h.cells.set k v hk).congr he, by rw [ht]; exact ownsRow_of_block h.row (fun q hq => hsame q (h.inV q hq).2.1),
    ownsRow_of_block h.arow (fun q hq => hsame q (h.inA q hq).2.1), hr, L.keep h.src (fun q hq => hsame q (h.inT q hq).2) (fun q hq => hsame q (by omega)) (Nat.le_of_eq hz), by rw [hh]; exact h.hc, h.inB, h.inV, h.inA, h.inT⟩
/-- A new row of armed timers is laid, and stored. -/
theorem LQ.setArmed (L : SQLaw SQ B) (h : LQ SQ B S w b pv vt va T s A tn sq x) {w1 : World} {va' : Value} {A' : List AT} {s' : PS} (hr : w1.ownsRow B 210 3 va' A'.length (flatA A')) (hf : Fr (own va) w w1 (own va')) (rel : ARel s' A' tn sq)
    (e1 : s'.reg = s.reg) (e2 : s'.clock = s.clock) (e3 : s'.wat = s.wat) (e4 : s'.fuel = s.fuel) (e5 : s'.trace = s.trace) (e6 : s'.fin = s.fin) (e7 : s'.heard = s.heard) :
    LQ SQ B (fun q => (S q ∧ ¬ own va q) ∨ own va' q) (w1.setCell ⟨b, 16, none⟩ va') b pv vt va' T s' A' tn sq x ∧ Fr S w (w1.setCell ⟨b, 16, none⟩ va') (fun q => (S q ∧ ¬ own va q) ∨ own va' q) := by
  have hb := h.blt
  have hbB := (h.bound b h.inB).1
  have hbv : ¬ own va b := fun e => (h.inA b e).2.1 rfl
  have hz : (w1.setCell ⟨b, 16, none⟩ va').heap.size = w1.heap.size := by simp [World.setCell]
  have hnew : ∀ q, own va' q → own va q ∨ w.heap.size ≤ q := fun q hq => by
    by_cases hl : q < w.heap.size
    · exact .inl (hf.old q hl hq)
    · exact .inr (by omega)
  have hb' : ¬ own va' b := fun e => by
    rcases hnew b e with h1 | h1
    · exact hbv h1
    · omega
  have same1 : ∀ q, q < w.heap.size → ¬ own va q → w1.heap[q]? = w.heap[q]? := hf.same
  have same2 : ∀ q, q ≠ b → (w1.setCell ⟨b, 16, none⟩ va').heap[q]? = w1.heap[q]? := fun q hq => Below.heap_setCell _ _ _ _ hq
  have hvt : ∀ q, own vt q → ¬ own va q := fun q hq hv => by
    obtain ⟨c1, h1⟩ := row_d h.row hq
    obtain ⟨c2, h2⟩ := row_d h.arow hv
    rw [h1] at h2
    injection h2 with h2
    injection h2 with _ h2
    exact absurd h2 (by decide)
  have nT : ∀ q, T q → ¬ own va q := fun q hq hv => (h.inA q hv).2.2 hq
  refine ⟨⟨fun k hk => ?_, ?_, ?_, ?_, rel, ?_, by rw [e7]; exact h.hc, .inl ⟨h.inB, hbv⟩, fun q hq => ?_, fun q hq => ?_, fun k hk => ?_⟩, ?_⟩
  · rw [hz]
    rcases hk with ⟨hk, _⟩ | hk
    · exact ⟨(h.bound k hk).1, Nat.lt_of_lt_of_le (h.bound k hk).2 hf.size⟩
    · exact World.ownsRow.lt hr k hk
  · refine ((h.cells.block (same1 b hb hbv)).set 16 va' (by omega)).congr (lset_gen (limg_armed _ _ _ _ _) (fun i _ _ => by rw [e1]) (fun _ => e2) (fun _ => rfl) (fun e => absurd rfl e) (fun i _ _ => by rw [e3]) (fun _ => e4) (fun _ => rfl) (fun _ => e6))
  · rw [e5]
    exact ownsRow_of_block h.row (fun q hq => (same2 q (h.inV q hq).2.1).trans (same1 q (h.bound q (h.inV q hq).1).2 (hvt q hq)))
  · exact ownsRow_of_block hr (fun q hq => same2 q (fun e => hb' (e ▸ hq)))
  · refine L.keep h.src (fun q hq => (same2 q (h.inT q hq).2).trans (same1 q (h.bound q (h.inT q hq).1).2 (nT q hq))) (fun q hq => (same2 q (by omega)).trans (same1 q (by omega) (fun e => ?_))) (by rw [hz]; exact hf.size)
    have := (World.ownsRow.lt h.arow q e).1
    omega
  · exact ⟨.inl ⟨(h.inV q hq).1, hvt q hq⟩, (h.inV q hq).2.1, (h.inV q hq).2.2⟩
  · refine ⟨.inr hq, fun e => hb' (e ▸ hq), fun ht => ?_⟩
    rcases hnew q hq with h1 | h1
    · exact nT q ht h1
    · have := (h.bound q (h.inT q ht).1).2; omega
  · exact ⟨.inl ⟨(h.inT k hk).1, nT k hk⟩, (h.inT k hk).2⟩
  · refine ⟨hf.os, hf.tape, hf.output, by rw [hz]; exact hf.size, fun k hk hn => (same2 k (fun e => hn (e ▸ h.inB))).trans (same1 k hk (fun e => hn (h.inA k e).1)), fun k hk hs => ?_⟩
    rcases hs with ⟨hs, _⟩ | hs
    · exact hs
    · exact (h.inA k (hf.old k hk hs)).1
/-- The trace grows, and is stored. -/
theorem LQ.setTrace (L : SQLaw SQ B) (h : LQ SQ B S w b pv vt va T s A tn sq x) {w1 : World} {vt' : Value} {o : O3} (hr : w1.ownsRow B 72 3 vt' (s.trace.length + 1) (flatE s.trace ++ [.int .i64 o.1, .int .i64 o.2.1, .int .i64 o.2.2])) (hf : Fr (own vt) w w1 (own vt')) :
    LQ SQ B (fun q => (S q ∧ ¬ own vt q) ∨ own vt' q) (w1.setCell ⟨b, 26, none⟩ vt') b pv vt' va T { s with trace := s.trace ++ [o] } A tn sq x ∧ Fr S w (w1.setCell ⟨b, 26, none⟩ vt') (fun q => (S q ∧ ¬ own vt q) ∨ own vt' q) := by
  have hb := h.blt
  have hbB := (h.bound b h.inB).1
  have hbv : ¬ own vt b := fun e => (h.inV b e).2.1 rfl
  have hz : (w1.setCell ⟨b, 26, none⟩ vt').heap.size = w1.heap.size := by simp [World.setCell]
  have hnew : ∀ q, own vt' q → own vt q ∨ w.heap.size ≤ q := fun q hq => by
    by_cases hl : q < w.heap.size
    · exact .inl (hf.old q hl hq)
    · exact .inr (by omega)
  have hb' : ¬ own vt' b := fun e => by
    rcases hnew b e with h1 | h1
    · exact hbv h1
    · omega
  have same1 : ∀ q, q < w.heap.size → ¬ own vt q → w1.heap[q]? = w.heap[q]? := hf.same
  have same2 : ∀ q, q ≠ b → (w1.setCell ⟨b, 26, none⟩ vt').heap[q]? = w1.heap[q]? := fun q hq => Below.heap_setCell _ _ _ _ hq
  have hva : ∀ q, own va q → ¬ own vt q := fun q hq hv => by
    obtain ⟨c1, h1⟩ := row_d h.arow hq
    obtain ⟨c2, h2⟩ := row_d h.row hv
    rw [h1] at h2
    injection h2 with h2
    injection h2 with _ h2
    exact absurd h2 (by decide)
  have nT : ∀ q, T q → ¬ own vt q := fun q hq hv => (h.inV q hv).2.2 hq
  refine ⟨⟨fun k hk => ?_, ?_, ?_, ?_, h.rel.of rfl rfl, ?_, h.hc, .inl ⟨h.inB, hbv⟩, fun q hq => ?_, fun q hq => ?_, fun k hk => ?_⟩, ?_⟩
  · rw [hz]
    rcases hk with ⟨hk, _⟩ | hk
    · exact ⟨(h.bound k hk).1, Nat.lt_of_lt_of_le (h.bound k hk).2 hf.size⟩
    · exact World.ownsRow.lt hr k hk
  · exact ((h.cells.block (same1 b hb hbv)).set 26 vt' (by omega)).congr (lset_gen (limg_trace _ _ _ _ _) (fun i _ _ => rfl) (fun _ => rfl) (fun _ => rfl) (fun _ => rfl) (fun i _ _ => rfl) (fun _ => rfl) (fun e => absurd rfl e) (fun _ => rfl))
  · have e : (s.trace ++ [o]).length = s.trace.length + 1 := by simp
    show (w1.setCell ⟨b, 26, none⟩ vt').ownsRow B 72 3 vt' (s.trace ++ [o]).length (flatE (s.trace ++ [o]))
    rw [e, flatE_append]
    exact ownsRow_of_block hr (fun q hq => same2 q (fun e => hb' (e ▸ hq)))
  · exact ownsRow_of_block h.arow (fun q hq => (same2 q (h.inA q hq).2.1).trans (same1 q (h.bound q (h.inA q hq).1).2 (hva q hq)))
  · refine L.keep h.src (fun q hq => (same2 q (h.inT q hq).2).trans (same1 q (h.bound q (h.inT q hq).1).2 (nT q hq))) (fun q hq => (same2 q (by omega)).trans (same1 q (by omega) (fun e => ?_))) (by rw [hz]; exact hf.size)
    have := (World.ownsRow.lt h.row q e).1
    omega
  · refine ⟨.inr hq, fun e => hb' (e ▸ hq), fun ht => ?_⟩
    rcases hnew q hq with h1 | h1
    · exact nT q ht h1
    · have := (h.bound q (h.inT q ht).1).2; omega
  · exact ⟨.inl ⟨(h.inA q hq).1, hva q hq⟩, (h.inA q hq).2.1, (h.inA q hq).2.2⟩
  · exact ⟨.inl ⟨(h.inT k hk).1, nT k hk⟩, (h.inT k hk).2⟩
  · refine ⟨hf.os, hf.tape, hf.output, by rw [hz]; exact hf.size, fun k hk hn => (same2 k (fun e => hn (e ▸ h.inB))).trans (same1 k hk (fun e => hn (h.inV k e).1)), fun k hk hs => ?_⟩
    rcases hs with ⟨hs, _⟩ | hs
    · exact hs
    · exact (h.inV k (hf.old k hk hs)).1
/-- The loop in memory, some blocks of its own later. -/
def LPost (SQ : (Nat → Value) → (Nat → Prop) → World → σ → Prop) (B : Nat) (S : Nat → Prop) (w : World) (b : Nat) (pv : Nat → Value) (tn sq : Int) (s : PS) (x : σ) (w' : World) : Prop :=
  ∃ S' pv' vt' va' T' A', LQ SQ B S' w' b pv' vt' va' T' s A' tn sq x ∧ (∀ i, i < 3 → pv' i = pv i) ∧ Fr S w w' S'
end
end Go.Proofs.YtfmbebofllgmoaaGreatDoor
namespace Go.Proofs.YtfmbebofllgmoaaGreatDoor
open Go.RowKit

theorem bs_append (a b : ByteArray) : bs (a ++ b) = bs a ++ bs b := by simp [bs]
theorem bs_push (a : ByteArray) (x : UInt8) : bs (a.push x) = bs a ++ [x.toNat] := by simp [bs]
theorem bs_empty : bs ByteArray.empty = [] := rfl
/-- The bytes of a varint, as numbers. -/
def vb (n : Nat) : List Nat := bs (varS n)
theorem vb_small (n : Nat) (h : n < 128) : vb n = [n] := by
  unfold vb; rw [varS_eq, if_pos h, bs_push, bs_empty, List.nil_append, UInt8.toNat_ofNat']
  congr 1; omega
theorem vb_great (n : Nat) (h : ¬ n < 128) : vb n = (n % 128 + 128) :: vb (n / 128) := by
  unfold vb; rw [varS_eq, if_neg h, bs_append, bs_push, bs_empty, List.nil_append, UInt8.toNat_ofNat', List.singleton_append]
  congr 1; omega
theorem vb_pos (n : Nat) : 0 < (vb n).length := by
  by_cases h : n < 128
  · rw [vb_small n h]; simp
  · rw [vb_great n h]; simp

/-- The bytes of numbers, one varint behind the other. -/
def vbs (ns : List Nat) : List Nat := ns.flatMap vb
theorem vbs_cons (n : Nat) (r : List Nat) : vbs (n :: r) = vb n ++ vbs r := rfl
/-- An input of a log: kind, of, n, files. -/
abbrev Inp := Nat × Nat × Nat × List Nat
/-- What a record may tell. -/
def Fit (x : Inp) : Prop :=
  (x.1 = 1 ∧ x.2.1 = 0 ∧ x.2.2.1 ≤ 1099511627776 ∧ x.2.2.2 = []) ∨ (x.1 = 2 ∧ x.2.1 = 0 ∧ x.2.2.1 = 0 ∧ risL (-1) (zs x.2.2.2) = true) ∨
  (x.1 = 3 ∧ 2 ≤ x.2.1 ∧ x.2.1 ≤ 8 ∧ x.2.2.1 < x.2.1 ∧ x.2.2.2 = []) ∨ (x.1 = 4 ∧ 1 ≤ x.2.1 ∧ x.2.1 ≤ 1000000 ∧ x.2.2.1 < x.2.1 ∧ x.2.2.2 = []) ∨ (x.1 = 5 ∧ x.2.1 = 0 ∧ 1 ≤ x.2.2.1 ∧ x.2.2.1 ≤ 5 ∧ x.2.2.2 = [])
/-- Its numbers. -/
def nums (x : Inp) : List Nat := if x.1 = 2 then x.2.2.2.length :: x.2.2.2 else if x.1 = 3 ∨ x.1 = 4 then [x.2.1, x.2.2.1] else [x.2.2.1]
end Go.Proofs.YtfmbebofllgmoaaGreatDoor
namespace Go.Proofs.YtfmbebofllgmoaaGreatDoor
open Go.RowKit

/-- The body of an input, as numbers. -/
def bodyL (x : Inp) : List Nat := x.1 :: vbs (nums x)
theorem vb_le : ∀ (j n : Nat), n < 128 ^ (j + 1) → (vb n).length ≤ j + 1
  | 0, n, h => by rw [vb_small n (by omega)]; simp
  | j + 1, n, h => by
    by_cases hn : n < 128
    · rw [vb_small n hn]; simp
    · rw [vb_great n hn, List.length_cons]
      have h1 : n / 128 < 128 ^ (j + 1) := by rw [Nat.div_lt_iff_lt_mul (by omega)]; rwa [Nat.pow_succ] at h
      have := vb_le j (n / 128) h1
      omega
theorem risL_len : ∀ (fs : List Nat) (last : Int), -1 ≤ last → last < 8 → risL last (zs fs) = true → (fs.length : Int) + last ≤ 7 ∧ ∀ f, f ∈ fs → f < 8
  | [], last, _, h8, _ => ⟨by simp; omega, fun _ h => absurd h (by simp)⟩
  | f :: t, last, h1, h8, h => by
    have e : zs (f :: t) = (f : Int) :: zs t := rfl
    rw [e] at h
    simp only [risL] at h
    by_cases hc : (f : Int) ≤ last ∨ 8 ≤ (f : Int)
    · rw [if_pos hc] at h; cases h
    · rw [if_neg hc] at h
      obtain ⟨g1, g2⟩ := risL_len t f (by omega) (by omega) h
      refine ⟨by simp only [List.length_cons]; omega, ?_⟩
      intro x hx
      rcases List.mem_cons.1 hx with rfl | hx
      · omega
      · exact g2 x hx
theorem vbs_small : ∀ (fs : List Nat), (∀ f, f ∈ fs → f < 128) → vbs fs = fs
  | [], _ => rfl
  | f :: t, h => by
    rw [vbs_cons, vb_small f (h f (List.mem_cons_self ..)), vbs_small t (fun x hx => h x (List.mem_cons_of_mem _ hx))]; rfl
theorem Fit.nums_lt {x : Inp} (h : Fit x) : ∀ n, n ∈ nums x → n < 128 ^ 6 := by
  obtain ⟨k, o, n, fs⟩ := x
  rcases h with ⟨e, h1, h2, h3⟩ | ⟨e, h1, h2, h3⟩ | ⟨e, h1, h2, h3, h4⟩ | ⟨e, h1, h2, h3, h4⟩ | ⟨e, h1, h2, h3, h4⟩ <;> simp only at e h1 h2 h3 <;> subst e
  · intro m hm; simp [nums] at hm; omega
  · obtain ⟨g1, g2⟩ := risL_len fs (-1) (by omega) (by omega) h3
    intro m hm
    simp [nums] at hm
    rcases hm with rfl | hm
    · omega
    · have := g2 m hm; omega
  · intro m hm; simp [nums] at hm; omega
  · intro m hm; simp [nums] at hm; omega
  · intro m hm; simp [nums] at hm; omega
theorem bodyL_len {x : Inp} (h : Fit x) : 2 ≤ (bodyL x).length ∧ (bodyL x).length ≤ 10 := by
  obtain ⟨k, o, n, fs⟩ := x
  rcases h with ⟨e, h1, h2, h3⟩ | ⟨e, h1, h2, h3⟩ | ⟨e, h1, h2, h3, h4⟩ | ⟨e, h1, h2, h3, h4⟩ | ⟨e, h1, h2, h3, h4⟩ <;> simp only at e h1 h2 h3 <;> subst e
  · have := vb_le 5 n (by omega)
    have := vb_pos n
    simp only [bodyL, nums, vbs, List.length_cons]
    simp
    omega
  · obtain ⟨g1, g2⟩ := risL_len fs (-1) (by omega) (by omega) h3
    have e : bodyL (2, o, n, fs) = 2 :: fs.length :: fs := by
      have : nums (2, o, n, fs) = fs.length :: fs := rfl
      unfold bodyL
      rw [this, vbs_cons, vb_small _ (by omega), vbs_small fs (fun f hf => by have := g2 f hf; omega)]
      rfl
    rw [e]
    simp only [List.length_cons]
    omega
  · have e : bodyL (3, o, n, fs) = 3 :: (vb o ++ (vb n ++ [])) := rfl
    rw [e, vb_small o (by omega), vb_small n (by omega)]
    simp
  · have e : bodyL (4, o, n, fs) = 4 :: (vb o ++ (vb n ++ [])) := rfl
    have := vb_le 2 n (by omega)
    have := vb_le 2 o (by omega)
    have := vb_pos n
    rw [e, List.length_cons, List.length_append, List.append_nil]
    omega
  · have e : bodyL (5, o, n, fs) = 5 :: (vb n ++ []) := rfl
    rw [e, vb_small n (by omega)]
    simp

/-! ### The sum -/
def smB (l : List Nat) : ByteArray := ⟨(l.map UInt8.ofNat).toArray⟩
theorem smB_bs (b : ByteArray) : smB (bs b) = b := by
  obtain ⟨⟨l⟩⟩ := b
  simp only [smB, bs, List.map_map]
  have : (UInt8.ofNat ∘ UInt8.toNat) = id := by funext x; simp
  rw [this, List.map_id]
/-- The four bytes of the sum, as numbers. -/
def sm (l : List Nat) : List Nat := bs (sumS (smB l))
theorem sm_bs (b : ByteArray) : sm (bs b) = bs (sumS b) := by unfold sm; rw [smB_bs]
end Go.Proofs.YtfmbebofllgmoaaGreatDoor
namespace Go.Proofs.YtfmbebofllgmoaaGreatDoor
open Go.RowKit Go.Sort

section
variable {σ : Type} {ask : σ → Int → Int → Rep × σ}

/-- An operation that hears nothing. -/
theorem opM_plain (o : O3) (s : PS) (h7 : o.1 ≠ 7) (h8 : o.1 ≠ 8) : ∃ s' : PS, s'.heard = s.heard ∧ s.trace <+: s'.trace ∧ ∀ (σ : Type) (ask : σ → Int → Int → Rep × σ) (x : σ), opM ask o s x = (s', x) := by
  by_cases h1 : o.1 = 1
  · exact ⟨{ s with reg := upd s.reg o.2.1.toNat o.2.2 }, rfl, List.prefix_refl _, fun σ ask x => by unfold opM; rw [if_pos h1]⟩
  by_cases h2 : o.1 = 2
  · exact ⟨{ s with reg := upd s.reg o.2.1.toNat (wrap64 (s.reg o.2.1.toNat + s.reg o.2.2.toNat)) }, rfl, List.prefix_refl _, fun σ ask x => by unfold opM; rw [if_neg h1, if_pos h2]⟩
  by_cases h3 : o.1 = 3
  · exact ⟨{ s with armings := s.armings + 1, tim := upd s.tim o.2.1.toNat (true, s.clock + min (max (s.reg o.2.2.toNat) 0) (1099511627776 - s.clock), s.armings + 1, o.2.1) }, rfl, List.prefix_refl _, fun σ ask x => by unfold opM; rw [if_neg h1, if_neg h2, if_pos h3]⟩
  by_cases h4 : o.1 = 4
  · exact ⟨{ s with tim := upd s.tim o.2.1.toNat (false, (s.tim o.2.1.toNat).2) }, rfl, List.prefix_refl _, fun σ ask x => by unfold opM; rw [if_neg h1, if_neg h2, if_neg h3, if_pos h4]⟩
  by_cases h5 : o.1 = 5
  · exact ⟨{ s with wat := upd s.wat o.2.1.toNat true }, rfl, List.prefix_refl _, fun σ ask x => by unfold opM; rw [if_neg h1, if_neg h2, if_neg h3, if_neg h4, if_pos h5]⟩
  by_cases h6 : o.1 = 6
  · exact ⟨{ s with wat := upd s.wat o.2.1.toNat false }, rfl, List.prefix_refl _, fun σ ask x => by unfold opM; rw [if_neg h1, if_neg h2, if_neg h3, if_neg h4, if_neg h5, if_pos h6]⟩
  by_cases h9 : o.1 = 9
  · exact ⟨{ s with trace := s.trace ++ [(3, o.2.1, s.reg o.2.1.toNat)] }, rfl, List.prefix_append _ _, fun σ ask x => by unfold opM; rw [if_neg h1, if_neg h2, if_neg h3, if_neg h4, if_neg h5, if_neg h6, if_neg h7, if_neg h8, if_pos h9]⟩
  by_cases h10 : o.1 = 10
  · refine ⟨if s.reg o.2.1.toNat = o.2.2 then { s with next := s.next + 1 } else s, ?_, ?_, fun σ ask x => by unfold opM; rw [if_neg h1, if_neg h2, if_neg h3, if_neg h4, if_neg h5, if_neg h6, if_neg h7, if_neg h8, if_neg h9, if_pos h10]⟩
    · split <;> rfl
    · split <;> exact List.prefix_refl _
  · exact ⟨{ s with fin := 1 }, rfl, List.prefix_refl _, fun σ ask x => by unfold opM; rw [if_neg h1, if_neg h2, if_neg h3, if_neg h4, if_neg h5, if_neg h6, if_neg h7, if_neg h8, if_neg h9, if_neg h10]⟩

/-- What the operation Now makes of an answer. -/
def nowS (s : PS) (i : Nat) (R : Rep) : PS := if ckB s R then { ckS s R with reg := upd (ckS s R).reg i (ckS s R).clock } else ckS s R
theorem opM_now (o : O3) (s : PS) (x : σ) (h : o.1 = 7) : opM ask o s x = (nowS s o.2.1.toNat (ask x 1 0).1, (ask x 1 0).2) := by
  unfold opM nowS; rw [h]; simp
theorem opM_lot (o : O3) (s : PS) (x : σ) (h : o.1 = 8) : opM ask o s x = (lotS s (ask x 4 o.2.2).1 o.2.1.toNat, (ask x 4 o.2.2).2) := by
  unfold opM; rw [h]; simp

/-- What an answer does to the state: an end is set, or one more is heard. -/
structure Takes (s : PS) (A : Rep → PS) : Prop where
  stop : ∀ R, R.e ≠ 0 → A R = { s with fin := R.e }
  heard : ∀ R, R.e = 0 → (A R).heard = wrap64 (s.heard + 1)
  trace : ∀ R, (A R).trace = s.trace
theorem takes_ck (s : PS) : Takes s (ckS s) := by
  refine ⟨fun R h => ?_, fun R h => ?_, fun R => ?_⟩
  · unfold ckS; rw [if_neg h]
  · unfold ckS; rw [if_pos h]; split <;> rfl
  · unfold ckS; split
    · split <;> rfl
    · rfl
theorem takes_now (s : PS) (i : Nat) : Takes s (nowS s i) := by
  have h0 := takes_ck s
  refine ⟨fun R h => ?_, fun R h => ?_, fun R => ?_⟩
  · have : ckB s R = false := by unfold ckB; simp [h]
    unfold nowS; rw [this]; exact h0.stop R h
  · unfold nowS; split
    · exact h0.heard R h
    · exact h0.heard R h
  · unfold nowS; split
    · exact h0.trace R
    · exact h0.trace R
theorem takes_lot (s : PS) (i : Nat) : Takes s (fun R => lotS s R i) := by
  refine ⟨fun R h => ?_, fun R h => ?_, fun R => ?_⟩
  · simp only [lotS]; rw [if_neg h]
  · simp only [lotS]; rw [if_pos h]
  · simp only [lotS]; split <;> rfl

/-! ### The trace only grows; a run that has ended stays -/
theorem opM_tr (o : O3) (s : PS) (x : σ) : s.trace <+: (opM ask o s x).1.trace := by
  by_cases h7 : o.1 = 7
  · rw [opM_now o s x h7]; exact ((takes_now s _).trace _) ▸ List.prefix_refl _
  by_cases h8 : o.1 = 8
  · rw [opM_lot o s x h8]; exact ((takes_lot s _).trace _) ▸ List.prefix_refl _
  obtain ⟨s', _, h, e⟩ := opM_plain o s h7 h8
  rw [e]; exact h
theorem hM_tr {f : Nat → O3} {n : Nat} : ∀ (k : Nat) (s : PS) (x : σ), s.trace <+: (hM ask f n k s x).1.trace
  | 0, _, _ => List.prefix_refl _
  | k + 1, s, x => by
    unfold hM
    refine ite_ok (P := fun q : PS × σ => s.trace <+: q.1.trace) (ite_ok (P := fun q : PS × σ => s.trace <+: q.1.trace) (List.prefix_refl _) ?_) (List.prefix_refl _)
    exact List.IsPrefix.trans (opM_tr (ask := ask) (f s.next.toNat) { s with fuel := s.fuel - 1, next := s.next + 1 } x) (hM_tr k _ _)
theorem hM_halt {f : Nat → O3} {n : Nat} (k : Nat) (s : PS) (x : σ) (h : s.fin ≠ 0) : hM ask f n k s x = (s, x) := by
  cases k with
  | zero => rfl
  | succ k => unfold hM; rw [if_neg (fun c => h c.2)]
theorem gT_tr (p : Pg) (z : Int) (s : PS) (x : σ) : s.trace <+: (gT ask p z s x).1.trace := hM_tr (ask := ask) _ { s with next := 0 } x
theorem gF_tr (p : Pg) (z : Int) (s : PS) (x : σ) : s.trace <+: (gF ask p z s x).1.trace := hM_tr (ask := ask) _ { s with next := 0 } x
theorem frM_tr (p : Pg) : ∀ (l : List TM) (s : PS) (x : σ), s.trace <+: (frM (gT ask p) l s x).1.trace
  | [], _, _ => List.prefix_refl _
  | t :: r, s, x => by
    unfold frM
    refine ite_ok (P := fun q : PS × σ => s.trace <+: q.1.trace) (List.prefix_refl _) (ite_ok (P := fun q : PS × σ => s.trace <+: q.1.trace) ?_ (frM_tr p r s x))
    exact List.IsPrefix.trans (List.IsPrefix.trans (List.prefix_append _ _) (gT_tr p _ (offS s t.2.2.2) x)) (frM_tr p r _ _)
theorem frM_halt (g : Int → PS → σ → PS × σ) (l : List TM) (s : PS) (x : σ) (h : s.fin ≠ 0) : frM g l s x = (s, x) := by
  cases l with
  | nil => rfl
  | cons t r => unfold frM; rw [if_pos h]
theorem wk1_tr (p : Pg) (z : Int) (s : PS) (x : σ) : s.trace <+: (wk1 (gF ask p) z s x).1.trace := by
  unfold wk1
  refine ite_ok (P := fun q : PS × σ => s.trace <+: q.1.trace) ?_ (List.prefix_refl _)
  exact List.IsPrefix.trans (List.prefix_append _ _) (gF_tr p z { s with trace := s.trace ++ [(2, z, 0)] } x)
theorem wkM_tr (p : Pg) : ∀ (k : Nat) (l : List Int) (s : PS) (x : σ), s.trace <+: (wkM ask (gF ask p) k l s x).1.trace
  | 0, _, _, _ => List.prefix_refl _
  | k + 1, l, s, x => by
    have h1 := (pk_same (ask := ask) l.length s x).2.2.2.1
    unfold wkM
    refine ite_ok (P := fun q : PS × σ => s.trace <+: q.1.trace) (List.prefix_refl _) (ite_ok (P := fun q : PS × σ => s.trace <+: q.1.trace) ?_ ?_)
    · refine List.IsPrefix.trans ?_ (wkM_tr p k _ _ _)
      have := wk1_tr (ask := ask) p (l.getD (pk ask l.length s x).1.toNat 0) (pk ask l.length s x).2.2.1 (pk ask l.length s x).2.2.2
      rwa [h1] at this
    · show s.trace <+: (pk ask l.length s x).2.2.1.trace
      rw [h1]; exact List.prefix_refl _
theorem wkM_halt (g : Int → PS → σ → PS × σ) (k : Nat) (l : List Int) (s : PS) (x : σ) (h : s.fin ≠ 0) : wkM ask g k l s x = (s, x) := by
  cases k with
  | zero => rfl
  | succ k => unfold wkM; rw [if_pos (.inr h)]
theorem wakeM_tr (p : Pg) (s : PS) (x : σ) : s.trace <+: (wakeM ask p s x).1.trace := by
  unfold wakeM
  exact ite_ok (P := fun q : PS × σ => s.trace <+: q.1.trace) (wkM_tr (ask := ask) p 8 _ { s with heard := wrap64 (s.heard + 1) } _) (List.prefix_refl _)
theorem turnM_tr (p : Pg) (s : PS) (x : σ) : s.trace <+: (turnM ask p s x).1.trace := by
  have h0 := (takes_ck s).trace (ask x 1 0).1
  have h1 := frM_tr (ask := ask) p (dueS (ckS s (ask x 1 0).1)) (ckS s (ask x 1 0).1) (ask x 1 0).2
  rw [h0] at h1
  unfold turnM
  refine ite_ok (P := fun q : PS × σ => s.trace <+: q.1.trace) (List.prefix_refl _) (ite_ok (P := fun q : PS × σ => s.trace <+: q.1.trace) (ite_ok (P := fun q : PS × σ => s.trace <+: q.1.trace) (List.IsPrefix.trans h1 (wakeM_tr p _ _)) h1) ?_)
  show s.trace <+: (ckS s (ask x 1 0).1).trace
  rw [h0]; exact List.prefix_refl _
theorem turnsM_tr (p : Pg) : ∀ (k : Nat) (s : PS) (x : σ), s.trace <+: (turnsM ask p k s x).1.trace
  | 0, _, _ => List.prefix_refl _
  | k + 1, s, x => by
    unfold turnsM
    exact ite_ok (P := fun q : PS × σ => s.trace <+: q.1.trace) (List.IsPrefix.trans (turnM_tr p s x) (turnsM_tr p k _ _)) (List.prefix_refl _)

/-! ### What holds of the source behind a run held of it ahead -/
section
variable {G : σ → Prop}
theorem opM_back (hG : ∀ x k o, G (ask x k o).2 → G x) (o : O3) (s : PS) (x : σ) (h : G (opM ask o s x).2) : G x := by
  by_cases h7 : o.1 = 7
  · rw [opM_now o s x h7] at h; exact hG _ _ _ h
  by_cases h8 : o.1 = 8
  · rw [opM_lot o s x h8] at h; exact hG _ _ _ h
  obtain ⟨s', _, _, e⟩ := opM_plain o s h7 h8
  rwa [e] at h
theorem hM_back (hG : ∀ x k o, G (ask x k o).2 → G x) {f : Nat → O3} {n : Nat} : ∀ (k : Nat) (s : PS) (x : σ), G (hM ask f n k s x).2 → G x
  | 0, _, _, h => h
  | k + 1, s, x, h => by
    unfold hM at h
    by_cases hc : s.next < n ∧ s.fin = 0
    · rw [if_pos hc] at h
      by_cases hf : s.fuel = 0
      · rw [if_pos hf] at h; exact h
      · rw [if_neg hf] at h; exact opM_back hG _ _ _ (hM_back hG k _ _ h)
    · rw [if_neg hc] at h; exact h
theorem frM_back (hG : ∀ x k o, G (ask x k o).2 → G x) (p : Pg) : ∀ (l : List TM) (s : PS) (x : σ), G (frM (gT ask p) l s x).2 → G x
  | [], _, _, h => h
  | t :: r, s, x, h => by
    unfold frM at h
    by_cases hc : s.fin ≠ 0
    · rw [if_pos hc] at h; exact h
    · rw [if_neg hc] at h
      by_cases ht : s.tim t.2.2.2.toNat = t
      · rw [if_pos ht] at h; exact hM_back hG _ _ _ (frM_back hG p r _ _ h)
      · rw [if_neg ht] at h; exact frM_back hG p r _ _ h
theorem wk1_back (hG : ∀ x k o, G (ask x k o).2 → G x) (p : Pg) (z : Int) (s : PS) (x : σ) (h : G (wk1 (gF ask p) z s x).2) : G x := by
  unfold wk1 at h
  by_cases hw : s.wat z.toNat = true
  · rw [if_pos hw] at h; exact hM_back hG _ _ _ h
  · rw [if_neg hw] at h; exact h
theorem pk_back (hG : ∀ x k o, G (ask x k o).2 → G x) (n : Nat) (s : PS) (x : σ) (h : G (pk ask n s x).2.2.2) : G x := by
  unfold pk at h
  by_cases hn : n = 1
  · rw [if_pos hn] at h; exact h
  · rw [if_neg hn] at h; exact hG _ _ _ h
theorem wkM_back (hG : ∀ x k o, G (ask x k o).2 → G x) (p : Pg) : ∀ (k : Nat) (l : List Int) (s : PS) (x : σ), G (wkM ask (gF ask p) k l s x).2 → G x
  | 0, _, _, _, h => h
  | k + 1, l, s, x, h => by
    unfold wkM at h
    by_cases hc : l = [] ∨ s.fin ≠ 0
    · rw [if_pos hc] at h; exact h
    · rw [if_neg hc] at h
      by_cases hp : (pk ask l.length s x).2.1 = true
      · rw [if_pos hp] at h; exact pk_back hG _ _ _ (wk1_back hG p _ _ _ (wkM_back hG p k _ _ _ h))
      · rw [if_neg hp] at h; exact pk_back hG _ _ _ h
theorem wakeM_back (hG : ∀ x k o, G (ask x k o).2 → G x) (p : Pg) (s : PS) (x : σ) (h : G (wakeM ask p s x).2) : G x := by
  unfold wakeM at h
  by_cases hc : (ask x 2 0).1.e = 0
  · rw [if_pos hc] at h; exact hG _ _ _ (wkM_back hG p _ _ _ _ h)
  · rw [if_neg hc] at h; exact hG _ _ _ h
theorem turnM_back (hG : ∀ x k o, G (ask x k o).2 → G x) (p : Pg) (s : PS) (x : σ) (h : G (turnM ask p s x).2) : G x := by
  unfold turnM at h
  by_cases hi : idleB s = true
  · rw [if_pos hi] at h; exact h
  rw [if_neg hi] at h
  by_cases hc : ckB s (ask x 1 0).1 = true
  · rw [if_pos hc] at h
    by_cases hf : (frM (gT ask p) (dueS (ckS s (ask x 1 0).1)) (ckS s (ask x 1 0).1) (ask x 1 0).2).1.fin = 0
    · rw [if_pos hf] at h; exact hG _ _ _ (frM_back hG p _ _ _ (wakeM_back hG p _ _ h))
    · rw [if_neg hf] at h; exact hG _ _ _ (frM_back hG p _ _ _ h)
  · rw [if_neg hc] at h; exact hG _ _ _ h
theorem turnsM_back (hG : ∀ x k o, G (ask x k o).2 → G x) (p : Pg) : ∀ (k : Nat) (s : PS) (x : σ), G (turnsM ask p k s x).2 → G x
  | 0, _, _, h => h
  | k + 1, s, x, h => by
    unfold turnsM at h
    by_cases hc : s.fin = 0
    · rw [if_pos hc] at h; exact turnM_back hG p _ _ (turnsM_back hG p k _ _ h)
    · rw [if_neg hc] at h; exact h
end
end
end Go.Proofs.YtfmbebofllgmoaaGreatDoor
namespace Go.Proofs.YtfmbebofllgmoaaGreatDoor
open Go.RowKit Go.Sort

section
variable {σ τ : Type} {ask1 : σ → Int → Int → Rep × σ} {ask2 : τ → Int → Int → Rep × τ} {may : Int → Int → Prop} {G : σ → Prop} {Q : Int → σ → τ → Prop} {Z : Int → Int → σ → τ → Prop} {P : PS → PS → Prop}

/-- Two sources that answer alike (Q: so long; Z: when both have ended the run), till the second one ends the run otherwise (P: what holds of the two runs then). -/
structure Alike (ask1 : σ → Int → Int → Rep × σ) (ask2 : τ → Int → Int → Rep × τ) (may : Int → Int → Prop) (G : σ → Prop) (Q : Int → σ → τ → Prop) (Z : Int → Int → σ → τ → Prop) (P : PS → PS → Prop) : Prop where
  back : ∀ x k o, G (ask1 x k o).2 → G x
  step : ∀ h x y k o, may k o → Q h x y → G (ask1 x k o).2 →
    ((ask1 x k o).1 = (ask2 y k o).1 ∧ ((ask1 x k o).1.e = 0 → Q (wrap64 (h + 1)) (ask1 x k o).2 (ask2 y k o).2) ∧ ((ask1 x k o).1.e ≠ 0 → Z (ask1 x k o).1.e h (ask1 x k o).2 (ask2 y k o).2)) ∨
    ((ask2 y k o).1.e ≠ 0 ∧ ∀ s : PS, s.heard = h → s.fin = 0 → ((ask1 x k o).1.e ≠ 0 → P { s with fin := (ask1 x k o).1.e } { s with fin := (ask2 y k o).1.e }) ∧
      ((ask1 x k o).1.e = 0 → ∀ s' : PS, s.trace <+: s'.trace → P s' { s with fin := (ask2 y k o).1.e }))
  grow : ∀ s s' t : PS, P s t → s.fin = 0 → s.trace <+: s'.trace → P s' t

/-- Two runs so far. -/
def Rl (Q : Int → σ → τ → Prop) (Z : Int → Int → σ → τ → Prop) (P : PS → PS → Prop) (r1 : PS × σ) (r2 : PS × τ) : Prop := (r1.1 = r2.1 ∧ (Q r1.1.heard r1.2 r2.2 ∨ (r1.1.fin ≠ 0 ∧ Z r1.1.fin r1.1.heard r1.2 r2.2))) ∨ (r2.1.fin ≠ 0 ∧ P r1.1 r2.1)
theorem Rl.sync {r1 : PS × σ} {r2 : PS × τ} (e : r1.1 = r2.1) (q : Q r1.1.heard r1.2 r2.2) : Rl Q Z P r1 r2 := .inl ⟨e, .inl q⟩

theorem Rl.bind (A : Alike ask1 ask2 may G Q Z P) {r1 : PS × σ} {r2 : PS × τ} (h : Rl Q Z P r1 r2) {F1 : PS → σ → PS × σ} {F2 : PS → τ → PS × τ} (h1 : ∀ s x, s.fin ≠ 0 → F1 s x = (s, x)) (h2 : ∀ s x, s.fin ≠ 0 → F2 s x = (s, x))
    (ht : ∀ s x, s.trace <+: (F1 s x).1.trace) (hs : r1.1.fin = 0 → Q r1.1.heard r1.2 r2.2 → Rl Q Z P (F1 r1.1 r1.2) (F2 r1.1 r2.2)) : Rl Q Z P (F1 r1.1 r1.2) (F2 r2.1 r2.2) := by
  rcases h with ⟨e, q⟩ | ⟨e, p⟩
  · rw [← e]
    by_cases h0 : r1.1.fin = 0
    · rcases q with q | ⟨q, _⟩
      · exact hs h0 q
      · exact absurd h0 q
    · rw [h1 _ _ h0, h2 _ _ h0]; exact .inl ⟨rfl, q⟩
  · rw [h2 _ _ e]
    by_cases h0 : r1.1.fin = 0
    · exact .inr ⟨e, A.grow _ _ _ p h0 (ht _ _)⟩
    · rw [h1 _ _ h0]; exact .inr ⟨e, p⟩

/-- A question, and what comes behind its answer. -/
theorem ask_bind (A : Alike ask1 ask2 may G Q Z P) {s : PS} {x : σ} {y : τ} {k o : Int} (hm : may k o) (hq : Q s.heard x y) (h0 : s.fin = 0) (K1 : Rep → σ → PS × σ) (K2 : Rep → τ → PS × τ)
    (h1 : ∀ R x, R.e ≠ 0 → K1 R x = ({ s with fin := R.e }, x)) (h2 : ∀ R x, R.e ≠ 0 → K2 R x = ({ s with fin := R.e }, x)) (ht : ∀ R x, s.trace <+: (K1 R x).1.trace) (hb : ∀ R x, G (K1 R x).2 → G x)
    (hs : ∀ R x' y', R = (ask1 x k o).1 → R.e = 0 → Q (wrap64 (s.heard + 1)) x' y' → G (K1 R x').2 → Rl Q Z P (K1 R x') (K2 R y')) (hg : G (K1 (ask1 x k o).1 (ask1 x k o).2).2) :
    Rl Q Z P (K1 (ask1 x k o).1 (ask1 x k o).2) (K2 (ask2 y k o).1 (ask2 y k o).2) := by
  rcases A.step s.heard x y k o hm hq (hb _ _ hg) with ⟨e, q0, q1⟩ | ⟨e, p⟩
  · rw [← e]
    by_cases he : (ask1 x k o).1.e = 0
    · exact hs _ _ _ rfl he (q0 he) hg
    · rw [h1 _ _ he, h2 _ _ he]; exact .inl ⟨rfl, .inr ⟨he, q1 he⟩⟩
  · obtain ⟨p1, p0⟩ := p s rfl h0
    rw [h2 _ _ e]
    refine .inr ⟨e, ?_⟩
    by_cases he : (ask1 x k o).1.e = 0
    · exact p0 he _ (ht _ _)
    · rw [h1 _ _ he]; exact p1 he

theorem ask_sim (A : Alike ask1 ask2 may G Q Z P) {s : PS} {x : σ} {y : τ} {k o : Int} (hm : may k o) (hq : Q s.heard x y) (h0 : s.fin = 0) {B : Rep → PS} (hB : Takes s B) (hg : G (ask1 x k o).2) :
    Rl Q Z P (B (ask1 x k o).1, (ask1 x k o).2) (B (ask2 y k o).1, (ask2 y k o).2) :=
  ask_bind A hm hq h0 (fun R x => (B R, x)) (fun R x => (B R, x)) (fun R x h => by rw [hB.stop R h]) (fun R x h => by rw [hB.stop R h]) (fun R x => by rw [hB.trace R]; exact List.prefix_refl _) (fun R x h => h)
    (fun R x' y' _ he q _ => Rl.sync rfl (by show Q (B R).heard x' y'; rw [hB.heard R he]; exact q)) hg

theorem opM_sim (A : Alike ask1 ask2 may G Q Z P) (hm : MayOk may) {nt nf : Nat} (o : O3) {s : PS} {x : σ} {y : τ} (hr : rt o nt nf = true) (hq : Q s.heard x y) (h0 : s.fin = 0) (hg : G (opM ask1 o s x).2) : Rl Q Z P (opM ask1 o s x) (opM ask2 o s y) := by
  by_cases h7 : o.1 = 7
  · rw [opM_now o s x h7] at hg ⊢
    rw [opM_now o s y h7]
    exact ask_sim A hm.clock hq h0 (takes_now s _) hg
  by_cases h8 : o.1 = 8
  · rw [opM_lot o s x h8] at hg ⊢
    rw [opM_lot o s y h8]
    have hr' : rightB 8 o.2.1 o.2.2 nt nf = true := by rw [← h8]; exact hr
    obtain ⟨q1, q2⟩ := right_lot hr'
    exact ask_sim A (hm.lot _ q1 q2) hq h0 (takes_lot s _) hg
  obtain ⟨s', hh, _, e⟩ := opM_plain o s h7 h8
  rw [e, e]
  exact Rl.sync rfl (by show Q s'.heard x y; rw [hh]; exact hq)

theorem hM_sim (A : Alike ask1 ask2 may G Q Z P) (hm : MayOk may) {nt nf n : Nat} {f : Nat → O3} (hr : ∀ i, i < n → rt (f i) nt nf = true) : ∀ (k : Nat) {s : PS} {x : σ} {y : τ}, 0 ≤ s.next → Q s.heard x y → G (hM ask1 f n k s x).2 → Rl Q Z P (hM ask1 f n k s x) (hM ask2 f n k s y)
  | 0, s, x, y, _, hq, _ => Rl.sync rfl hq
  | k + 1, s, x, y, hn, hq, hg => by
    unfold hM at hg ⊢
    by_cases hc : s.next < n ∧ s.fin = 0
    · rw [if_pos hc] at hg ⊢
      rw [if_pos hc]
      by_cases hf : s.fuel = 0
      · rw [if_pos hf] at hg ⊢
        rw [if_pos hf]
        exact Rl.sync rfl hq
      · rw [if_neg hf] at hg ⊢
        rw [if_neg hf]
        have hg1 := hM_back A.back k _ _ hg
        have h1 := opM_sim A hm (f s.next.toNat) (s := { s with fuel := s.fuel - 1, next := s.next + 1 }) (hr s.next.toNat (by omega)) hq hc.2 hg1
        have hnx := opM_next (ask := ask1) (f s.next.toNat) { s with fuel := s.fuel - 1, next := s.next + 1 } x
        exact h1.bind A (fun s x h => hM_halt k s x h) (fun s x h => hM_halt k s x h) (fun s x => hM_tr k s x) (fun _ q => hM_sim A hm hr k (by simp only at hnx; omega) q hg)
    · rw [if_neg hc] at hg ⊢
      rw [if_neg hc]
      exact Rl.sync rfl hq

theorem frM_sim (A : Alike ask1 ask2 may G Q Z P) (hm : MayOk may) {p : Pg} (hp : PgOk p) : ∀ (l : List TM) {s : PS} {x : σ} {y : τ}, (∀ t, t ∈ l → 0 ≤ t.2.2.2 ∧ t.2.2.2 < p.tn) → Q s.heard x y → G (frM (gT ask1 p) l s x).2 → Rl Q Z P (frM (gT ask1 p) l s x) (frM (gT ask2 p) l s y)
  | [], s, x, y, _, hq, _ => Rl.sync rfl hq
  | t :: r, s, x, y, hl, hq, hg => by
    have hr := fun t ht => hl t (List.mem_cons_of_mem _ ht)
    have h1 := hl t (List.mem_cons_self ..)
    unfold frM at hg ⊢
    by_cases hc : s.fin ≠ 0
    · rw [if_pos hc, if_pos hc]; exact Rl.sync rfl hq
    · rw [if_neg hc] at hg ⊢
      rw [if_neg hc]
      by_cases ht : s.tim t.2.2.2.toNat = t
      · rw [if_pos ht] at hg ⊢
        rw [if_pos ht]
        have hg1 := frM_back A.back p r _ _ hg
        have h2 : Rl Q Z P (gT ask1 p t.2.2.2 (offS s t.2.2.2) x) (gT ask2 p t.2.2.2 (offS s t.2.2.2) y) := hM_sim A hm (hp.tr t.2.2.2.toNat (by omega)) _ (s := { offS s t.2.2.2 with next := 0 }) (Int.le_refl 0) hq hg1
        exact h2.bind A (fun s x h => frM_halt _ r s x h) (fun s x h => frM_halt _ r s x h) (fun s x => frM_tr p r s x) (fun _ q => frM_sim A hm hp r hr q hg)
      · rw [if_neg ht] at hg ⊢
        rw [if_neg ht]
        exact frM_sim A hm hp r hr hq hg

theorem wk1_sim (A : Alike ask1 ask2 may G Q Z P) (hm : MayOk may) {p : Pg} (hp : PgOk p) (z : Int) {s : PS} {x : σ} {y : τ} (hw : WInv p.tn p.fn s) (hq : Q s.heard x y) (hg : G (wk1 (gF ask1 p) z s x).2) : Rl Q Z P (wk1 (gF ask1 p) z s x) (wk1 (gF ask2 p) z s y) := by
  unfold wk1 at hg ⊢
  by_cases h : s.wat z.toNat = true
  · rw [if_pos h] at hg ⊢
    rw [if_pos h]
    exact hM_sim A hm (hp.fr z.toNat (hw.wat _ h)) _ (s := { s with trace := s.trace ++ [(2, z, 0)], next := 0 }) (Int.le_refl 0) hq hg
  · rw [if_neg h, if_neg h]; exact Rl.sync rfl hq

theorem wk1_winv {p : Pg} (hp : PgOk p) {ask : σ → Int → Int → Rep × σ} (z : Int) {s : PS} (x : σ) (hw : WInv p.tn p.fn s) : WInv p.tn p.fn (wk1 (gF ask p) z s x).1 := by
  unfold wk1
  by_cases h : s.wat z.toNat = true
  · rw [if_pos h]; exact hM_winv (hp.fr z.toNat (hw.wat _ h)) _ _ _ (Int.le_refl 0) (hw.of rfl rfl rfl)
  · rw [if_neg h]; exact hw

/-- Behind a pick. -/
def pkK (g : Int → PS → σ → PS × σ) (ask : σ → Int → Int → Rep × σ) (k : Nat) (l : List Int) (s : PS) (R : Rep) (x : σ) : PS × σ :=
  if R.e = 0 then wkM ask g k (l.eraseIdx R.n.toNat) (wk1 g (l.getD R.n.toNat 0) { s with heard := wrap64 (s.heard + 1) } x).1 (wk1 g (l.getD R.n.toNat 0) { s with heard := wrap64 (s.heard + 1) } x).2 else ({ s with fin := R.e }, x)
theorem wkM_one (ask : σ → Int → Int → Rep × σ) (g : Int → PS → σ → PS × σ) (k : Nat) (l : List Int) (s : PS) (x : σ) (h : l.length = 1) (h0 : s.fin = 0) : wkM ask g (k + 1) l s x = wkM ask g k (l.eraseIdx 0) (wk1 g (l.getD 0 0) s x).1 (wk1 g (l.getD 0 0) s x).2 := by
  have hl : ¬ (l = [] ∨ s.fin ≠ 0) := by rintro (h' | h'); · rw [h'] at h; simp at h
                                         · exact h' h0
  simp only [wkM]
  rw [if_neg hl]
  simp only [pk, h, if_true, Int.toNat_zero]
theorem wkM_many (ask : σ → Int → Int → Rep × σ) (g : Int → PS → σ → PS × σ) (k : Nat) (l : List Int) (s : PS) (x : σ) (h : 2 ≤ l.length) (h0 : s.fin = 0) : wkM ask g (k + 1) l s x = pkK g ask k l s (ask x 3 l.length).1 (ask x 3 l.length).2 := by
  have hl : ¬ (l = [] ∨ s.fin ≠ 0) := by rintro (h' | h'); · rw [h'] at h; simp at h
                                         · exact h' h0
  have h1 : ¬ l.length = 1 := by omega
  simp only [wkM]
  rw [if_neg hl]
  simp only [pk, h1, if_false, pkK, hdS]
  by_cases he : (ask x 3 l.length).1.e = 0
  · simp only [he, decide_true, if_true]
  · simp only [he, decide_false, if_false, Bool.false_eq_true]

theorem wkM_sim (A : Alike ask1 ask2 may G Q Z P) (hm : MayOk may) {p : Pg} (hp : PgOk p) : ∀ (k : Nat) (l : List Int) {s : PS} {x : σ} {y : τ}, l.length ≤ 8 → WInv p.tn p.fn s → Q s.heard x y → G (wkM ask1 (gF ask1 p) k l s x).2 → Rl Q Z P (wkM ask1 (gF ask1 p) k l s x) (wkM ask2 (gF ask2 p) k l s y)
  | 0, l, s, x, y, _, _, hq, _ => Rl.sync rfl hq
  | k + 1, l, s, x, y, hl, hw, hq, hg => by
    by_cases hc : l = [] ∨ s.fin ≠ 0
    · unfold wkM
      rw [if_pos hc, if_pos hc]; exact Rl.sync rfl hq
    have h0 : s.fin = 0 := Decidable.byContradiction fun h => hc (.inr h)
    have hne : l ≠ [] := fun h => hc (.inl h)
    have hpos : 0 < l.length := List.length_pos_iff.2 hne
    by_cases h1 : l.length = 1
    · rw [wkM_one ask1 _ k l s x h1 h0] at hg ⊢
      rw [wkM_one ask2 _ k l s y h1 h0]
      have hg1 := wkM_back A.back p k _ _ _ hg
      have hw1 := wk1_winv hp (ask := ask1) (l.getD 0 0) x hw
      have hle : (l.eraseIdx 0).length ≤ 8 := Nat.le_trans (List.length_eraseIdx_le _ _) hl
      exact (wk1_sim A hm hp _ hw hq hg1).bind A (fun s x h => wkM_halt _ k _ s x h) (fun s x h => wkM_halt _ k _ s x h) (fun s x => wkM_tr p k _ s x) (fun _ q => wkM_sim A hm hp k _ hle hw1 q hg)
    · rw [wkM_many ask1 _ k l s x (by omega) h0] at hg ⊢
      rw [wkM_many ask2 _ k l s y (by omega) h0]
      refine ask_bind A (hm.pick l.length (by omega) hl) hq h0 (pkK (gF ask1 p) ask1 k l s) (pkK (gF ask2 p) ask2 k l s) (fun R x h => by unfold pkK; rw [if_neg h]) (fun R x h => by unfold pkK; rw [if_neg h]) ?_ ?_ ?_ hg
      · intro R x
        unfold pkK
        exact ite_ok (P := fun q : PS × σ => s.trace <+: q.1.trace) (List.IsPrefix.trans (wk1_tr (ask := ask1) p (l.getD R.n.toNat 0) { s with heard := wrap64 (s.heard + 1) } x) (wkM_tr p k _ _ _)) (List.prefix_refl _)
      · intro R x h
        unfold pkK at h
        by_cases he : R.e = 0
        · rw [if_pos he] at h; exact wk1_back A.back p _ _ _ (wkM_back A.back p k _ _ _ h)
        · rw [if_neg he] at h; exact h
      · intro R x' y' _ he hq' hg'
        unfold pkK at hg' ⊢
        rw [if_pos he] at hg' ⊢
        rw [if_pos he]
        have hw0 : WInv p.tn p.fn { s with heard := wrap64 (s.heard + 1) } := hw.of rfl rfl rfl
        have hg1 := wkM_back A.back p k _ _ _ hg'
        have hw1 := wk1_winv hp (ask := ask1) (l.getD R.n.toNat 0) x' hw0
        have hle : (l.eraseIdx R.n.toNat).length ≤ 8 := Nat.le_trans (List.length_eraseIdx_le _ _) hl
        exact (wk1_sim A hm hp _ hw0 hq' hg1).bind A (fun s x h => wkM_halt _ k _ s x h) (fun s x h => wkM_halt _ k _ s x h) (fun s x => wkM_tr p k _ s x) (fun _ q => wkM_sim A hm hp k _ hle hw1 q hg')

/-- The first source's batches are batches. -/
def Most (ask1 : σ → Int → Int → Rep × σ) : Prop := ∀ x, (ask1 x 2 0).1.files.length ≤ 8

def wakeK (ask : σ → Int → Int → Rep × σ) (p : Pg) (s : PS) (R : Rep) (x : σ) : PS × σ :=
  if R.e = 0 then wkM ask (gF ask p) 8 (R.files.filter fun z => s.wat z.toNat) { s with heard := wrap64 (s.heard + 1) } x else ({ s with fin := R.e }, x)

theorem wakeM_sim (A : Alike ask1 ask2 may G Q Z P) (hm : MayOk may) (hM8 : Most ask1) {p : Pg} (hp : PgOk p) {s : PS} {x : σ} {y : τ} (hw : WInv p.tn p.fn s) (h0 : s.fin = 0) (hq : Q s.heard x y) (hg : G (wakeM ask1 p s x).2) : Rl Q Z P (wakeM ask1 p s x) (wakeM ask2 p s y) := by
  refine ask_bind A hm.batch hq h0 (wakeK ask1 p s) (wakeK ask2 p s) (fun R x h => by unfold wakeK; rw [if_neg h]) (fun R x h => by unfold wakeK; rw [if_neg h]) ?_ ?_ ?_ hg
  · intro R x
    unfold wakeK
    exact ite_ok (P := fun q : PS × σ => s.trace <+: q.1.trace) (wkM_tr (ask := ask1) p 8 _ { s with heard := wrap64 (s.heard + 1) } _) (List.prefix_refl _)
  · intro R x h
    unfold wakeK at h
    by_cases he : R.e = 0
    · rw [if_pos he] at h; exact wkM_back A.back p _ _ _ _ h
    · rw [if_neg he] at h; exact h
  · intro R x' y' hR he hq' hg'
    unfold wakeK at hg' ⊢
    rw [if_pos he] at hg' ⊢
    rw [if_pos he]
    exact wkM_sim A hm hp 8 _ (Nat.le_trans (List.length_filter_le _ _) (hR ▸ hM8 x)) (hw.of rfl rfl rfl) hq' hg'

theorem frM_winv' {ask : σ → Int → Int → Rep × σ} {p : Pg} (hp : PgOk p) : ∀ (l : List TM) (s : PS) (x : σ), (∀ t, t ∈ l → 0 ≤ t.2.2.2 ∧ t.2.2.2 < p.tn) → WInv p.tn p.fn s → WInv p.tn p.fn (frM (gT ask p) l s x).1
  | [], _, _, _, h => h
  | t :: r, s, x, hl, h => by
    have h1 := hl t (List.mem_cons_self ..)
    have hr := fun t ht => hl t (List.mem_cons_of_mem _ ht)
    unfold frM
    refine ite_ok (P := fun q : PS × σ => WInv p.tn p.fn q.1) h (ite_ok (P := fun q : PS × σ => WInv p.tn p.fn q.1) ?_ (frM_winv' hp r s x hr h))
    exact frM_winv' hp r _ _ hr (hM_winv (hp.tr t.2.2.2.toNat (by omega)) _ _ _ (Int.le_refl 0) ((frM_winv t.2.2.2 h).of rfl rfl rfl))

/-- A turn's timers and files. -/
def restM (ask : σ → Int → Int → Rep × σ) (p : Pg) (s : PS) (x : σ) : PS × σ := if s.fin = 0 then wakeM ask p s x else (s, x)
def turnK (ask : σ → Int → Int → Rep × σ) (p : Pg) (s : PS) (R : Rep) (x : σ) : PS × σ :=
  if ckB s R then restM ask p (frM (gT ask p) (dueS (ckS s R)) (ckS s R) x).1 (frM (gT ask p) (dueS (ckS s R)) (ckS s R) x).2 else (ckS s R, x)

theorem turnM_sim (A : Alike ask1 ask2 may G Q Z P) (hm : MayOk may) (hM8 : Most ask1) {p : Pg} (hp : PgOk p) {s : PS} {x : σ} {y : τ} (hw : WInv p.tn p.fn s) (h0 : s.fin = 0) (hq : Q s.heard x y) (hg : G (turnM ask1 p s x).2) : Rl Q Z P (turnM ask1 p s x) (turnM ask2 p s y) := by
  by_cases hi : idleB s = true
  · unfold turnM
    rw [if_pos hi, if_pos hi]; exact Rl.sync rfl hq
  have e1 : turnM ask1 p s x = turnK ask1 p s (ask1 x 1 0).1 (ask1 x 1 0).2 := by unfold turnM turnK restM; rw [if_neg hi]
  have e2 : turnM ask2 p s y = turnK ask2 p s (ask2 y 1 0).1 (ask2 y 1 0).2 := by unfold turnM turnK restM; rw [if_neg hi]
  have ht : ∀ s x, s.trace <+: (restM ask1 p s x).1.trace := fun s x => by
    unfold restM; exact ite_ok (P := fun q : PS × σ => s.trace <+: q.1.trace) (wakeM_tr p s x) (List.prefix_refl _)
  have hb : ∀ s x, G (restM ask1 p s x).2 → G x := fun s x h => by
    unfold restM at h
    by_cases h0 : s.fin = 0
    · rw [if_pos h0] at h; exact wakeM_back A.back p s x h
    · rw [if_neg h0] at h; exact h
  rw [e1] at hg ⊢
  rw [e2]
  have hno : ∀ R : Rep, R.e ≠ 0 → ckB s R = false := fun R h => by unfold ckB; simp [h]
  refine ask_bind A hm.clock hq h0 (turnK ask1 p s) (turnK ask2 p s) (fun R x h => ?_) (fun R x h => ?_) ?_ ?_ ?_ hg
  · unfold turnK; rw [hno R h, (takes_ck s).stop R h]; rfl
  · unfold turnK; rw [hno R h, (takes_ck s).stop R h]; rfl
  · intro R x
    have h1 := frM_tr (ask := ask1) p (dueS (ckS s R)) (ckS s R) x
    rw [(takes_ck s).trace R] at h1
    unfold turnK
    refine ite_ok (P := fun q : PS × σ => s.trace <+: q.1.trace) (List.IsPrefix.trans h1 (ht _ _)) ?_
    show s.trace <+: (ckS s R).trace
    rw [(takes_ck s).trace R]; exact List.prefix_refl _
  · intro R x h
    unfold turnK at h
    by_cases hc : ckB s R = true
    · rw [if_pos hc] at h; exact frM_back A.back p _ _ _ (hb _ _ h)
    · rw [if_neg hc] at h; exact h
  · intro R x' y' _ he hq' hg'
    have hh := (takes_ck s).heard R he
    unfold turnK at hg' ⊢
    by_cases hc : ckB s R = true
    · rw [if_pos hc] at hg' ⊢
      rw [if_pos hc]
      have hwc := ckS_winv hw R
      have hd : ∀ t, t ∈ dueS (ckS s R) → 0 ≤ t.2.2.2 ∧ t.2.2.2 < p.tn := fun t ht => mem_due hwc ht
      have hg1 := hb _ _ hg'
      have hw1 := frM_winv' (ask := ask1) hp (dueS (ckS s R)) (ckS s R) x' hd hwc
      refine (frM_sim A hm hp (dueS (ckS s R)) hd (by rw [hh]; exact hq') hg1).bind A (fun s x h => by unfold restM; rw [if_neg h]) (fun s x h => by unfold restM; rw [if_neg h]) ht (fun hz q => ?_)
      unfold restM at hg' ⊢
      rw [if_pos hz] at hg' ⊢
      rw [if_pos hz]
      exact wakeM_sim A hm hM8 hp hw1 hz q hg'
    · rw [if_neg hc, if_neg hc]
      exact Rl.sync rfl (by show Q (ckS s R).heard x' y'; rw [hh]; exact hq')

theorem turnM_winv {ask : σ → Int → Int → Rep × σ} {p : Pg} (hp : PgOk p) {s : PS} (x : σ) (hw : WInv p.tn p.fn s) : WInv p.tn p.fn (turnM ask p s x).1 := by
  have hwc := ckS_winv hw (ask x 1 0).1
  have h1 := frM_winv' (ask := ask) hp (dueS (ckS s (ask x 1 0).1)) (ckS s (ask x 1 0).1) (ask x 1 0).2 (fun t ht => mem_due hwc ht) hwc
  unfold turnM
  refine ite_ok (P := fun q : PS × σ => WInv p.tn p.fn q.1) (hw.of rfl rfl rfl) (ite_ok (P := fun q : PS × σ => WInv p.tn p.fn q.1) (ite_ok (P := fun q : PS × σ => WInv p.tn p.fn q.1) ?_ h1) hwc)
  have hk : ∀ (k : Nat) (l : List Int) (s : PS) (x : σ), WInv p.tn p.fn s → WInv p.tn p.fn (wkM ask (gF ask p) k l s x).1 := by
    intro k
    induction k with
    | zero => intro l s x h; exact h
    | succ k ih =>
      intro l s x h
      obtain ⟨_, _, p3, _, p5, p6⟩ := pk_same (ask := ask) l.length s x
      have h2 : WInv p.tn p.fn (pk ask l.length s x).2.2.1 := h.of p5 p6 p3
      unfold wkM
      exact ite_ok (P := fun q : PS × σ => WInv p.tn p.fn q.1) h (ite_ok (P := fun q : PS × σ => WInv p.tn p.fn q.1) (ih _ _ _ (wk1_winv hp _ _ h2)) h2)
  unfold wakeM
  exact ite_ok (P := fun q : PS × σ => WInv p.tn p.fn q.1) (hk _ _ _ _ (h1.of rfl rfl rfl)) (h1.of rfl rfl rfl)

theorem turnsM_sim (A : Alike ask1 ask2 may G Q Z P) (hm : MayOk may) (hM8 : Most ask1) {p : Pg} (hp : PgOk p) : ∀ (k : Nat) {s : PS} {x : σ} {y : τ}, WInv p.tn p.fn s → Q s.heard x y → G (turnsM ask1 p k s x).2 → Rl Q Z P (turnsM ask1 p k s x) (turnsM ask2 p k s y)
  | 0, s, x, y, _, hq, _ => Rl.sync rfl hq
  | k + 1, s, x, y, hw, hq, hg => by
    unfold turnsM at hg ⊢
    by_cases hc : s.fin = 0
    · rw [if_pos hc] at hg ⊢
      rw [if_pos hc]
      have hg1 := turnsM_back A.back p k _ _ hg
      have hw1 := turnM_winv (ask := ask1) hp x hw
      exact (turnM_sim A hm hM8 hp hw hc hq hg1).bind A (fun s x h => turnsM_stop p k s x h) (fun s x h => turnsM_stop p k s x h) (fun s x => turnsM_tr p k s x) (fun _ q => turnsM_sim A hm hM8 hp k hw1 q hg)
    · rw [if_neg hc, if_neg hc]; exact Rl.sync rfl hq

theorem s0_winv (nt nf : Nat) (f : Int) : WInv nt nf (s0 f) := ⟨fun _ h => absurd h Bool.false_ne_true, fun _ h => absurd h Bool.false_ne_true, fun _ h => absurd h Bool.false_ne_true, fun _ _ h => absurd h Bool.false_ne_true⟩

/-- Two runs of one program over two sources that answer alike. -/
theorem runM_sim (A : Alike ask1 ask2 may G Q Z P) (hm : MayOk may) (hM8 : Most ask1) {p : Pg} (hp : PgOk p) (k : Nat) (f : Int) {x : σ} {y : τ} (hq : Q 0 x y) (hg : G (runM ask1 p k f x).2) : Rl Q Z P (runM ask1 p k f x) (runM ask2 p k f y) := by
  unfold runM at hg ⊢
  have hg1 := turnsM_back A.back p k _ _ hg
  have hw := hM_winv (ask := ask1) hp.sr p.sn (s0 (min (max f 0) 5000)) x (Int.le_refl 0) (s0_winv _ _ _)
  exact (hM_sim A hm hp.sr p.sn (s := s0 (min (max f 0) 5000)) (Int.le_refl 0) hq hg1).bind A (fun s x h => turnsM_stop p k s x h) (fun s x h => turnsM_stop p k s x h) (fun s x => turnsM_tr p k s x) (fun _ q => turnsM_sim A hm hM8 hp k hw q hg)

/-- More turns than there are clocks make no difference. -/
theorem turnsM_more {ask : σ → Int → Int → Rep × σ} {mes : σ → Nat} (hs : SrcOk ask mes) (p : Pg) : ∀ (k : Nat) (s : PS) (x : σ), mes x < k → (turnsM ask p k s x).1.fin ≠ 0 ∧ ∀ k', k ≤ k' → turnsM ask p k' s x = turnsM ask p k s x
  | 0, _, _, h => absurd h (Nat.not_lt_zero _)
  | k + 1, s, x, h => by
    by_cases hc : s.fin = 0
    · have e : turnsM ask p (k + 1) s x = turnsM ask p k (turnM ask p s x).1 (turnM ask p s x).2 := by simp only [turnsM]; rw [if_pos hc]
      have e' : ∀ j, turnsM ask p (j + 1) s x = turnsM ask p j (turnM ask p s x).1 (turnM ask p s x).2 := fun j => by simp only [turnsM]; rw [if_pos hc]
      rcases turnM_mes hs p s x with hf | hlt
      · rw [e, turnsM_stop p k _ _ hf]
        refine ⟨hf, fun k' hk => ?_⟩
        obtain ⟨j, rfl⟩ : ∃ j, k' = j + 1 := ⟨k' - 1, by omega⟩
        rw [e' j, turnsM_stop p j _ _ hf]
      · obtain ⟨h1, h2⟩ := turnsM_more hs p k (turnM ask p s x).1 (turnM ask p s x).2 (by omega)
        rw [e]
        refine ⟨h1, fun k' hk => ?_⟩
        obtain ⟨j, rfl⟩ : ∃ j, k' = j + 1 := ⟨k' - 1, by omega⟩
        rw [e' j]
        exact h2 j (by omega)
    · rw [turnsM_stop p (k + 1) s x hc]
      exact ⟨hc, fun k' _ => turnsM_stop p k' s x hc⟩
theorem runM_more {ask : σ → Int → Int → Rep × σ} {mes : σ → Nat} (hs : SrcOk ask mes) (p : Pg) (f : Int) (x : σ) (k : Nat) (h : mes x < k) : (runM ask p k f x).1.fin ≠ 0 ∧ ∀ k', k ≤ k' → runM ask p k' f x = runM ask p k f x := by
  have h1 := hM_mes hs (f := p.sf) (n := p.sn) p.sn (s0 (min (max f 0) 5000)) x
  exact turnsM_more hs p k _ _ (by omega)
end
end Go.Proofs.YtfmbebofllgmoaaGreatDoor
namespace Go.Proofs.YtfmbebofllgmoaaGreatDoor
open Go.RowKit

/-- The record of an input, as numbers. -/
def frL (x : Inp) : List Nat := (bodyL x).length :: (bodyL x ++ sm (bodyL x))
/-- The records of inputs, one behind the other. -/
def frs (xs : List Inp) : List Nat := xs.flatMap frL
def hd3 : List Nat := [82, 82, 49]
/-- The log of inputs and an end. -/
def logL (xs : List Inp) (e : Nat) : List Nat := hd3 ++ (frs xs ++ frL (5, 0, e, []))
theorem fit_end (e : Nat) (h1 : 1 ≤ e) (h5 : e ≤ 5) : Fit (5, 0, e, []) := .inr (.inr (.inr (.inr ⟨rfl, rfl, h1, h5, rfl⟩)))
end Go.Proofs.YtfmbebofllgmoaaGreatDoor
namespace Go.Proofs.YtfmbebofllgmoaaGreatDoor
open Go.RowKit

theorem pgok_of_ans {p : Pg} (h : Ans p.tn p.fn (1 + p.tn + p.fn) (allL p.sn p.tn p.tl p.fl) (allF p.tn p.sf p.tf p.ff) 0) : PgOk p := by
  rcases h with ⟨_, h⟩ | ⟨_, _, h⟩ | ⟨_, _, _, h⟩ | ⟨_, _, _, _, h⟩ | ⟨h1, h2, h3, h4, _⟩
  · omega
  · omega
  · omega
  · omega
  have L0 : allL p.sn p.tn p.tl p.fl 0 = p.sn := by simp [allL, cat]
  have L1 : ∀ i, i < p.tn → allL p.sn p.tn p.tl p.fl (1 + i) = p.tl i := fun i hi => by simp [allL, cat, hi]
  have L2 : ∀ i, allL p.sn p.tn p.tl p.fl (1 + p.tn + i) = p.fl i := fun i => by simp [allL, cat]; intro h; omega
  have F0 : allF p.tn p.sf p.tf p.ff 0 = p.sf := by simp [allF, cat]
  have F1 : ∀ i, i < p.tn → allF p.tn p.sf p.tf p.ff (1 + i) = p.tf i := fun i hi => by simp [allF, cat, hi]
  have F2 : ∀ i, allF p.tn p.sf p.tf p.ff (1 + p.tn + i) = p.ff i := fun i => by simp [allF, cat]; intro h; omega
  refine ⟨h1, h2, ?_, ?_, ?_, ?_, ?_, ?_⟩
  · have := h3 0 (by omega); rwa [L0] at this
  · intro i hi; have := h3 (1 + i) (by omega); rwa [L1 i hi] at this
  · intro i hi; have := h3 (1 + p.tn + i) (by omega); rwa [L2 i] at this
  · intro j hj; have := h4 0 j (by omega) (by rw [L0]; exact hj); rwa [F0] at this
  · intro i hi j hj; have := h4 (1 + i) j (by omega) (by rw [L1 i hi]; exact hj); rwa [F1 i hi] at this
  · intro i hi j hj; have := h4 (1 + p.tn + i) j (by omega) (by rw [L2 i]; exact hj); rwa [F2 i] at this

/-- How a run may end. -/
def FinOk (s : PS) : Prop := 0 ≤ s.fin ∧ s.fin ≤ 6
section
variable {σ : Type} {ask : σ → Int → Int → Rep × σ}
/-- A source's ends are ends. -/
def EndOk (ask : σ → Int → Int → Rep × σ) : Prop := ∀ x k o, 0 ≤ (ask x k o).1.e ∧ (ask x k o).1.e ≤ 6
theorem ckS_fin {s : PS} {R : Rep} (h : FinOk s) (hR : 0 ≤ R.e ∧ R.e ≤ 6) : FinOk (ckS s R) := by
  unfold ckS
  exact ite_ok (P := FinOk) (ite_ok (P := FinOk) ⟨by show (0 : Int) ≤ 4; omega, by show (4 : Int) ≤ 6; omega⟩ h) hR
theorem lotS_fin {s : PS} {R : Rep} (i : Nat) (h : FinOk s) (hR : 0 ≤ R.e ∧ R.e ≤ 6) : FinOk (lotS s R i) := ite_ok (P := FinOk) h hR
theorem hdS_fin {s : PS} {R : Rep} (h : FinOk s) (hR : 0 ≤ R.e ∧ R.e ≤ 6) : FinOk (hdS s R) := ite_ok (P := FinOk) h hR
theorem opM_fin (he : EndOk ask) (o : O3) (s : PS) (x : σ) (h : FinOk s) : FinOk (opM ask o s x).1 := by
  unfold opM
  have h1 := ckS_fin h (he x 1 0)
  repeat' (refine ite_ok (P := fun q : PS × σ => FinOk q.1) ?_ ?_)
  all_goals first
    | exact h
    | exact ite_ok (P := FinOk) h1 h1
    | exact lotS_fin _ h (he x 4 _)
    | exact ite_ok (P := FinOk) h h
    | exact ⟨by show (0 : Int) ≤ 1; omega, by show (1 : Int) ≤ 6; omega⟩
theorem hM_fin (he : EndOk ask) {f : Nat → O3} {n : Nat} : ∀ (k : Nat) (s : PS) (x : σ), FinOk s → FinOk (hM ask f n k s x).1
  | 0, _, _, h => h
  | k + 1, s, x, h => by
    unfold hM
    refine ite_ok (P := fun q : PS × σ => FinOk q.1) (ite_ok (P := fun q : PS × σ => FinOk q.1) ⟨by show (0 : Int) ≤ 3; omega, by show (3 : Int) ≤ 6; omega⟩ ?_) h
    exact hM_fin he k _ _ (opM_fin he _ _ _ h)
theorem frM_fin (he : EndOk ask) (p : Pg) : ∀ (l : List TM) (s : PS) (x : σ), FinOk s → FinOk (frM (gT ask p) l s x).1
  | [], _, _, h => h
  | t :: r, s, x, h => by
    unfold frM
    refine ite_ok (P := fun q : PS × σ => FinOk q.1) h (ite_ok (P := fun q : PS × σ => FinOk q.1) ?_ (frM_fin he p r s x h))
    exact frM_fin he p r _ _ (hM_fin he _ _ _ h)
theorem pk_fin (he : EndOk ask) (n : Nat) (s : PS) (x : σ) (h : FinOk s) : FinOk (pk ask n s x).2.2.1 := by
  unfold pk
  exact ite_ok (P := fun q : Int × Bool × PS × σ => FinOk q.2.2.1) h (hdS_fin h (he x 3 n))
theorem wk1_fin (he : EndOk ask) (p : Pg) (z : Int) (s : PS) (x : σ) (h : FinOk s) : FinOk (wk1 (gF ask p) z s x).1 := by
  unfold wk1
  exact ite_ok (P := fun q : PS × σ => FinOk q.1) (hM_fin he _ _ _ h) h
theorem wkM_fin (he : EndOk ask) (p : Pg) : ∀ (k : Nat) (l : List Int) (s : PS) (x : σ), FinOk s → FinOk (wkM ask (gF ask p) k l s x).1
  | 0, _, _, _, h => h
  | k + 1, l, s, x, h => by
    have h1 := pk_fin he l.length s x h
    unfold wkM
    refine ite_ok (P := fun q : PS × σ => FinOk q.1) h (ite_ok (P := fun q : PS × σ => FinOk q.1) ?_ h1)
    exact wkM_fin he p k _ _ _ (wk1_fin he p _ _ _ h1)
theorem wakeM_fin (he : EndOk ask) (p : Pg) (s : PS) (x : σ) (h : FinOk s) : FinOk (wakeM ask p s x).1 := by
  unfold wakeM
  exact ite_ok (P := fun q : PS × σ => FinOk q.1) (wkM_fin he p _ _ _ _ h) (he x 2 0)
theorem turnM_fin (he : EndOk ask) (p : Pg) (s : PS) (x : σ) (h : FinOk s) : FinOk (turnM ask p s x).1 := by
  unfold turnM
  have h1 := ckS_fin h (he x 1 0)
  have h2 := frM_fin he p (dueS (ckS s (ask x 1 0).1)) _ (ask x 1 0).2 h1
  exact ite_ok (P := fun q : PS × σ => FinOk q.1) ⟨by show (0 : Int) ≤ 2; omega, by show (2 : Int) ≤ 6; omega⟩ (ite_ok (P := fun q : PS × σ => FinOk q.1) (ite_ok (P := fun q : PS × σ => FinOk q.1) (wakeM_fin he p _ _ h2) h2) h1)
theorem turnsM_fin (he : EndOk ask) (p : Pg) : ∀ (k : Nat) (s : PS) (x : σ), FinOk s → FinOk (turnsM ask p k s x).1
  | 0, _, _, h => h
  | k + 1, s, x, h => by
    unfold turnsM
    exact ite_ok (P := fun q : PS × σ => FinOk q.1) (turnsM_fin he p k _ _ (turnM_fin he p s x h)) h
theorem runM_fin (he : EndOk ask) (p : Pg) (k : Nat) (f : Int) (x : σ) : FinOk (runM ask p k f x).1 := by
  unfold runM
  exact turnsM_fin he p k _ _ (hM_fin he _ _ _ ⟨by show (0 : Int) ≤ 0; omega, by show (0 : Int) ≤ 6; omega⟩)
end
theorem recAsk_end : EndOk recAsk := by
  intro x k o
  unfold recAsk
  split
  · split <;> simp [noRep]
  · split
    · split <;> simp [noRep]
    · split
      · split <;> simp [noRep]
      · split <;> simp [noRep]
end Go.Proofs.YtfmbebofllgmoaaGreatDoor
namespace Go.Proofs.YtfmbebofllgmoaaGreatDoor
open Go.RowKit

/-- An input as it is answered. -/
def inpR (x : Inp) : Rep := ⟨x.1, x.2.1, x.2.2.1, zs x.2.2.2, 0⟩
theorem Fit.files {x : Inp} (h : Fit x) : x.2.2.2.length ≤ 8 ∧ ∀ f, f ∈ x.2.2.2 → f < 8 := by
  have nil : x.2.2.2 = [] → x.2.2.2.length ≤ 8 ∧ ∀ f, f ∈ x.2.2.2 → f < 8 := fun e => by rw [e]; exact ⟨by simp, fun _ h => absurd h (by simp)⟩
  rcases h with h | h | h | h | h
  · exact nil h.2.2.2
  · obtain ⟨g1, g2⟩ := risL_len x.2.2.2 (-1) (by omega) (by omega) h.2.2.2
    exact ⟨by omega, g2⟩
  · exact nil h.2.2.2.2
  · exact nil h.2.2.2.2
  · exact nil h.2.2.2.2
/-- A source, what was heard of it, and whether it has ended the run. -/
structure GS (σ : Type) where
  x : σ
  l : List Inp
  z : Bool
/-- An answer as an input. -/
def inpOf (R : Rep) : Inp := (R.kind.toNat, R.of.toNat, R.n.toNat, R.files.map Int.toNat)
def gAsk {σ : Type} (ask : σ → Int → Int → Rep × σ) (y : GS σ) (k o : Int) : Rep × GS σ :=
  if y.z then (noRep, y) else if (ask y.x k o).1.e = 0 then ((ask y.x k o).1, ⟨(ask y.x k o).2, y.l ++ [inpOf (ask y.x k o).1], false⟩) else ((ask y.x k o).1, ⟨(ask y.x k o).2, y.l, true⟩)
section
variable {σ : Type} {ask : σ → Int → Int → Rep × σ} {may : Int → Int → Prop}
theorem gAsk_zero {y : GS σ} {k o : Int} (hz : y.z = false) (h : (ask y.x k o).1.e = 0) : gAsk ask y k o = ((ask y.x k o).1, ⟨(ask y.x k o).2, y.l ++ [inpOf (ask y.x k o).1], false⟩) := by
  unfold gAsk; rw [hz, if_neg (by simp), if_pos h]
theorem gAsk_end {y : GS σ} {k o : Int} (hz : y.z = false) (h : (ask y.x k o).1.e ≠ 0) : gAsk ask y k o = ((ask y.x k o).1, ⟨(ask y.x k o).2, y.l, true⟩) := by
  unfold gAsk; rw [hz, if_neg (by simp), if_neg h]
theorem gAsk_most (h : Most ask) : Most (gAsk ask) := by
  intro y
  unfold gAsk
  split
  · simp [noRep]
  · split
    · exact h y.x
    · exact h y.x
theorem ghost_run (hm : MayOk may) (hM8 : Most ask) {p : Pg} (hp : PgOk p) {I : Int → GS σ → Prop} {E : Int → Prop} {x : σ} (h0 : I 0 ⟨x, [], false⟩)
    (hs : ∀ h y k o, may k o → y.z = false → I h y → (ask y.x k o).1.e = 0 → I (wrap64 (h + 1)) ⟨(ask y.x k o).2, y.l ++ [inpOf (ask y.x k o).1], false⟩)
    (he : ∀ h y k o, may k o → y.z = false → I h y → (ask y.x k o).1.e ≠ 0 → I h ⟨(ask y.x k o).2, y.l, true⟩ ∧ E (ask y.x k o).1.e) (k : Nat) (f : Int) :
    ∃ y, runM (gAsk ask) p k f ⟨x, [], false⟩ = ((runM ask p k f x).1, y) ∧ y.x = (runM ask p k f x).2 ∧ I (runM ask p k f x).1.heard y ∧ (y.z = true → E (runM ask p k f x).1.fin) := by
  have A : Alike ask (gAsk ask) may (fun _ => True) (fun h x y => y.x = x ∧ y.z = false ∧ I h y) (fun e h x y => y.x = x ∧ I h y ∧ E e) (fun _ _ => False) := by
    refine ⟨fun _ _ _ _ => trivial, ?_, fun _ _ _ h => h.elim⟩
    rintro h x y k o hmay ⟨rfl, hz, hi⟩ _
    refine .inl ?_
    by_cases e : (ask y.x k o).1.e = 0
    · rw [gAsk_zero hz e]
      exact ⟨rfl, fun _ => ⟨rfl, rfl, hs h y k o hmay hz hi e⟩, fun h' => absurd e h'⟩
    · rw [gAsk_end hz e]
      exact ⟨rfl, fun h' => absurd h' e, fun _ => ⟨rfl, (he h y k o hmay hz hi e).1, (he h y k o hmay hz hi e).2⟩⟩
  rcases runM_sim A hm hM8 hp k f (x := x) (y := ⟨x, [], false⟩) ⟨rfl, rfl, h0⟩ trivial with ⟨e, hq⟩ | ⟨_, hf⟩
  · refine ⟨(runM (gAsk ask) p k f ⟨x, [], false⟩).2, by rw [e], ?_⟩
    rcases hq with ⟨h1, h2, h3⟩ | ⟨_, h1, h2, h3⟩
    · exact ⟨h1, h3, fun h => by rw [h2] at h; cases h⟩
    · exact ⟨h1, h2, fun _ => h3⟩
  · exact hf.elim

end

/-! ### The recorder's answers -/
theorem zs_toNat : ∀ (l : List Int), (∀ z, z ∈ l → 0 ≤ z) → zs (l.map Int.toNat) = l
  | [], _ => rfl
  | a :: t, h => by
    have h1 := h a (List.mem_cons_self ..)
    have e : zs ((a :: t).map Int.toNat) = (a.toNat : Int) :: zs (t.map Int.toNat) := rfl
    rw [e, zs_toNat t (fun z hz => h z (List.mem_cons_of_mem _ hz)), Int.toNat_of_nonneg h1]
theorem risL_of : ∀ (l : List Int) (last : Int), (∀ z, z ∈ l → last < z ∧ z < 8) → l.Pairwise (· < ·) → risL last l = true
  | [], _, _, _ => rfl
  | a :: t, last, h, hp => by
    have h1 := h a (List.mem_cons_self ..)
    simp only [risL]
    rw [if_neg (by omega)]
    obtain ⟨p1, p2⟩ := List.pairwise_cons.1 hp
    exact risL_of t a (fun z hz => ⟨p1 z hz, (h z (List.mem_cons_of_mem _ hz)).2⟩) p2
theorem filesL_ris (l : List Int) : risL (-1) (filesL l) = true := by
  refine risL_of _ _ (fun z hz => by have := filesL_mem l z hz; omega) ?_
  unfold filesL filesK
  refine List.pairwise_map.2 ?_
  refine List.Pairwise.imp ?_ (List.Pairwise.filter _ List.pairwise_lt_range)
  intro a b h
  omega
theorem bs_one (k : Nat) (h : k < 256) : bs (one k) = [k] := by
  unfold one; rw [bs_push, bs_empty, List.nil_append, UInt8.toNat_ofNat']; congr 1; omega
theorem bs_filesS : ∀ (l : List Int) (r : ByteArray), bs (filesS l r) = bs r ++ vbs (l.map Int.toNat)
  | [], r => by simp [filesS, vbs]
  | a :: t, r => by
    have e : filesS (a :: t) r = filesS t (r ++ varS a.toNat) := rfl
    rw [e, bs_filesS t, bs_append, List.append_assoc]
    rfl
theorem bs_batch (l : List Int) (o n : Nat) : bs (batchS l) = bodyL (2, o, n, l.map Int.toNat) := by
  have e : bodyL (2, o, n, l.map Int.toNat) = 2 :: vbs ((l.map Int.toNat).length :: l.map Int.toNat) := rfl
  rw [e]
  unfold batchS
  rw [bs_filesS, bs_append, bs_one 2 (by omega), vbs_cons, List.length_map]
  simp [vb]
theorem bs_body1 (k o n : Nat) (fs : List Nat) (h : k = 1 ∨ k = 5) : bs (bodyS k 0 n) = bodyL (k, o, n, fs) := by
  have e : bodyL (k, o, n, fs) = k :: (vb n ++ []) := by rcases h with rfl | rfl <;> rfl
  rw [e]
  unfold bodyS
  rw [if_neg (by omega), bs_append, bs_one k (by omega), List.append_nil]
  rfl
theorem bs_body2 (k o n : Nat) (fs : List Nat) (h : k = 3 ∨ k = 4) : bs (bodyS k o n) = bodyL (k, o, n, fs) := by
  have e : bodyL (k, o, n, fs) = k :: (vb o ++ (vb n ++ [])) := by rcases h with rfl | rfl <;> rfl
  rw [e]
  unfold bodyS
  rw [if_pos h, bs_append, bs_append, bs_one k (by omega), List.append_nil, List.append_assoc]
  rfl
theorem bs_frame {b : ByteArray} {x : Inp} (hf : Fit x) (h : bs b = bodyL x) : bs (frameS b) = frL x := by
  have hl := bodyL_len hf
  have hs : b.size = (bodyL x).length := by rw [← bs_len, h]
  unfold frameS frL
  rw [bs_append, bs_append, ← sm_bs, h, hs]
  have : bs (varS (bodyL x).length) = [(bodyL x).length] := vb_small _ (by omega)
  rw [this]; simp
/-- The recorder's answer is an input of the kind that was asked for; it is written down. -/
theorem rec_ans {x : RS} {k o : Int} (hm : mayR k o) (h : (recAsk x k o).1.e = 0) : (recAsk x k o).1.kind = k ∧ (recAsk x k o).1.of = o ∧ Fit (inpOf (recAsk x k o).1) ∧ (inpOf (recAsk x k o).1).1 ≠ 5 ∧ inpR (inpOf (recAsk x k o).1) = (recAsk x k o).1 ∧
    bs (recAsk x k o).2.log = bs x.log ++ frL (inpOf (recAsk x k o).1) ∧ (recAsk x k o).2.left + 1 = x.left := by
  rcases hm with ⟨rfl, rfl⟩ | ⟨rfl, rfl⟩ | ⟨rfl, h2, h8⟩ | ⟨rfl, h1, hM⟩
  · simp only [recAsk, if_true] at h ⊢
    split at h
    · simp [noRep] at h
    · rename_i n r hx
      have hc : 0 ≤ clampC n ∧ clampC n ≤ 1099511627776 := by unfold clampC; omega
      have hf : Fit (1, 0, (clampC n).toNat, []) := .inl ⟨rfl, rfl, by show (clampC n).toNat ≤ _; omega, rfl⟩
      have ei : inpOf ⟨1, 0, clampC n, [], 0⟩ = (1, 0, (clampC n).toNat, []) := rfl
      rw [ei]
      refine ⟨rfl, rfl, hf, by show (1 : Nat) ≠ 5; omega, ?_, ?_, ?_⟩
      · have : ((clampC n).toNat : Int) = clampC n := by omega
        simp [inpR, zs, this]
      · show bs (x.log ++ frameS (bodyS 1 0 (clampC n).toNat)) = _
        rw [bs_append, bs_frame hf (bs_body1 1 0 _ [] (.inl rfl))]
      · simp only [RS.left, hx, List.length_cons]; omega
  · have e1 : ¬ (2 : Int) = 1 := by omega
    simp only [recAsk, e1, if_false, if_true] at h ⊢
    split at h
    · simp [noRep] at h
    · rename_i b r hx
      have hz : ∀ z, z ∈ filesL b.2 → 0 ≤ z := fun z hz => (filesL_mem b.2 z hz).1
      have hf : Fit (2, 0, 0, (filesL b.2).map Int.toNat) := .inr (.inl ⟨rfl, rfl, rfl, by show risL (-1) (zs ((filesL b.2).map Int.toNat)) = true; rw [zs_toNat _ hz]; exact filesL_ris _⟩)
      have ei : inpOf ⟨2, 0, 0, filesL b.2, 0⟩ = (2, 0, 0, (filesL b.2).map Int.toNat) := rfl
      rw [ei]
      refine ⟨rfl, rfl, hf, by show (2 : Nat) ≠ 5; omega, ?_, ?_, ?_⟩
      · show (⟨2, 0, 0, zs ((filesL b.2).map Int.toNat), 0⟩ : Rep) = _
        rw [zs_toNat _ hz]
      · show bs (x.log ++ frameS (batchS (filesL b.2))) = _
        rw [bs_append, bs_frame hf (bs_batch _ 0 0)]
      · simp only [RS.left, hx, List.length_cons]; omega
  · have e1 : ¬ (3 : Int) = 1 := by omega
    have e2 : ¬ (3 : Int) = 2 := by omega
    simp only [recAsk, e1, e2, if_false, if_true] at h ⊢
    split at h
    · simp [noRep] at h
    · rename_i n r hx
      have b1 : 0 ≤ n % o := Int.emod_nonneg _ (by omega)
      have b2 : n % o < o := Int.emod_lt_of_pos _ (by omega)
      have hf : Fit (3, o.toNat, (n % o).toNat, []) := .inr (.inr (.inl ⟨rfl, by show 2 ≤ o.toNat; omega, by show o.toNat ≤ 8; omega, by show (n % o).toNat < o.toNat; omega, rfl⟩))
      have ei : inpOf ⟨3, o, n % o, [], 0⟩ = (3, o.toNat, (n % o).toNat, []) := rfl
      rw [ei]
      refine ⟨rfl, rfl, hf, by show (3 : Nat) ≠ 5; omega, ?_, ?_, ?_⟩
      · have q1 : ((n % o).toNat : Int) = n % o := by omega
        have q2 : (o.toNat : Int) = o := by omega
        simp [inpR, zs, q1, q2]
      · show bs (x.log ++ frameS (bodyS 3 o.toNat (n % o).toNat)) = _
        rw [bs_append, bs_frame hf (bs_body2 3 _ _ [] (.inl rfl))]
      · simp only [RS.left, hx, List.length_cons]; omega
  · have e1 : ¬ (4 : Int) = 1 := by omega
    have e2 : ¬ (4 : Int) = 2 := by omega
    have e3 : ¬ (4 : Int) = 3 := by omega
    simp only [recAsk, e1, e2, e3, if_false] at h ⊢
    split at h
    · simp [noRep] at h
    · rename_i n r hx
      have b1 : 0 ≤ n % o := Int.emod_nonneg _ (by omega)
      have b2 : n % o < o := Int.emod_lt_of_pos _ (by omega)
      have hf : Fit (4, o.toNat, (n % o).toNat, []) := .inr (.inr (.inr (.inl ⟨rfl, by show 1 ≤ o.toNat; omega, by show o.toNat ≤ 1000000; omega, by show (n % o).toNat < o.toNat; omega, rfl⟩)))
      have ei : inpOf ⟨4, o, n % o, [], 0⟩ = (4, o.toNat, (n % o).toNat, []) := rfl
      rw [ei]
      refine ⟨rfl, rfl, hf, by show (4 : Nat) ≠ 5; omega, ?_, ?_, ?_⟩
      · have q1 : ((n % o).toNat : Int) = n % o := by omega
        have q2 : (o.toNat : Int) = o := by omega
        simp [inpR, zs, q1, q2]
      · show bs (x.log ++ frameS (bodyS 4 o.toNat (n % o).toNat)) = _
        rw [bs_append, bs_frame hf (bs_body2 4 _ _ [] (.inr rfl))]
      · simp only [RS.left, hx, List.length_cons]; omega
theorem rec_none (x : RS) (k o : Int) (h : (recAsk x k o).1.e ≠ 0) : recAsk x k o = (noRep, x) := by
  unfold recAsk at h ⊢
  split
  · rename_i hk
    rw [if_pos hk] at h
    split
    · rfl
    · rename_i hx; rw [hx] at h; exact absurd rfl h
  · rename_i hk
    rw [if_neg hk] at h
    split
    · rename_i hk2
      rw [if_pos hk2] at h
      split
      · rfl
      · rename_i hx; rw [hx] at h; exact absurd rfl h
    · rename_i hk2
      rw [if_neg hk2] at h
      split
      · rename_i hk3
        rw [if_pos hk3] at h
        split
        · rfl
        · rename_i hx; rw [hx] at h; exact absurd rfl h
      · rename_i hk3
        rw [if_neg hk3] at h
        split
        · rfl
        · rename_i hx; rw [hx] at h; exact absurd rfl h
end Go.Proofs.YtfmbebofllgmoaaGreatDoor
namespace Go.Proofs.YtfmbebofllgmoaaGreatDoor
open Go.RowKit
attribute [local go_sem ↓] Go.wp_at_zero Go.wp_at_succ

theorem ownsRow_low {w : World} {B B' e size n : Nat} {v : Value} {xs : List Value} (h : w.ownsRow B e size v n xs) (hB : B' ≤ B) : w.ownsRow B' e size v n xs :=
  ⟨h.1, h.2.imp id fun ⟨g, cap, cur, e1, e2, r⟩ => ⟨g, cap, cur, e1, by omega, r⟩⟩
end Go.Proofs.YtfmbebofllgmoaaGreatDoor
namespace Go.Proofs.YtfmbebofllgmoaaGreatDoor
open Go.RowKit

/-- The cells of inputs, each with the value of its files. -/
def flatP : List (Inp × Value) → List Value
  | [] => []
  | p :: r => .int .i64 p.1.1 :: .int .i64 p.1.2.1 :: .int .i64 p.1.2.2.1 :: p.2 :: flatP r
theorem flatP_append (a b : List (Inp × Value)) : flatP (a ++ b) = flatP a ++ flatP b := by
  induction a with
  | nil => rfl
  | cons x r ih => simp [flatP, ih]

end Go.Proofs.YtfmbebofllgmoaaGreatDoor
namespace Go.Proofs.YtfmbebofllgmoaaGreatDoor
open Go.RowKit
attribute [local go_sem ↓] Go.wp_at_zero Go.wp_at_succ

theorem cellOf_heap {W W' : World} {g j : Nat} (h : W'.heap[g]? = W.heap[g]?) : W'.cell? ⟨g, j, none⟩ = W.cell? ⟨g, j, none⟩ := by simp only [World.cell?, h]
theorem setCell_row (W : World) (b j : Nat) (cur : Array Value) (e : Nat) (v : Value) (h : W.heap[b]? = some (.cells cur e (0, 0))) : (W.setCell ⟨b, j, none⟩ v).heap[b]? = some (.cells (cur.setIfInBounds j v) e (0, 0)) := by
  have h0 := setRow_heap W b _ (cur.setIfInBounds j v) e (0, 0) h
  rwa [← setCell_eq_setRow W b j _ e (0, 0) v h] at h0
end Go.Proofs.YtfmbebofllgmoaaGreatDoor
namespace Go.Proofs.YtfmbebofllgmoaaGreatDoor
open Go.RowKit
attribute [local go_sem ↓] Go.wp_at_zero Go.wp_at_succ

theorem elemIn : Elem 44 49 4 48 := elem_of _ _ _ _ (.agg #[.int .i64 0, .int .i64 0, .int .i64 0, .slice none 0 0]) Tryz.underlying44 (by kernel_rfl) rfl

end Go.Proofs.YtfmbebofllgmoaaGreatDoor
namespace Go.Proofs.YtfmbebofllgmoaaGreatDoor
open Go.RowKit
attribute [local go_sem ↓] Go.wp_at_zero Go.wp_at_succ

/-! ### What it is -/
/-! ### It is right -/
theorem ans_of_ok {p : Pg} (o : PgOk p) : Ans p.tn p.fn (1 + p.tn + p.fn) (allL p.sn p.tn p.tl p.fl) (allF p.tn p.sf p.tf p.ff) 0 := by
  refine .inr (.inr (.inr (.inr ⟨o.tn, o.fn, fun i hi => ?_, fun i k hi hk => ?_, rfl⟩)))
  · unfold allL cat
    by_cases h1 : i < 1 + p.tn
    · rw [if_pos h1]
      by_cases h2 : i < 1
      · rw [if_pos h2, if_neg (by omega)]; exact o.sl
      · rw [if_neg h2]; exact o.tl _ (by omega)
    · rw [if_neg h1]; exact o.fl _ (by omega)
  · unfold allL cat at hk
    unfold allF cat
    by_cases h1 : i < 1 + p.tn
    · rw [if_pos h1] at hk ⊢
      by_cases h2 : i < 1
      · rw [if_pos h2, if_neg (by omega)] at hk ⊢; exact o.sr k hk
      · rw [if_neg h2] at hk ⊢; exact o.tr _ (by omega) k hk
    · rw [if_neg h1] at hk ⊢; exact o.fr _ (by omega) k hk
/-! ### How it lies -/
theorem row_ops' {w : World} {B e : Nat} {v : Value} {l : List O3} (h : w.ownsRow B e 3 v l.length (flatE l)) (hl : l.length * 24 ≤ 140737488351232) : OpsIn w v l.length (fun i => l.getD i (0, 0, 0)) := by
  rcases h.2 with ⟨hv, h0⟩ | ⟨g, cap, cur, hv, hB, hg, h1, h2, h3, h4⟩
  · rw [h0]; exact ⟨none, 0, by rw [hv], by omega, .inl rfl⟩
  · refine ⟨some ⟨g, 0, none⟩, cap, hv, hl, .inr ⟨g, 0, rfl, fun i hi => ?_⟩⟩
    have fl : ∀ (l : List O3) (i : Nat), i < l.length → (flatE l)[i * 3]? = some (.int .i64 (l.getD i (0, 0, 0)).1) ∧ (flatE l)[i * 3 + 1]? = some (.int .i64 (l.getD i (0, 0, 0)).2.1) ∧ (flatE l)[i * 3 + 2]? = some (.int .i64 (l.getD i (0, 0, 0)).2.2) := by
      intro l
      induction l with
      | nil => intro i hi; simp at hi
      | cons x r ih =>
        intro i hi
        cases i with
        | zero => exact ⟨rfl, rfl, rfl⟩
        | succ i =>
          have := ih i (by simp at hi; omega)
          rw [show (i + 1) * 3 = i * 3 + 3 by omega, show i * 3 + 3 + 1 = (i * 3 + 1) + 3 by omega, show i * 3 + 3 + 2 = (i * 3 + 2) + 3 by omega]
          exact this
    have get : ∀ j u, j < l.length * 3 → (flatE l)[j]? = some u → w.cell? ⟨g, j, none⟩ = some u := by
      intro j u hj hu
      rw [cell_of_row w g j cur e (0, 0) hg]
      rw [← h4, List.getElem?_take, if_pos hj, Array.getElem?_toList] at hu
      exact hu
    obtain ⟨f0, f1, f2⟩ := fl l i hi
    refine ⟨?_, ?_, ?_⟩
    · rw [Nat.zero_add]; exact get _ _ (by omega) f0
    · rw [Nat.zero_add]; exact get _ _ (by omega) f1
    · rw [Nat.zero_add]; exact get _ _ (by omega) f2
abbrev Hr := Value × List O3
/-- The program as it grows. -/
structure P1 (w : World) (B sb pb : Nat) (wr : World) (vt vf : Value) (tv fv : List Hr) : Prop where
  fr : Fr (fun _ => False) w wr (fun _ => False)
  pb_ : wr.heap[pb]? = some (.cells #[.slice (some ⟨sb, 0, none⟩) 4 4, vt, vf] 33)
  pbB : w.heap.size ≤ pb
  st : wr.heap[sb]? = some (.cells #[.int .i64 1, .int .i64 0, .int .i64 3, .int .i64 3, .int .i64 0, .int .i64 0, .int .i64 5, .int .i64 1, .int .i64 0, .int .i64 5, .int .i64 2, .int .i64 0] 70)
  sbB : w.heap.size ≤ sb ∧ sb < B
  tm : wr.ownsRow w.heap.size 31 1 vt tv.length (tv.map (·.1))
  fm : wr.ownsRow w.heap.size 31 1 vf fv.length (fv.map (·.1))
  th : ∀ p, p ∈ tv → wr.ownsRow B 70 3 p.1 p.2.length (flatE p.2)
  fh : ∀ p, p ∈ fv → wr.ownsRow B 70 3 p.1 p.2.length (flatE p.2)
  sep : ∀ q, own vt q → ¬ own vf q
end Go.Proofs.YtfmbebofllgmoaaGreatDoor
namespace Go.Proofs.YtfmbebofllgmoaaGreatDoor
open Go.RowKit
attribute [local go_sem ↓] Go.wp_at_zero Go.wp_at_succ

theorem rowLow {w : World} {B B' e size n : Nat} {v : Value} {xs : List Value} (h : w.ownsRow B e size v n xs) (hB : B' ≤ B) : w.ownsRow B' e size v n xs :=
  ⟨h.1, h.2.imp id fun ⟨g, cap, cur, e1, e2, r⟩ => ⟨g, cap, cur, e1, by omega, r⟩⟩
/-! ### What comes out -/
end Go.Proofs.YtfmbebofllgmoaaGreatDoor
