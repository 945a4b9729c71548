/-
  PROVED HERE: the document's handler runs a handler as the model (hM) says, over a source that keeps its word. the document's timers go off as the model (frM) says. the document's idle. the document's hear over a world answers as the recorder's model (recAsk) says. the document's world is a source that keeps its word: it answers as the recorder's does. the document's writer: the log of what was heard.
-/
import Derived.Test.YtfmbebofllgmoaaGreatDoorProg
import Derived.WalkKit
import Derived.WalkSpells
import Derived.WalkLawsBesides
import Derived.Deep.QuietTactic
import Derived.BigQuiet
import Derived.Deep.RegionHeld3
import Derived.Deep.AppendLies
import Derived.Laws.EntriesVeiled
import Derived.Deep.DrawnRows
import Derived.BigRegion
import Derived.Deep.LoopGhost
import Derived.Deep.MidRow
import Derived.Shelf.SlSortCmp.SmallK
import Derived.Shelf.SlicesG.Cmp
import Derived.Shelf.Small.Bits
import Derived.Deep.RegionLaw
import Derived.Lib.SliceRun
import Derived.Laws.StructEq
import Derived.Laws.BytesString
import Derived.ArgAppend
import Derived.Deep.DeepCutAuto
import Derived.Conc.LoneCalls
import Derived.Calls
import Derived.Tactics
import Derived.KernelRfl
import Derived.Laws.Rows
import Derived.Lib.SlBytesConst
import Derived.Laws.BitsAllLaws
import Derived.RangeFuncOwn
import Derived.Laws.IdiomStrings
import Derived.RangeFuncNested
import Derived.RangeFuncBound
import Derived.RangeFuncCalls
import Derived.RangeFuncLeaves
import Derived.Shelf.RegionOpen
import Derived.OwnWalkIn
import Derived.TacticsInMore
import Derived.Maps.OwnIn
import Derived.Maps.AppendAt
import Derived.LoopNIn
import Derived.LoopIn
import Derived.ChangeKeysEq
import Derived.Deep.DeepAppendRoom
import Derived.Test.YtfmbebofllgmoaaGreatDoorSreplaysbe
namespace Go.Proofs.YtfmbebofllgmoaaGreatDoor
open Go.RowKit
attribute [local go_sem ↓] Go.wp_at_zero Go.wp_at_succ

section
variable {σ : Type} {SQ : (Nat → Value) → (Nat → Prop) → World → σ → Prop} {ask : σ → Int → Int → Rep × σ} {may : Int → Int → Prop} {B : Nat} {S T : Nat → Prop} {w : World} {b : Nat} {pv : Nat → Value} {vt va : Value} {s : PS} {A : List AT} {tn sq : Int} {x : σ}

/-- How far a handler has come. -/
def QRel (SQ : (Nat → Value) → (Nat → Prop) → World → σ → Prop) (ask : σ → Int → Int → Rep × σ) (B : Nat) (S : Nat → Prop) (w : World) (b : Nat) (pv : Nat → Value) (tn sq : Int) (f : Nat → O3) (n N : Nat) (fin : PS × σ) (k : Nat) (u : Value) (wr : World) : Prop :=
  ∃ S' pv' vt' va' T' A' s' x', LQ SQ B S' wr b pv' vt' va' T' s' A' tn sq x' ∧ (∀ i, i < 3 → pv' i = pv i) ∧ Fr S w wr S' ∧ hM ask f n k s' x' = fin ∧ QInv N s' ∧ 0 ≤ s'.next ∧ s'.next ≤ 40 ∧ n ≤ s'.next.toNat + k ∧ u = .int .i64 s'.next
theorem qrel_next {w2 : World} {S2 T2 : Nat → Prop} {pv2 : Nat → Value} {vt2 va2 : Value} {A2 : List AT} {s2 : PS} {x2 : σ} {f : Nat → O3} {n N k' : Nat} {fin : PS × σ} {nx : Int} {u : Value} (p1 : LQ SQ B S2 w2 b pv2 vt2 va2 T2 s2 A2 tn sq x2) (p0 : ∀ i, i < 3 → pv2 i = pv i) (p2 : Fr S w w2 S2) (e : fin = hM ask f n k' s2 x2) (q : QInv N s2)
    (hu : u = .int .i64 s2.next) (hx : s2.next = nx + 1 ∨ s2.next = nx + 1 + 1) (h0 : 0 ≤ nx) (h1 : nx < n) (hn : n ≤ 32) (h7 : n ≤ nx.toNat + (k' + 1)) : QRel SQ ask B S w b pv tn sq f n N fin k' u w2 :=
  ⟨S2, pv2, vt2, va2, T2, A2, s2, x2, p1, p0, p2, e.symm, q, by omega, by omega, by omega, hu⟩

set_option maxHeartbeats 8000000 in
set_option maxRecDepth 20000 in
theorem handlerQ_any (L : SQLaw SQ B) (K : HearQ SQ ask may B) (hm : may 1 0) (hm4 : ∀ v, 1 ≤ v → v ≤ 1000000 → may 4 v) (hk : ClockOk ask)
    {w0 : World} (hB : B = w0.heap.size) (hbel : Below w0.heap.size w0 w) (h : LQ SQ B S w b pv vt va T s A tn sq x) {v : Value} {n N nt nf : Nat} {f : Nat → O3} (hv : OpsIn w0 v n f) (hn : n ≤ 32) (hnt : nt ≤ 8) (hnf : nf ≤ 8) (hr : ∀ i, i < n → rt (f i) nt nf = true) (hq : QInv N s) (hN : N ≤ 100000000) :
    Calls Tryz.prog 125 #[.pointer (some ⟨b, 0, none⟩), v] w fun e w' => e = .returned (.tuple #[]) ∧ LPost SQ B S w b pv tn sq (hM ask f n n { s with next := 0 } x).1 (hM ask f n n { s with next := 0 } x).2 w' := by
  obtain ⟨va0, vc0, rfl, vl, hf⟩ := hv
  have h0 : LQ SQ B S w b pv vt va T { s with next := 0 } A tn sq x := ⟨h.bound, h.cells, h.row, h.arow, h.rel.of rfl rfl, h.src, h.hc, h.inB, h.inV, h.inA, h.inT⟩
  have r0 : QRel SQ ask B S w b pv tn sq f n N (hM ask f n n { s with next := 0 } x) n (.int .i64 0) w :=
    ⟨S, pv, vt, va, T, A, _, x, h0, fun _ _ => rfl, Fr.refl S w, rfl, ⟨hq.fuel, hq.clock, hq.armings, hq.trace⟩, Int.le_refl 0, by show (0 : Int) ≤ 40; omega, by simp, rfl⟩
  have hSB : ∀ k, S k → B ≤ k := fun k hk => (h.bound k hk).1
  have hBw : B ≤ w.heap.size := h.below
  generalize hM ask f n n { s with next := 0 } x = fin at *
  have HF := hide hf
  have HR := hide hr
  have R0 := hide r0
  have HSB := hide hSB
  have HBW := hide hBw
  have HBEL := hide hbel
  have HBE := hide hB
  clear h h0 hf hr r0 hq hSB hBw hbel hB
  go_enter Tryz.func125, Tryz.ntmps125
  go_wp2
  go_loopg [4] n (fun k u wr => QRel SQ ask B S w b pv tn sq f n N fin k u wr)
  case atStart => exact unhide R0
  case round =>
    obtain ⟨S', pv', vt', va', T', A', s', x', q1, q0, q2, q3, q4, q5, q6, q7, rfl⟩ := hrel
    have c27 := (q1.cell 27 (by omega)).trans (by rw [limg_fin])
    have c25 := (q1.cell 25 (by omega)).trans (by rw [limg_fuel])
    have f25 := q1.free 25 (by omega)
    have f27 := q1.free 27 (by omega)
    have hbr := q1.blt
    have hSb : S b ∨ w.heap.size ≤ b := by
      by_cases hs : S b
      · exact .inl hs
      · exact .inr (Nat.le_of_not_lt fun hl => hs (q2.old b hl q1.inB))
    have HSb := hide hSb
    by_cases hlt : s'.next < n
    · by_cases hfi : s'.fin = 0
      · obtain ⟨k', rfl⟩ : ∃ k', gk = k' + 1 := ⟨gk - 1, by omega⟩
        have hu : hM ask f n (k' + 1) s' x' = if s'.fuel = 0 then ({ s' with fin := 3 }, x') else hM ask f n k' (opM ask (f s'.next.toNat) { s' with fuel := s'.fuel - 1, next := s'.next + 1 } x').1 (opM ask (f s'.next.toNat) { s' with fuel := s'.fuel - 1, next := s'.next + 1 } x').2 := by
          simp only [hM]; rw [if_pos ⟨hlt, hfi⟩]
        have hfb : (s'.fin == 0) = true := by simpa using hfi
        by_cases hfu : s'.fuel = 0
        · rw [if_pos hfu] at hu
          have q := q1.set L 27 (.int .i64 3) { s' with fin := 3 } (by omega) (lset_fin 3) rfl (q1.rel.of rfl rfl) rfl
          have hub : (s'.fuel == 0) = true := by simpa using hfu
          have Q1 := hide q
          have Q2 := hide (q2.setCell ⟨b, 27, none⟩ (.int .i64 3) hSb)
          have E := hide (q3.symm.trans hu)
          have Q0 := hide q0
          have e1 : (0 : Int) ≤ s'.next := q5
          have e2 : s'.next < (n : Int) := hlt
          clear q q1 q2 q3 q4 hu hfi hfu q0 hSb
          generalize s'.next = nx at *
          generalize s'.fin = fi at *
          generalize s'.fuel = fu at *
          go_wp2
          refine bodyPost_ret (v := .tuple #[]) (by simp [results, Tryz.results125, go_sem]) rfl ?_
          rw [unhide E]
          exact ⟨rfl, S', pv', vt', va', T', A', unhide Q1, unhide Q0, unhide Q2⟩
        · rw [if_neg hfu] at hu
          have hub : (s'.fuel == 0) = false := by simpa using hfu
          rcases unhide HF with hz | ⟨ob, off, rfl, hf⟩
          · omega
          have hi : s'.next.toNat < n := by omega
          have hbw : Below w0.heap.size w0 wr := (unhide HBEL).trans (unhide HBE ▸ q2.below (unhide HSB) (unhide HBW))
          have hop := opAt_below hbw (hf _ hi)
          have hob : ob < w0.heap.size := opAt_lt (hf _ hi)
          have hBb : B ≤ b := (q1.bound b q1.inB).1
          have hne : ¬ b = ob := by have := unhide HBE; omega
          have hne' : ¬ ob = b := by omega
          have hobw : ob < wr.heap.size := opAt_lt hop
          have hrt := unhide HR _ hi
          have e1 : (0 : Int) ≤ s'.next := q5
          have e2 : s'.next < (n : Int) := hlt
          generalize hgo : f s'.next.toNat = o at *
          obtain ⟨c, a, v⟩ := o
          obtain ⟨g0, g1, g2⟩ := hop
          have hc := right_code (show rightB c a v nt nf = true from hrt)
          have qf := q4.fuel
          have h1 := ((q1.set L 25 (.int .i64 (s'.fuel - 1)) { s' with fuel := s'.fuel - 1 } (by omega) (lset_fuel (s'.fuel - 1)) rfl (q1.rel.of rfl rfl) rfl).alloc L (.cells #[.int .i64 c, .int .i64 a, .int .i64 v] 70))
          have h1a := q1.set L 25 (.int .i64 (s'.fuel - 1)) { s' with fuel := s'.fuel - 1, next := s'.next + 1 } (by omega) (lset_fuel (s'.fuel - 1)) rfl (q1.rel.of rfl rfl) rfl
          have H1A := hide h1a
          have Q2A := hide (q2.setCell ⟨b, 25, none⟩ (.int .i64 (s'.fuel - 1)) hSb)
          have hpb : ((wr.setCell ⟨b, 25, none⟩ (.int .i64 (s'.fuel - 1))).alloc (.cells #[.int .i64 c, .int .i64 a, .int .i64 v] 70)).heap[wr.heap.size]? = some (.cells #[.int .i64 c, .int .i64 a, .int .i64 v] 70) := by
            have h := heap_alloc_new (wr.setCell ⟨b, 25, none⟩ (.int .i64 (s'.fuel - 1))) (.cells #[.int .i64 c, .int .i64 a, .int .i64 v] 70)
            rwa [show (wr.setCell ⟨b, 25, none⟩ (.int .i64 (s'.fuel - 1))).heap.size = wr.heap.size by simp [World.setCell]] at h
          have h2 : LQ SQ B S' ((wr.setCell ⟨b, 25, none⟩ (.int .i64 (s'.fuel - 1))).alloc (.cells #[.int .i64 c, .int .i64 a, .int .i64 v] 70)) b pv' vt' va' T' { s' with fuel := s'.fuel - 1, next := s'.next + 1 } A' tn sq x' := ⟨h1.bound, h1.cells, h1.row, h1.arow, h1.rel.of rfl rfl, h1.src, h1.hc, h1.inB, h1.inV, h1.inA, h1.inT⟩
          have hnx := opM_next (ask := ask) (c, a, v) { s' with fuel := s'.fuel - 1, next := s'.next + 1 } x'
          have hnv := opM_inv hk (c, a, v) { s' with fuel := s'.fuel - 1, next := s'.next + 1 } x' (N := N) ⟨⟨by show 0 ≤ s'.fuel - 1; omega, by show s'.fuel - 1 ≤ 5000; omega⟩, q4.clock, ⟨q4.armings.1, by have := q4.armings.2; show s'.armings + (s'.fuel - 1) ≤ 5000; omega⟩, by have := q4.trace; show s'.trace.length + (s'.fuel - 1).toNat ≤ N; omega⟩ (by have := q4.armings.2; show s'.armings + (s'.fuel - 1) + 1 ≤ 5000; omega) (by have := q4.trace; show s'.trace.length + (s'.fuel - 1).toNat + 1 ≤ N; omega)
          have Q2 := hide (((q2.setCell ⟨b, 25, none⟩ (.int .i64 (s'.fuel - 1)) hSb).alloc (.cells #[.int .i64 c, .int .i64 a, .int .i64 v] 70)))
          have hnP : wr.heap.size ≠ b := by omega
          have hnP' : ¬ b = wr.heap.size := by omega
          have hpl := (Array.getElem?_eq_some_iff.1 hpb).1
          have hPS : ¬ S' wr.heap.size := fun hs => by have := (q1.bound _ hs).2; omega
          have E := hide (q3.symm.trans hu)
          have HNX := hide hnx
          have HNV := hide hnv
          have H2 := hide h2
          have HPB := hide hpb
          have Q0 := hide q0
          have hq := q4
          have HQ := hide q4
          have HRT := hide hrt
          have HPS := hide hPS
          have hbB : wr.heap.size ≥ B := by have := q1.below; omega
          have hfin0 : s'.fin = 0 := hfi
          have HFI := hide hfin0
          clear hu q1 q2 q3 q4 h1 h1a h2 hf hfi hfu hrt hnx hnv hbw q0 hSb hpb hq hPS hfin0
          have hcs : c = 1 ∨ c = 2 ∨ c = 3 ∨ c = 4 ∨ c = 5 ∨ c = 6 ∨ c = 7 ∨ c = 8 ∨ c = 9 ∨ c = 10 ∨ c = 11 := by omega
          clear hc
          rcases hcs with rfl | rfl | rfl | rfl | rfl | rfl | rfl | rfl | rfl | rfl | rfl
          · as_aux_lemma =>
              obtain ⟨r1, r2⟩ := right_reg (show rightB 1 a v nt nf = true from unhide HRT) (by omega)
              go_wp2
              generalize hW2 : ((wr.setCell ⟨b, 25, none⟩ (.int .i64 (s'.fuel - 1))).alloc (.cells #[.int .i64 1, .int .i64 a, .int .i64 v] 70)) = W2 at *
              clear hW2
              have cr := (unhide H2).cell (10 + a.toNat) (by omega)
              have fr := (unhide H2).free (10 + a.toNat) (by omega)
              rw [limg_reg _ _ _ _ _ _ (by omega)] at cr
              refine wp_region_held_drew (S := fun w' => w'.heap[wr.heap.size]? = some (.cells #[.int .i64 1, .int .i64 a, .int .i64 v] 70)) (by kernel_rfl) ?_ (fun hHeld => ?_)
              · exact unhide HPB
              refine wpAnyH_take (i := 0) (oi := { dst := some 46, op := Op.move (Operand.tmp 0), type := 177, pos := "run.go:216", after := #[], guard := none }) (v := ?_) rfl (by kernel_rfl) (by kernel_rfl) (by kernel_rfl) (fun _ _ _ h => h) (Or.inl ⟨by rfl, ?_⟩) (by assumption) ?_
              rotate_left
              · intro w hSw; (try dsimp only at hSw); go_simp; try with_reducible rfl
              simp only [Act.put, List.setIfInBounds_toArray, List.set_cons_zero, List.set_cons_succ]
              refine wpAnyH_take (i := 1) (oi := { dst := some 47, op := Op.fieldAddr 70 (Operand.tmp 5) 1, type := 0, pos := "run.go:216", after := #[], guard := none }) (v := ?_) rfl (by kernel_rfl) (by kernel_rfl) (by kernel_rfl) (fun _ _ _ h => h) (Or.inl ⟨by rfl, ?_⟩) (by assumption) ?_
              rotate_left
              · intro w hSw; have cP := fun j => cell_of_row w _ j _ 70 (0, 0) hSw; go_simp; try with_reducible rfl
              simp only [Act.put, List.setIfInBounds_toArray, List.set_cons_zero, List.set_cons_succ]
              refine wpAnyH_take (i := 2) (oi := { dst := some 48, op := Op.load 3 (Operand.tmp 47), type := 3, pos := "run.go:216", after := #[{ on := 1, ground := Ground.data }], guard := none }) (v := ?_) rfl (by kernel_rfl) (by kernel_rfl) (by kernel_rfl) (fun _ _ _ h => h) (Or.inl ⟨by rfl, ?_⟩) (by assumption) ?_
              rotate_left
              · intro w hSw; have cP := fun j => cell_of_row w _ j _ 70 (0, 0) hSw; go_simp; try with_reducible rfl
              simp only [Act.put, List.setIfInBounds_toArray, List.set_cons_zero, List.set_cons_succ]
              refine wpAnyH_take (i := 3) (oi := { dst := some 49, op := Op.fieldAddr 70 (Operand.tmp 5) 2, type := 0, pos := "run.go:216", after := #[], guard := none }) (v := ?_) rfl (by kernel_rfl) (by kernel_rfl) (by kernel_rfl) (fun _ _ _ h => h) (Or.inl ⟨by rfl, ?_⟩) (by assumption) ?_
              rotate_left
              · intro w hSw; have cP := fun j => cell_of_row w _ j _ 70 (0, 0) hSw; go_simp; try with_reducible rfl
              simp only [Act.put, List.setIfInBounds_toArray, List.set_cons_zero, List.set_cons_succ]
              refine wpAnyH_take (i := 4) (oi := { dst := some 50, op := Op.load 3 (Operand.tmp 49), type := 3, pos := "run.go:216", after := #[{ on := 3, ground := Ground.data }], guard := none }) (v := ?_) rfl (by kernel_rfl) (by kernel_rfl) (by kernel_rfl) (fun _ _ _ h => h) (Or.inl ⟨by rfl, ?_⟩) (by assumption) ?_
              rotate_left
              · intro w hSw; have cP := fun j => cell_of_row w _ j _ 70 (0, 0) hSw; go_simp; try with_reducible rfl
              simp only [Act.put, List.setIfInBounds_toArray, List.set_cons_zero, List.set_cons_succ]
              refine wpAnyH_take (i := 5) (oi := { dst := some 51, op := Op.nilCheck (Operand.tmp 46), type := 0, pos := "run.go:216", after := #[{ on := 0, ground := Ground.data }], guard := none }) (v := ?_) rfl (by kernel_rfl) (by kernel_rfl) (by kernel_rfl) (fun _ _ _ h => h) (Or.inl ⟨by rfl, ?_⟩) (by assumption) ?_
              rotate_left
              · intro w hSw; (try dsimp only at hSw); go_simp; try with_reducible rfl
              simp only [Act.put, List.setIfInBounds_toArray, List.set_cons_zero, List.set_cons_succ]
              refine wpAnyH_take (i := 6) (oi := { dst := some 52, op := Op.fieldAddr 180 (Operand.tmp 51) 5, type := 0, pos := "run.go:216", after := #[{ on := 5, ground := Ground.data }], guard := none }) (v := ?_) rfl (by kernel_rfl) (by kernel_rfl) (by kernel_rfl) (fun _ _ _ h => h) (Or.inl ⟨by rfl, ?_⟩) (by assumption) ?_
              rotate_left
              · intro w hSw; (try dsimp only at hSw); go_simp; try with_reducible rfl
              simp only [Act.put, List.setIfInBounds_toArray, List.set_cons_zero, List.set_cons_succ]
              refine wpAnyH_take (i := 7) (oi := { dst := some 53, op := Op.indexAddr 35 (Operand.tmp 52) (Operand.tmp 48), type := 0, pos := "run.go:216", after := #[{ on := 6, ground := Ground.data }, { on := 2, ground := Ground.data }, { on := 0, ground := Ground.phase }, { on := 1, ground := Ground.phase }, { on := 2, ground := Ground.phase }, { on := 3, ground := Ground.phase }, { on := 4, ground := Ground.phase }], guard := none }) (v := ?_) rfl (by kernel_rfl) (by kernel_rfl) (by kernel_rfl) (fun _ _ _ h => h) (Or.inl ⟨by rfl, ?_⟩) (by assumption) ?_
              rotate_left
              · intro w hSw; (try dsimp only at hSw); go_simp; try with_reducible rfl
              simp only [Act.put, List.setIfInBounds_toArray, List.set_cons_zero, List.set_cons_succ]
              refine wpAnyH_ready (rs := [8]) (by kernel_rfl) (by simp) ?_
              refine AllReadyH.cons (o := { dst := none, op := Op.store 2 (Operand.tmp 53) (Operand.tmp 50), type := 0, pos := "run.go:216", after := #[{ on := 7, ground := Ground.data }, { on := 4, ground := Ground.data }, { on := 0, ground := Ground.phase }, { on := 1, ground := Ground.phase }, { on := 2, ground := Ground.phase }, { on := 3, ground := Ground.phase }, { on := 4, ground := Ground.phase }], guard := none }) rfl (fun K' hK' => ?_) AllReadyH.nil
              go_simp
              refine hK'.out _ _ ?_ (fun hHeld => ?_)
              · exact (Below.heap_setCell _ _ _ _ hnP).trans (unhide HPB)
              clear hK' K'
              try simp only [Act.put, List.setIfInBounds_toArray, List.set_cons_zero, List.set_cons_succ]
              refine wpAnyH_done (by kernel_rfl) ?_ _
              go_wp2
              go_roundg k'
              case rel =>
                have e3 := unhide E
                have e4 := unhide HNV
                rw [show opM ask (1, a, v) { s' with fuel := s'.fuel - 1, next := s'.next + 1 } x' = ({ s' with fuel := s'.fuel - 1, next := s'.next + 1, reg := upd s'.reg a.toNat v }, x') from by simp [opM]] at e3 e4
                exact qrel_next (((unhide H2).set L (10 + a.toNat) (.int .i64 v) _ (by omega) (lset_reg a.toNat v (by omega)) rfl ((unhide H2).rel.of rfl rfl) rfl).drew L) (unhide Q0) (((unhide Q2).setCell _ _ (unhide HSb)).drew) e3 e4 (by show _ = Value.int .i64 (s'.next + 1); go_num) (.inl rfl) e1 e2 hn q7
              case measure => omega
          · as_aux_lemma =>
              obtain ⟨r1, r2⟩ := right_reg (show rightB 2 a v nt nf = true from unhide HRT) (by omega)
              obtain ⟨r3, r4⟩ := right_b (show rightB 2 a v nt nf = true from unhide HRT) (by omega)
              go_wp2
              generalize hW2 : ((wr.setCell ⟨b, 25, none⟩ (.int .i64 (s'.fuel - 1))).alloc (.cells #[.int .i64 2, .int .i64 a, .int .i64 v] 70)) = W2 at *
              clear hW2
              have cr := (unhide H2).cell (10 + a.toNat) (by omega)
              have fr := (unhide H2).free (10 + a.toNat) (by omega)
              rw [limg_reg _ _ _ _ _ _ (by omega)] at cr
              have cv := (unhide H2).cell (10 + v.toNat) (by omega)
              rw [limg_reg _ _ _ _ _ _ (by omega)] at cv
              change W2.cell? _ = some (.int .i64 (s'.reg a.toNat)) at cr
              change W2.cell? _ = some (.int .i64 (s'.reg v.toNat)) at cv
              refine wp_region_held_drew (S := fun w' => w'.heap[wr.heap.size]? = some (.cells #[.int .i64 2, .int .i64 a, .int .i64 v] 70)) (by kernel_rfl) ?_ (fun hHeld => ?_)
              · exact unhide HPB
              refine wpAnyH_take (i := 0) (oi := { dst := some 56, op := Op.move (Operand.tmp 0), type := 177, pos := "run.go:218", after := #[], guard := none }) (v := ?_) rfl (by kernel_rfl) (by kernel_rfl) (by kernel_rfl) (fun _ _ _ h => h) (Or.inl ⟨by rfl, ?_⟩) (by assumption) ?_
              rotate_left
              · intro w hSw; have cP := fun j => cell_of_row w _ j _ 70 (0, 0) hSw; go_simp; try with_reducible rfl
              simp only [Act.put, List.setIfInBounds_toArray, List.set_cons_zero, List.set_cons_succ]
              refine wpAnyH_take (i := 1) (oi := { dst := some 57, op := Op.fieldAddr 70 (Operand.tmp 5) 1, type := 0, pos := "run.go:218", after := #[], guard := none }) (v := ?_) rfl (by kernel_rfl) (by kernel_rfl) (by kernel_rfl) (fun _ _ _ h => h) (Or.inl ⟨by rfl, ?_⟩) (by assumption) ?_
              rotate_left
              · intro w hSw; have cP := fun j => cell_of_row w _ j _ 70 (0, 0) hSw; go_simp; try with_reducible rfl
              simp only [Act.put, List.setIfInBounds_toArray, List.set_cons_zero, List.set_cons_succ]
              refine wpAnyH_take (i := 2) (oi := { dst := some 58, op := Op.load 3 (Operand.tmp 57), type := 3, pos := "run.go:218", after := #[{ on := 1, ground := Ground.data }], guard := none }) (v := ?_) rfl (by kernel_rfl) (by kernel_rfl) (by kernel_rfl) (fun _ _ _ h => h) (Or.inl ⟨by rfl, ?_⟩) (by assumption) ?_
              rotate_left
              · intro w hSw; have cP := fun j => cell_of_row w _ j _ 70 (0, 0) hSw; go_simp; try with_reducible rfl
              simp only [Act.put, List.setIfInBounds_toArray, List.set_cons_zero, List.set_cons_succ]
              refine wpAnyH_take (i := 3) (oi := { dst := some 59, op := Op.move (Operand.tmp 0), type := 177, pos := "run.go:218", after := #[], guard := none }) (v := ?_) rfl (by kernel_rfl) (by kernel_rfl) (by kernel_rfl) (fun _ _ _ h => h) (Or.inl ⟨by rfl, ?_⟩) (by assumption) ?_
              rotate_left
              · intro w hSw; have cP := fun j => cell_of_row w _ j _ 70 (0, 0) hSw; go_simp; try with_reducible rfl
              simp only [Act.put, List.setIfInBounds_toArray, List.set_cons_zero, List.set_cons_succ]
              refine wpAnyH_take (i := 4) (oi := { dst := some 60, op := Op.fieldAddr 70 (Operand.tmp 5) 1, type := 0, pos := "run.go:218", after := #[], guard := none }) (v := ?_) rfl (by kernel_rfl) (by kernel_rfl) (by kernel_rfl) (fun _ _ _ h => h) (Or.inl ⟨by rfl, ?_⟩) (by assumption) ?_
              rotate_left
              · intro w hSw; have cP := fun j => cell_of_row w _ j _ 70 (0, 0) hSw; go_simp; try with_reducible rfl
              simp only [Act.put, List.setIfInBounds_toArray, List.set_cons_zero, List.set_cons_succ]
              refine wpAnyH_take (i := 5) (oi := { dst := some 61, op := Op.load 3 (Operand.tmp 60), type := 3, pos := "run.go:218", after := #[{ on := 4, ground := Ground.data }], guard := none }) (v := ?_) rfl (by kernel_rfl) (by kernel_rfl) (by kernel_rfl) (fun _ _ _ h => h) (Or.inl ⟨by rfl, ?_⟩) (by assumption) ?_
              rotate_left
              · intro w hSw; have cP := fun j => cell_of_row w _ j _ 70 (0, 0) hSw; go_simp; try with_reducible rfl
              simp only [Act.put, List.setIfInBounds_toArray, List.set_cons_zero, List.set_cons_succ]
              refine wpAnyH_take (i := 6) (oi := { dst := some 62, op := Op.nilCheck (Operand.tmp 59), type := 0, pos := "run.go:218", after := #[{ on := 3, ground := Ground.data }], guard := none }) (v := ?_) rfl (by kernel_rfl) (by kernel_rfl) (by kernel_rfl) (fun _ _ _ h => h) (Or.inl ⟨by rfl, ?_⟩) (by assumption) ?_
              rotate_left
              · intro w hSw; have cP := fun j => cell_of_row w _ j _ 70 (0, 0) hSw; go_simp; try with_reducible rfl
              simp only [Act.put, List.setIfInBounds_toArray, List.set_cons_zero, List.set_cons_succ]
              refine wpAnyH_take (i := 7) (oi := { dst := some 63, op := Op.fieldAddr 180 (Operand.tmp 62) 5, type := 0, pos := "run.go:218", after := #[{ on := 6, ground := Ground.data }], guard := none }) (v := ?_) rfl (by kernel_rfl) (by kernel_rfl) (by kernel_rfl) (fun _ _ _ h => h) (Or.inl ⟨by rfl, ?_⟩) (by assumption) ?_
              rotate_left
              · intro w hSw; have cP := fun j => cell_of_row w _ j _ 70 (0, 0) hSw; go_simp; try with_reducible rfl
              simp only [Act.put, List.setIfInBounds_toArray, List.set_cons_zero, List.set_cons_succ]
              refine wpAnyH_take (i := 8) (oi := { dst := some 64, op := Op.indexAddr 35 (Operand.tmp 63) (Operand.tmp 61), type := 0, pos := "run.go:218", after := #[{ on := 7, ground := Ground.data }, { on := 5, ground := Ground.data }], guard := none }) (v := ?_) rfl (by kernel_rfl) (by kernel_rfl) (by kernel_rfl) (fun _ _ _ h => h) (Or.inl ⟨by rfl, ?_⟩) (by assumption) ?_
              rotate_left
              · intro w hSw; have cP := fun j => cell_of_row w _ j _ 70 (0, 0) hSw; go_simp; try with_reducible rfl
              simp only [Act.put, List.setIfInBounds_toArray, List.set_cons_zero, List.set_cons_succ]
              refine wpAnyH_take (i := 10) (oi := { dst := some 66, op := Op.move (Operand.tmp 0), type := 177, pos := "run.go:218", after := #[], guard := none }) (v := ?_) rfl (by kernel_rfl) (by kernel_rfl) (by kernel_rfl) (fun _ _ _ h => h) (Or.inl ⟨by rfl, ?_⟩) (by assumption) ?_
              rotate_left
              · intro w hSw; have cP := fun j => cell_of_row w _ j _ 70 (0, 0) hSw; go_simp; try with_reducible rfl
              simp only [Act.put, List.setIfInBounds_toArray, List.set_cons_zero, List.set_cons_succ]
              refine wpAnyH_take (i := 11) (oi := { dst := some 67, op := Op.fieldAddr 70 (Operand.tmp 5) 2, type := 0, pos := "run.go:218", after := #[], guard := none }) (v := ?_) rfl (by kernel_rfl) (by kernel_rfl) (by kernel_rfl) (fun _ _ _ h => h) (Or.inl ⟨by rfl, ?_⟩) (by assumption) ?_
              rotate_left
              · intro w hSw; have cP := fun j => cell_of_row w _ j _ 70 (0, 0) hSw; go_simp; try with_reducible rfl
              simp only [Act.put, List.setIfInBounds_toArray, List.set_cons_zero, List.set_cons_succ]
              refine wpAnyH_take (i := 12) (oi := { dst := some 68, op := Op.load 3 (Operand.tmp 67), type := 3, pos := "run.go:218", after := #[{ on := 11, ground := Ground.data }], guard := none }) (v := ?_) rfl (by kernel_rfl) (by kernel_rfl) (by kernel_rfl) (fun _ _ _ h => h) (Or.inl ⟨by rfl, ?_⟩) (by assumption) ?_
              rotate_left
              · intro w hSw; have cP := fun j => cell_of_row w _ j _ 70 (0, 0) hSw; go_simp; try with_reducible rfl
              simp only [Act.put, List.setIfInBounds_toArray, List.set_cons_zero, List.set_cons_succ]
              refine wpAnyH_take (i := 13) (oi := { dst := some 69, op := Op.nilCheck (Operand.tmp 66), type := 0, pos := "run.go:218", after := #[{ on := 10, ground := Ground.data }], guard := none }) (v := ?_) rfl (by kernel_rfl) (by kernel_rfl) (by kernel_rfl) (fun _ _ _ h => h) (Or.inl ⟨by rfl, ?_⟩) (by assumption) ?_
              rotate_left
              · intro w hSw; have cP := fun j => cell_of_row w _ j _ 70 (0, 0) hSw; go_simp; try with_reducible rfl
              simp only [Act.put, List.setIfInBounds_toArray, List.set_cons_zero, List.set_cons_succ]
              refine wpAnyH_take (i := 14) (oi := { dst := some 70, op := Op.fieldAddr 180 (Operand.tmp 69) 5, type := 0, pos := "run.go:218", after := #[{ on := 13, ground := Ground.data }], guard := none }) (v := ?_) rfl (by kernel_rfl) (by kernel_rfl) (by kernel_rfl) (fun _ _ _ h => h) (Or.inl ⟨by rfl, ?_⟩) (by assumption) ?_
              rotate_left
              · intro w hSw; have cP := fun j => cell_of_row w _ j _ 70 (0, 0) hSw; go_simp; try with_reducible rfl
              simp only [Act.put, List.setIfInBounds_toArray, List.set_cons_zero, List.set_cons_succ]
              refine wpAnyH_take (i := 15) (oi := { dst := some 71, op := Op.indexAddr 35 (Operand.tmp 70) (Operand.tmp 68), type := 0, pos := "run.go:218", after := #[{ on := 14, ground := Ground.data }, { on := 12, ground := Ground.data }], guard := none }) (v := ?_) rfl (by kernel_rfl) (by kernel_rfl) (by kernel_rfl) (fun _ _ _ h => h) (Or.inl ⟨by rfl, ?_⟩) (by assumption) ?_
              rotate_left
              · intro w hSw; have cP := fun j => cell_of_row w _ j _ 70 (0, 0) hSw; go_simp; try with_reducible rfl
              simp only [Act.put, List.setIfInBounds_toArray, List.set_cons_zero, List.set_cons_succ]
              refine wpAnyH_take (i := 18) (oi := { dst := some 74, op := Op.nilCheck (Operand.tmp 56), type := 0, pos := "run.go:218", after := #[{ on := 0, ground := Ground.data }], guard := none }) (v := ?_) rfl (by kernel_rfl) (by kernel_rfl) (by kernel_rfl) (fun _ _ _ h => h) (Or.inl ⟨by rfl, ?_⟩) (by assumption) ?_
              rotate_left
              · intro w hSw; have cP := fun j => cell_of_row w _ j _ 70 (0, 0) hSw; go_simp; try with_reducible rfl
              simp only [Act.put, List.setIfInBounds_toArray, List.set_cons_zero, List.set_cons_succ]
              refine wpAnyH_take (i := 19) (oi := { dst := some 75, op := Op.fieldAddr 180 (Operand.tmp 74) 5, type := 0, pos := "run.go:218", after := #[{ on := 18, ground := Ground.data }], guard := none }) (v := ?_) rfl (by kernel_rfl) (by kernel_rfl) (by kernel_rfl) (fun _ _ _ h => h) (Or.inl ⟨by rfl, ?_⟩) (by assumption) ?_
              rotate_left
              · intro w hSw; have cP := fun j => cell_of_row w _ j _ 70 (0, 0) hSw; go_simp; try with_reducible rfl
              simp only [Act.put, List.setIfInBounds_toArray, List.set_cons_zero, List.set_cons_succ]
              refine wpAnyH_ready (rs := [9, 16]) (by kernel_rfl) (by simp) ?_
              refine AllReadyH.cons (o := { dst := some 65, op := Op.load 2 (Operand.tmp 64), type := 2, pos := "run.go:218", after := #[{ on := 8, ground := Ground.data }], guard := none }) rfl (fun K' hK' => ?_) (AllReadyH.cons (o := { dst := some 72, op := Op.load 2 (Operand.tmp 71), type := 2, pos := "run.go:218", after := #[{ on := 15, ground := Ground.data }], guard := none }) rfl (fun K' hK' => ?_) AllReadyH.nil)
              · go_simp
                refine hK'.out _ _ ?_ (fun hHeld => ?_)
                · exact unhide HPB
                clear hK' K'
                try simp only [Act.put, List.setIfInBounds_toArray, List.set_cons_zero, List.set_cons_succ]
                refine wpAnyH_ready (rs := [16]) (by kernel_rfl) (by simp) ?_
                refine AllReadyH.cons (o := { dst := some 72, op := Op.load 2 (Operand.tmp 71), type := 2, pos := "run.go:218", after := #[{ on := 15, ground := Ground.data }], guard := none }) rfl (fun K' hK' => ?_) AllReadyH.nil
                go_simp
                refine hK'.out _ _ ?_ (fun hHeld => ?_)
                · exact unhide HPB
                clear hK' K'
                try simp only [Act.put, List.setIfInBounds_toArray, List.set_cons_zero, List.set_cons_succ]
                refine wpAnyH_take (i := 17) (oi := { dst := some 73, op := Op.binOp BinOp.add 2 (Operand.tmp 65) (Operand.tmp 72) 2, type := 2, pos := "run.go:218", after := #[{ on := 9, ground := Ground.data }, { on := 16, ground := Ground.data }], guard := none }) (v := ?_) rfl (by kernel_rfl) (by kernel_rfl) (by kernel_rfl) (fun _ _ _ h => h) (Or.inl ⟨by rfl, ?_⟩) (by assumption) ?_
                rotate_left
                · intro w hSw; have cP := fun j => cell_of_row w _ j _ 70 (0, 0) hSw; go_simp; try with_reducible rfl
                simp only [Act.put, List.setIfInBounds_toArray, List.set_cons_zero, List.set_cons_succ]
                refine wpAnyH_take (i := 20) (oi := { dst := some 76, op := Op.indexAddr 35 (Operand.tmp 75) (Operand.tmp 58), type := 0, pos := "run.go:218", after := #[{ on := 19, ground := Ground.data }, { on := 2, ground := Ground.data }, { on := 0, ground := Ground.phase }, { on := 1, ground := Ground.phase }, { on := 2, ground := Ground.phase }, { on := 3, ground := Ground.phase }, { on := 4, ground := Ground.phase }, { on := 5, ground := Ground.phase }, { on := 6, ground := Ground.phase }, { on := 7, ground := Ground.phase }, { on := 8, ground := Ground.phase }, { on := 9, ground := Ground.phase }, { on := 10, ground := Ground.phase }, { on := 11, ground := Ground.phase }, { on := 12, ground := Ground.phase }, { on := 13, ground := Ground.phase }, { on := 14, ground := Ground.phase }, { on := 15, ground := Ground.phase }, { on := 16, ground := Ground.phase }, { on := 17, ground := Ground.phase }], guard := none }) (v := ?_) rfl (by kernel_rfl) (by kernel_rfl) (by kernel_rfl) (fun _ _ _ h => h) (Or.inl ⟨by rfl, ?_⟩) (by assumption) ?_
                rotate_left
                · intro w hSw; have cP := fun j => cell_of_row w _ j _ 70 (0, 0) hSw; go_simp; try with_reducible rfl
                simp only [Act.put, List.setIfInBounds_toArray, List.set_cons_zero, List.set_cons_succ]
                refine wpAnyH_ready (rs := [21]) (by kernel_rfl) (by simp) ?_
                refine AllReadyH.cons (o := { dst := none, op := Op.store 2 (Operand.tmp 76) (Operand.tmp 73), type := 0, pos := "run.go:218", after := #[{ on := 20, ground := Ground.data }, { on := 17, ground := Ground.data }, { on := 0, ground := Ground.phase }, { on := 1, ground := Ground.phase }, { on := 2, ground := Ground.phase }, { on := 3, ground := Ground.phase }, { on := 4, ground := Ground.phase }, { on := 5, ground := Ground.phase }, { on := 6, ground := Ground.phase }, { on := 7, ground := Ground.phase }, { on := 8, ground := Ground.phase }, { on := 9, ground := Ground.phase }, { on := 10, ground := Ground.phase }, { on := 11, ground := Ground.phase }, { on := 12, ground := Ground.phase }, { on := 13, ground := Ground.phase }, { on := 14, ground := Ground.phase }, { on := 15, ground := Ground.phase }, { on := 16, ground := Ground.phase }, { on := 17, ground := Ground.phase }], guard := none }) rfl (fun K' hK' => ?_) AllReadyH.nil
                go_simp
                refine hK'.out _ _ ?_ (fun hHeld => ?_)
                · exact (Below.heap_setCell _ _ _ _ hnP).trans (unhide HPB)
                clear hK' K'
                try simp only [Act.put, List.setIfInBounds_toArray, List.set_cons_zero, List.set_cons_succ]
                refine wpAnyH_done (by kernel_rfl) ?_ _
                go_wp2
                go_roundg k'
                case rel =>
                  have e3 := unhide E
                  have e4 := unhide HNV
                  rw [show opM ask (2, a, v) { s' with fuel := s'.fuel - 1, next := s'.next + 1 } x' = ({ s' with fuel := s'.fuel - 1, next := s'.next + 1, reg := upd s'.reg a.toNat (wrap64 (s'.reg a.toNat + s'.reg v.toNat)) }, x') from by simp [opM]] at e3 e4
                  exact qrel_next (((unhide H2).set L (10 + a.toNat) (.int .i64 (wrap64 (s'.reg a.toNat + s'.reg v.toNat))) _ (by omega) (lset_reg a.toNat _ (by omega)) rfl ((unhide H2).rel.of rfl rfl) rfl).drew L) (unhide Q0) (((unhide Q2).setCell _ _ (unhide HSb)).drew) e3 e4 (by show _ = Value.int .i64 (s'.next + 1); go_num) (.inl rfl) e1 e2 hn q7
                case measure => omega
              · go_simp
                refine hK'.out _ _ ?_ (fun hHeld => ?_)
                · exact unhide HPB
                clear hK' K'
                try simp only [Act.put, List.setIfInBounds_toArray, List.set_cons_zero, List.set_cons_succ]
                refine wpAnyH_ready (rs := [9]) (by kernel_rfl) (by simp) ?_
                refine AllReadyH.cons (o := { dst := some 65, op := Op.load 2 (Operand.tmp 64), type := 2, pos := "run.go:218", after := #[{ on := 8, ground := Ground.data }], guard := none }) rfl (fun K' hK' => ?_) AllReadyH.nil
                go_simp
                refine hK'.out _ _ ?_ (fun hHeld => ?_)
                · exact unhide HPB
                clear hK' K'
                try simp only [Act.put, List.setIfInBounds_toArray, List.set_cons_zero, List.set_cons_succ]
                refine wpAnyH_take (i := 17) (oi := { dst := some 73, op := Op.binOp BinOp.add 2 (Operand.tmp 65) (Operand.tmp 72) 2, type := 2, pos := "run.go:218", after := #[{ on := 9, ground := Ground.data }, { on := 16, ground := Ground.data }], guard := none }) (v := ?_) rfl (by kernel_rfl) (by kernel_rfl) (by kernel_rfl) (fun _ _ _ h => h) (Or.inl ⟨by rfl, ?_⟩) (by assumption) ?_
                rotate_left
                · intro w hSw; have cP := fun j => cell_of_row w _ j _ 70 (0, 0) hSw; go_simp; try with_reducible rfl
                simp only [Act.put, List.setIfInBounds_toArray, List.set_cons_zero, List.set_cons_succ]
                refine wpAnyH_take (i := 20) (oi := { dst := some 76, op := Op.indexAddr 35 (Operand.tmp 75) (Operand.tmp 58), type := 0, pos := "run.go:218", after := #[{ on := 19, ground := Ground.data }, { on := 2, ground := Ground.data }, { on := 0, ground := Ground.phase }, { on := 1, ground := Ground.phase }, { on := 2, ground := Ground.phase }, { on := 3, ground := Ground.phase }, { on := 4, ground := Ground.phase }, { on := 5, ground := Ground.phase }, { on := 6, ground := Ground.phase }, { on := 7, ground := Ground.phase }, { on := 8, ground := Ground.phase }, { on := 9, ground := Ground.phase }, { on := 10, ground := Ground.phase }, { on := 11, ground := Ground.phase }, { on := 12, ground := Ground.phase }, { on := 13, ground := Ground.phase }, { on := 14, ground := Ground.phase }, { on := 15, ground := Ground.phase }, { on := 16, ground := Ground.phase }, { on := 17, ground := Ground.phase }], guard := none }) (v := ?_) rfl (by kernel_rfl) (by kernel_rfl) (by kernel_rfl) (fun _ _ _ h => h) (Or.inl ⟨by rfl, ?_⟩) (by assumption) ?_
                rotate_left
                · intro w hSw; have cP := fun j => cell_of_row w _ j _ 70 (0, 0) hSw; go_simp; try with_reducible rfl
                simp only [Act.put, List.setIfInBounds_toArray, List.set_cons_zero, List.set_cons_succ]
                refine wpAnyH_ready (rs := [21]) (by kernel_rfl) (by simp) ?_
                refine AllReadyH.cons (o := { dst := none, op := Op.store 2 (Operand.tmp 76) (Operand.tmp 73), type := 0, pos := "run.go:218", after := #[{ on := 20, ground := Ground.data }, { on := 17, ground := Ground.data }, { on := 0, ground := Ground.phase }, { on := 1, ground := Ground.phase }, { on := 2, ground := Ground.phase }, { on := 3, ground := Ground.phase }, { on := 4, ground := Ground.phase }, { on := 5, ground := Ground.phase }, { on := 6, ground := Ground.phase }, { on := 7, ground := Ground.phase }, { on := 8, ground := Ground.phase }, { on := 9, ground := Ground.phase }, { on := 10, ground := Ground.phase }, { on := 11, ground := Ground.phase }, { on := 12, ground := Ground.phase }, { on := 13, ground := Ground.phase }, { on := 14, ground := Ground.phase }, { on := 15, ground := Ground.phase }, { on := 16, ground := Ground.phase }, { on := 17, ground := Ground.phase }], guard := none }) rfl (fun K' hK' => ?_) AllReadyH.nil
                go_simp
                refine hK'.out _ _ ?_ (fun hHeld => ?_)
                · exact (Below.heap_setCell _ _ _ _ hnP).trans (unhide HPB)
                clear hK' K'
                try simp only [Act.put, List.setIfInBounds_toArray, List.set_cons_zero, List.set_cons_succ]
                refine wpAnyH_done (by kernel_rfl) ?_ _
                go_wp2
                go_roundg k'
                case rel =>
                  have e3 := unhide E
                  have e4 := unhide HNV
                  rw [show opM ask (2, a, v) { s' with fuel := s'.fuel - 1, next := s'.next + 1 } x' = ({ s' with fuel := s'.fuel - 1, next := s'.next + 1, reg := upd s'.reg a.toNat (wrap64 (s'.reg a.toNat + s'.reg v.toNat)) }, x') from by simp [opM]] at e3 e4
                  exact qrel_next (((unhide H2).set L (10 + a.toNat) (.int .i64 (wrap64 (s'.reg a.toNat + s'.reg v.toNat))) _ (by omega) (lset_reg a.toNat _ (by omega)) rfl ((unhide H2).rel.of rfl rfl) rfl).drew L) (unhide Q0) (((unhide Q2).setCell _ _ (unhide HSb)).drew) e3 e4 (by show _ = Value.int .i64 (s'.next + 1); go_num) (.inl rfl) e1 e2 hn q7
                case measure => omega
          · as_aux_lemma =>
              obtain ⟨r1, r2⟩ := right_tim (show rightB 3 a v nt nf = true from unhide HRT) (by omega)
              obtain ⟨r3, r4⟩ := right_b (show rightB 3 a v nt nf = true from unhide HRT) (by omega)
              go_wp2
              generalize hW2 : ((wr.setCell ⟨b, 25, none⟩ (.int .i64 (s'.fuel - 1))).alloc (.cells #[.int .i64 3, .int .i64 a, .int .i64 v] 70)) = W2 at *
              clear hW2
              have cv := (unhide H2).cell (10 + v.toNat) (by omega)
              rw [limg_reg _ _ _ _ _ _ (by omega)] at cv
              change W2.cell? _ = some (.int .i64 (s'.reg v.toNat)) at cv
              have HC := hide (armQ_any L ((unhide H2).drew L) a (s'.reg v.toNat) r1 (by omega) (by have := (unhide HQ).armings; have := (unhide HQ).fuel; show s'.armings ≤ 5000; omega) (unhide HQ).clock)
              refine wp_region_held_drew (S := fun w' => w'.heap[wr.heap.size]? = some (.cells #[.int .i64 3, .int .i64 a, .int .i64 v] 70)) (by kernel_rfl) ?_ (fun hHeld => ?_)
              · exact unhide HPB
              refine wpAnyH_take (i := 0) (oi := { dst := some 79, op := Op.move (Operand.tmp 0), type := 177, pos := "run.go:220", after := #[], guard := none }) (v := ?_) rfl (by kernel_rfl) (by kernel_rfl) (by kernel_rfl) (fun _ _ _ h => h) (Or.inl ⟨by rfl, ?_⟩) (by assumption) ?_
              rotate_left
              · intro w hSw; have cP := fun j => cell_of_row w _ j _ 70 (0, 0) hSw; go_simp; try with_reducible rfl
              simp only [Act.put, List.setIfInBounds_toArray, List.set_cons_zero, List.set_cons_succ]
              refine wpAnyH_take (i := 1) (oi := { dst := some 80, op := Op.fieldAddr 70 (Operand.tmp 5) 1, type := 0, pos := "run.go:220", after := #[], guard := none }) (v := ?_) rfl (by kernel_rfl) (by kernel_rfl) (by kernel_rfl) (fun _ _ _ h => h) (Or.inl ⟨by rfl, ?_⟩) (by assumption) ?_
              rotate_left
              · intro w hSw; have cP := fun j => cell_of_row w _ j _ 70 (0, 0) hSw; go_simp; try with_reducible rfl
              simp only [Act.put, List.setIfInBounds_toArray, List.set_cons_zero, List.set_cons_succ]
              refine wpAnyH_take (i := 2) (oi := { dst := some 81, op := Op.load 3 (Operand.tmp 80), type := 3, pos := "run.go:220", after := #[{ on := 1, ground := Ground.data }], guard := none }) (v := ?_) rfl (by kernel_rfl) (by kernel_rfl) (by kernel_rfl) (fun _ _ _ h => h) (Or.inl ⟨by rfl, ?_⟩) (by assumption) ?_
              rotate_left
              · intro w hSw; have cP := fun j => cell_of_row w _ j _ 70 (0, 0) hSw; go_simp; try with_reducible rfl
              simp only [Act.put, List.setIfInBounds_toArray, List.set_cons_zero, List.set_cons_succ]
              refine wpAnyH_take (i := 3) (oi := { dst := some 82, op := Op.move (Operand.tmp 0), type := 177, pos := "run.go:220", after := #[], guard := none }) (v := ?_) rfl (by kernel_rfl) (by kernel_rfl) (by kernel_rfl) (fun _ _ _ h => h) (Or.inl ⟨by rfl, ?_⟩) (by assumption) ?_
              rotate_left
              · intro w hSw; have cP := fun j => cell_of_row w _ j _ 70 (0, 0) hSw; go_simp; try with_reducible rfl
              simp only [Act.put, List.setIfInBounds_toArray, List.set_cons_zero, List.set_cons_succ]
              refine wpAnyH_take (i := 4) (oi := { dst := some 83, op := Op.fieldAddr 70 (Operand.tmp 5) 2, type := 0, pos := "run.go:220", after := #[], guard := none }) (v := ?_) rfl (by kernel_rfl) (by kernel_rfl) (by kernel_rfl) (fun _ _ _ h => h) (Or.inl ⟨by rfl, ?_⟩) (by assumption) ?_
              rotate_left
              · intro w hSw; have cP := fun j => cell_of_row w _ j _ 70 (0, 0) hSw; go_simp; try with_reducible rfl
              simp only [Act.put, List.setIfInBounds_toArray, List.set_cons_zero, List.set_cons_succ]
              refine wpAnyH_take (i := 5) (oi := { dst := some 84, op := Op.load 3 (Operand.tmp 83), type := 3, pos := "run.go:220", after := #[{ on := 4, ground := Ground.data }], guard := none }) (v := ?_) rfl (by kernel_rfl) (by kernel_rfl) (by kernel_rfl) (fun _ _ _ h => h) (Or.inl ⟨by rfl, ?_⟩) (by assumption) ?_
              rotate_left
              · intro w hSw; have cP := fun j => cell_of_row w _ j _ 70 (0, 0) hSw; go_simp; try with_reducible rfl
              simp only [Act.put, List.setIfInBounds_toArray, List.set_cons_zero, List.set_cons_succ]
              refine wpAnyH_take (i := 6) (oi := { dst := some 85, op := Op.nilCheck (Operand.tmp 82), type := 0, pos := "run.go:220", after := #[{ on := 3, ground := Ground.data }], guard := none }) (v := ?_) rfl (by kernel_rfl) (by kernel_rfl) (by kernel_rfl) (fun _ _ _ h => h) (Or.inl ⟨by rfl, ?_⟩) (by assumption) ?_
              rotate_left
              · intro w hSw; have cP := fun j => cell_of_row w _ j _ 70 (0, 0) hSw; go_simp; try with_reducible rfl
              simp only [Act.put, List.setIfInBounds_toArray, List.set_cons_zero, List.set_cons_succ]
              refine wpAnyH_take (i := 7) (oi := { dst := some 86, op := Op.fieldAddr 180 (Operand.tmp 85) 5, type := 0, pos := "run.go:220", after := #[{ on := 6, ground := Ground.data }], guard := none }) (v := ?_) rfl (by kernel_rfl) (by kernel_rfl) (by kernel_rfl) (fun _ _ _ h => h) (Or.inl ⟨by rfl, ?_⟩) (by assumption) ?_
              rotate_left
              · intro w hSw; have cP := fun j => cell_of_row w _ j _ 70 (0, 0) hSw; go_simp; try with_reducible rfl
              simp only [Act.put, List.setIfInBounds_toArray, List.set_cons_zero, List.set_cons_succ]
              refine wpAnyH_take (i := 8) (oi := { dst := some 87, op := Op.indexAddr 35 (Operand.tmp 86) (Operand.tmp 84), type := 0, pos := "run.go:220", after := #[{ on := 7, ground := Ground.data }, { on := 5, ground := Ground.data }], guard := none }) (v := ?_) rfl (by kernel_rfl) (by kernel_rfl) (by kernel_rfl) (fun _ _ _ h => h) (Or.inl ⟨by rfl, ?_⟩) (by assumption) ?_
              rotate_left
              · intro w hSw; have cP := fun j => cell_of_row w _ j _ 70 (0, 0) hSw; go_simp; try with_reducible rfl
              simp only [Act.put, List.setIfInBounds_toArray, List.set_cons_zero, List.set_cons_succ]
              refine wpAnyH_ready (rs := [9]) (by kernel_rfl) (by simp) ?_
              refine AllReadyH.cons (o := { dst := some 88, op := Op.load 2 (Operand.tmp 87), type := 2, pos := "run.go:220", after := #[{ on := 8, ground := Ground.data }], guard := none }) rfl (fun K' hK' => ?_) AllReadyH.nil
              go_simp
              refine hK'.out _ _ ?_ (fun hHeld => ?_)
              · exact unhide HPB
              clear hK' K'
              try simp only [Act.put, List.setIfInBounds_toArray, List.set_cons_zero, List.set_cons_succ]
              refine wpAnyH_ready (rs := [10]) (by kernel_rfl) (by simp) ?_
              refine AllReadyH.cons (o := { dst := some 89, op := Op.call { callee := Callee.value (Operand.func 139), args := #[Operand.tmp 79, Operand.tmp 81, Operand.tmp 88], argTypes := #[177, 3, 2] }, type := 0, pos := "run.go:220", after := #[{ on := 0, ground := Ground.data }, { on := 2, ground := Ground.data }, { on := 9, ground := Ground.data }], guard := none }) rfl (fun K' hK' => ?_) AllReadyH.nil
              go_simp
              go_at_call 139
              refine (unhide HC).mono ?_
              rintro e w3 ⟨rfl, S3, va3, p1, p2⟩
              have gg := (p2.same wr.heap.size hpl (unhide HPS)).trans (unhide HPB)
              have P1 := hide p1
              have P2 := hide p2
              clear p1 p2 HC
              refine hK'.out _ _ ?_ (fun hHeld => ?_)
              · exact gg
              clear hK' K'
              try simp only [Act.put, List.setIfInBounds_toArray, List.set_cons_zero, List.set_cons_succ]
              refine wpAnyH_done (by kernel_rfl) ?_ _
              go_wp2
              go_roundg k'
              case rel =>
                have e3 := unhide E
                have e4 := unhide HNV
                rw [show opM ask (3, a, v) { s' with fuel := s'.fuel - 1, next := s'.next + 1 } x' = ({ s' with fuel := s'.fuel - 1, next := s'.next + 1, armings := s'.armings + 1, tim := upd s'.tim a.toNat (true, s'.clock + min (max (s'.reg v.toNat) 0) (1099511627776 - s'.clock), s'.armings + 1, a) }, x') from by simp [opM]] at e3 e4
                exact qrel_next (unhide P1) (unhide Q0) (((unhide Q2).drew).trans (unhide P2)) e3 e4 (by show _ = Value.int .i64 (s'.next + 1); go_num) (.inl rfl) e1 e2 hn q7
              case measure => omega
          · as_aux_lemma =>
              obtain ⟨r1, r2⟩ := right_tim (show rightB 4 a v nt nf = true from unhide HRT) (by omega)
              have HC := hide (cancelQ_any L (unhide H2) a r1 (by have := (unhide HQ).armings; have := (unhide HQ).fuel; show s'.armings ≤ 5000; omega))
              go_wp2_with (go_at_call 140; refine (unhide HC).mono ?_; rintro e w3 ⟨rfl, S3, va3, p1, p2⟩; have P1 := hide p1; have P2 := hide p2; clear p1 p2 HC)
              go_roundg k'
              case rel =>
                have e3 := unhide E
                have e4 := unhide HNV
                rw [show opM ask (4, a, v) { s' with fuel := s'.fuel - 1, next := s'.next + 1 } x' = ({ s' with fuel := s'.fuel - 1, next := s'.next + 1, tim := upd s'.tim a.toNat (false, (s'.tim a.toNat).2) }, x') from by simp [opM]] at e3 e4
                exact qrel_next (unhide P1) (unhide Q0) (((unhide Q2)).trans (unhide P2)) e3 e4 (by show _ = Value.int .i64 (s'.next + 1); go_num) (.inl rfl) e1 e2 hn q7
              case measure => omega
          · as_aux_lemma =>
              obtain ⟨r1, r2⟩ := right_file (show rightB 5 a v nt nf = true from unhide HRT) (by omega)
              have r8 : a < 8 := by omega
              go_wp2
              generalize hW2 : ((wr.setCell ⟨b, 25, none⟩ (.int .i64 (s'.fuel - 1))).alloc (.cells #[.int .i64 5, .int .i64 a, .int .i64 v] 70)) = W2 at *
              clear hW2
              have cr := (unhide H2).cell (17 + a.toNat) (by omega)
              have fr := (unhide H2).free (17 + a.toNat) (by omega)
              rw [limg_wat _ _ _ _ _ _ (by omega)] at cr
              refine wp_region_held_drew (S := fun w' => w'.heap[wr.heap.size]? = some (.cells #[.int .i64 5, .int .i64 a, .int .i64 v] 70)) (by kernel_rfl) ?_ (fun hHeld => ?_)
              · exact unhide HPB
              refine wpAnyH_take (i := 0) (oi := { dst := some 98, op := Op.move (Operand.tmp 0), type := 177, pos := "run.go:224", after := #[], guard := none }) (v := ?_) rfl (by kernel_rfl) (by kernel_rfl) (by kernel_rfl) (fun _ _ _ h => h) (Or.inl ⟨by rfl, ?_⟩) (by assumption) ?_
              rotate_left
              · intro w hSw; have cP := fun j => cell_of_row w _ j _ 70 (0, 0) hSw; go_simp; try with_reducible rfl
              simp only [Act.put, List.setIfInBounds_toArray, List.set_cons_zero, List.set_cons_succ]
              refine wpAnyH_take (i := 1) (oi := { dst := some 99, op := Op.fieldAddr 70 (Operand.tmp 5) 1, type := 0, pos := "run.go:224", after := #[], guard := none }) (v := ?_) rfl (by kernel_rfl) (by kernel_rfl) (by kernel_rfl) (fun _ _ _ h => h) (Or.inl ⟨by rfl, ?_⟩) (by assumption) ?_
              rotate_left
              · intro w hSw; have cP := fun j => cell_of_row w _ j _ 70 (0, 0) hSw; go_simp; try with_reducible rfl
              simp only [Act.put, List.setIfInBounds_toArray, List.set_cons_zero, List.set_cons_succ]
              refine wpAnyH_take (i := 2) (oi := { dst := some 100, op := Op.load 3 (Operand.tmp 99), type := 3, pos := "run.go:224", after := #[{ on := 1, ground := Ground.data }], guard := none }) (v := ?_) rfl (by kernel_rfl) (by kernel_rfl) (by kernel_rfl) (fun _ _ _ h => h) (Or.inl ⟨by rfl, ?_⟩) (by assumption) ?_
              rotate_left
              · intro w hSw; have cP := fun j => cell_of_row w _ j _ 70 (0, 0) hSw; go_simp; try with_reducible rfl
              simp only [Act.put, List.setIfInBounds_toArray, List.set_cons_zero, List.set_cons_succ]
              refine wpAnyH_take (i := 3) (oi := { dst := some 101, op := Op.nilCheck (Operand.tmp 98), type := 0, pos := "run.go:224", after := #[{ on := 0, ground := Ground.data }], guard := none }) (v := ?_) rfl (by kernel_rfl) (by kernel_rfl) (by kernel_rfl) (fun _ _ _ h => h) (Or.inl ⟨by rfl, ?_⟩) (by assumption) ?_
              rotate_left
              · intro w hSw; have cP := fun j => cell_of_row w _ j _ 70 (0, 0) hSw; go_simp; try with_reducible rfl
              simp only [Act.put, List.setIfInBounds_toArray, List.set_cons_zero, List.set_cons_succ]
              refine wpAnyH_take (i := 4) (oi := { dst := some 102, op := Op.fieldAddr 180 (Operand.tmp 101) 9, type := 0, pos := "run.go:224", after := #[{ on := 3, ground := Ground.data }], guard := none }) (v := ?_) rfl (by kernel_rfl) (by kernel_rfl) (by kernel_rfl) (fun _ _ _ h => h) (Or.inl ⟨by rfl, ?_⟩) (by assumption) ?_
              rotate_left
              · intro w hSw; have cP := fun j => cell_of_row w _ j _ 70 (0, 0) hSw; go_simp; try with_reducible rfl
              simp only [Act.put, List.setIfInBounds_toArray, List.set_cons_zero, List.set_cons_succ]
              refine wpAnyH_take (i := 5) (oi := { dst := some 103, op := Op.indexAddr 128 (Operand.tmp 102) (Operand.tmp 100), type := 0, pos := "run.go:224", after := #[{ on := 4, ground := Ground.data }, { on := 2, ground := Ground.data }, { on := 0, ground := Ground.phase }, { on := 1, ground := Ground.phase }, { on := 2, ground := Ground.phase }], guard := none }) (v := ?_) rfl (by kernel_rfl) (by kernel_rfl) (by kernel_rfl) (fun _ _ _ h => h) (Or.inl ⟨by rfl, ?_⟩) (by assumption) ?_
              rotate_left
              · intro w hSw; have cP := fun j => cell_of_row w _ j _ 70 (0, 0) hSw; go_simp; try with_reducible rfl
              simp only [Act.put, List.setIfInBounds_toArray, List.set_cons_zero, List.set_cons_succ]
              refine wpAnyH_ready (rs := [6]) (by kernel_rfl) (by simp) ?_
              refine AllReadyH.cons (o := { dst := none, op := Op.store 4 (Operand.tmp 103) (Operand.const (Value.bool true)), type := 0, pos := "run.go:224", after := #[{ on := 5, ground := Ground.data }, { on := 0, ground := Ground.phase }, { on := 1, ground := Ground.phase }, { on := 2, ground := Ground.phase }], guard := none }) rfl (fun K' hK' => ?_) AllReadyH.nil
              go_simp
              refine hK'.out _ _ ?_ (fun hHeld => ?_)
              · exact (Below.heap_setCell _ _ _ _ hnP).trans (unhide HPB)
              clear hK' K'
              try simp only [Act.put, List.setIfInBounds_toArray, List.set_cons_zero, List.set_cons_succ]
              refine wpAnyH_done (by kernel_rfl) ?_ _
              go_wp2
              go_roundg k'
              case rel =>
                have e3 := unhide E
                have e4 := unhide HNV
                rw [show opM ask (5, a, v) { s' with fuel := s'.fuel - 1, next := s'.next + 1 } x' = ({ s' with fuel := s'.fuel - 1, next := s'.next + 1, wat := upd s'.wat a.toNat true }, x') from by simp [opM]] at e3 e4
                exact qrel_next (((unhide H2).set L (17 + a.toNat) (.bool true) _ (by omega) (lset_wat a.toNat true (by omega)) rfl ((unhide H2).rel.of rfl rfl) rfl).drew L) (unhide Q0) (((unhide Q2).setCell _ _ (unhide HSb)).drew) e3 e4 (by show _ = Value.int .i64 (s'.next + 1); go_num) (.inl rfl) e1 e2 hn q7
              case measure => omega
          · as_aux_lemma =>
              obtain ⟨r1, r2⟩ := right_file (show rightB 6 a v nt nf = true from unhide HRT) (by omega)
              have r8 : a < 8 := by omega
              go_wp2
              generalize hW2 : ((wr.setCell ⟨b, 25, none⟩ (.int .i64 (s'.fuel - 1))).alloc (.cells #[.int .i64 6, .int .i64 a, .int .i64 v] 70)) = W2 at *
              clear hW2
              have cr := (unhide H2).cell (17 + a.toNat) (by omega)
              have fr := (unhide H2).free (17 + a.toNat) (by omega)
              rw [limg_wat _ _ _ _ _ _ (by omega)] at cr
              refine wp_region_held_drew (S := fun w' => w'.heap[wr.heap.size]? = some (.cells #[.int .i64 6, .int .i64 a, .int .i64 v] 70)) (by kernel_rfl) ?_ (fun hHeld => ?_)
              · exact unhide HPB
              refine wpAnyH_take (i := 0) (oi := { dst := some 106, op := Op.move (Operand.tmp 0), type := 177, pos := "run.go:226", after := #[], guard := none }) (v := ?_) rfl (by kernel_rfl) (by kernel_rfl) (by kernel_rfl) (fun _ _ _ h => h) (Or.inl ⟨by rfl, ?_⟩) (by assumption) ?_
              rotate_left
              · intro w hSw; have cP := fun j => cell_of_row w _ j _ 70 (0, 0) hSw; go_simp; try with_reducible rfl
              simp only [Act.put, List.setIfInBounds_toArray, List.set_cons_zero, List.set_cons_succ]
              refine wpAnyH_take (i := 1) (oi := { dst := some 107, op := Op.fieldAddr 70 (Operand.tmp 5) 1, type := 0, pos := "run.go:226", after := #[], guard := none }) (v := ?_) rfl (by kernel_rfl) (by kernel_rfl) (by kernel_rfl) (fun _ _ _ h => h) (Or.inl ⟨by rfl, ?_⟩) (by assumption) ?_
              rotate_left
              · intro w hSw; have cP := fun j => cell_of_row w _ j _ 70 (0, 0) hSw; go_simp; try with_reducible rfl
              simp only [Act.put, List.setIfInBounds_toArray, List.set_cons_zero, List.set_cons_succ]
              refine wpAnyH_take (i := 2) (oi := { dst := some 108, op := Op.load 3 (Operand.tmp 107), type := 3, pos := "run.go:226", after := #[{ on := 1, ground := Ground.data }], guard := none }) (v := ?_) rfl (by kernel_rfl) (by kernel_rfl) (by kernel_rfl) (fun _ _ _ h => h) (Or.inl ⟨by rfl, ?_⟩) (by assumption) ?_
              rotate_left
              · intro w hSw; have cP := fun j => cell_of_row w _ j _ 70 (0, 0) hSw; go_simp; try with_reducible rfl
              simp only [Act.put, List.setIfInBounds_toArray, List.set_cons_zero, List.set_cons_succ]
              refine wpAnyH_take (i := 3) (oi := { dst := some 109, op := Op.nilCheck (Operand.tmp 106), type := 0, pos := "run.go:226", after := #[{ on := 0, ground := Ground.data }], guard := none }) (v := ?_) rfl (by kernel_rfl) (by kernel_rfl) (by kernel_rfl) (fun _ _ _ h => h) (Or.inl ⟨by rfl, ?_⟩) (by assumption) ?_
              rotate_left
              · intro w hSw; have cP := fun j => cell_of_row w _ j _ 70 (0, 0) hSw; go_simp; try with_reducible rfl
              simp only [Act.put, List.setIfInBounds_toArray, List.set_cons_zero, List.set_cons_succ]
              refine wpAnyH_take (i := 4) (oi := { dst := some 110, op := Op.fieldAddr 180 (Operand.tmp 109) 9, type := 0, pos := "run.go:226", after := #[{ on := 3, ground := Ground.data }], guard := none }) (v := ?_) rfl (by kernel_rfl) (by kernel_rfl) (by kernel_rfl) (fun _ _ _ h => h) (Or.inl ⟨by rfl, ?_⟩) (by assumption) ?_
              rotate_left
              · intro w hSw; have cP := fun j => cell_of_row w _ j _ 70 (0, 0) hSw; go_simp; try with_reducible rfl
              simp only [Act.put, List.setIfInBounds_toArray, List.set_cons_zero, List.set_cons_succ]
              refine wpAnyH_take (i := 5) (oi := { dst := some 111, op := Op.indexAddr 128 (Operand.tmp 110) (Operand.tmp 108), type := 0, pos := "run.go:226", after := #[{ on := 4, ground := Ground.data }, { on := 2, ground := Ground.data }, { on := 0, ground := Ground.phase }, { on := 1, ground := Ground.phase }, { on := 2, ground := Ground.phase }], guard := none }) (v := ?_) rfl (by kernel_rfl) (by kernel_rfl) (by kernel_rfl) (fun _ _ _ h => h) (Or.inl ⟨by rfl, ?_⟩) (by assumption) ?_
              rotate_left
              · intro w hSw; have cP := fun j => cell_of_row w _ j _ 70 (0, 0) hSw; go_simp; try with_reducible rfl
              simp only [Act.put, List.setIfInBounds_toArray, List.set_cons_zero, List.set_cons_succ]
              refine wpAnyH_ready (rs := [6]) (by kernel_rfl) (by simp) ?_
              refine AllReadyH.cons (o := { dst := none, op := Op.store 4 (Operand.tmp 111) (Operand.const (Value.bool false)), type := 0, pos := "run.go:226", after := #[{ on := 5, ground := Ground.data }, { on := 0, ground := Ground.phase }, { on := 1, ground := Ground.phase }, { on := 2, ground := Ground.phase }], guard := none }) rfl (fun K' hK' => ?_) AllReadyH.nil
              go_simp
              refine hK'.out _ _ ?_ (fun hHeld => ?_)
              · exact (Below.heap_setCell _ _ _ _ hnP).trans (unhide HPB)
              clear hK' K'
              try simp only [Act.put, List.setIfInBounds_toArray, List.set_cons_zero, List.set_cons_succ]
              refine wpAnyH_done (by kernel_rfl) ?_ _
              go_wp2
              go_roundg k'
              case rel =>
                have e3 := unhide E
                have e4 := unhide HNV
                rw [show opM ask (6, a, v) { s' with fuel := s'.fuel - 1, next := s'.next + 1 } x' = ({ s' with fuel := s'.fuel - 1, next := s'.next + 1, wat := upd s'.wat a.toNat false }, x') from by simp [opM]] at e3 e4
                exact qrel_next (((unhide H2).set L (17 + a.toNat) (.bool false) _ (by omega) (lset_wat a.toNat false (by omega)) rfl ((unhide H2).rel.of rfl rfl) rfl).drew L) (unhide Q0) (((unhide Q2).setCell _ _ (unhide HSb)).drew) e3 e4 (by show _ = Value.int .i64 (s'.next + 1); go_num) (.inl rfl) e1 e2 hn q7
              case measure => omega
          · as_aux_lemma =>
              obtain ⟨r1, r2⟩ := right_reg (show rightB 7 a v nt nf = true from unhide HRT) (by omega)
              have hc := clockQ_any L K (unhide H2) (unhide HFI) hm
              obtain ⟨R, x2, hR⟩ : ∃ R x2, ask x' 1 0 = (R, x2) := ⟨_, _, rfl⟩
              rw [hR] at hc
              dsimp only at hc
              by_cases hB : ckB { s' with fuel := s'.fuel - 1, next := s'.next + 1 } R = true
              · have hck : ckS { s' with fuel := s'.fuel - 1, next := s'.next + 1 } R = { s' with fuel := s'.fuel - 1, next := s'.next + 1, heard := wrap64 (s'.heard + 1), clock := R.n } := by
                  have hb2 := hB
                  unfold ckB at hb2
                  simp only [Bool.and_eq_true, decide_eq_true_eq, Bool.not_eq_true', decide_eq_false_iff_not] at hb2
                  unfold ckS
                  rw [if_pos hb2.1, if_neg hb2.2]
                rw [hck] at hc
                have HC := hide hc
                have HCK := hide hck
                have HRR := hide hR
                have HBB := hide hB
                clear hc hck hR hB
                go_wp2_with fail
                go_at_call 127
                refine (unhide HC).mono ?_
                rintro e w3 ⟨rfl, S3, pv3, T3, p1, p0, p2⟩
                have P1 := hide p1
                have P2 := hide p2
                have P0q := hide (show ∀ i, i < 3 → pv3 i = pv i from fun i hi => (p0 i hi).trans (unhide Q0 i hi))
                have gg := (p2.same wr.heap.size hpl (unhide HPS)).trans (unhide HPB)
                have k27 : w3.cell? ⟨b, 27, none⟩ = some (.int .i64 0) := (p1.cell 27 (by omega)).trans (by rw [limg_fin]; exact congrArg (fun z => some (Value.int .i64 z)) (unhide HFI))
                have k14 := (p1.cell 14 (by omega)).trans (by rw [limg_clock])
                change w3.cell? _ = some (.int .i64 R.n) at k14
                have cr := (p1.cell (10 + a.toNat) (by omega)).trans (by rw [limg_reg _ _ _ _ _ _ (by omega)])
                have fr := p1.free (10 + a.toNat) (by omega)
                have hb3 := p1.blt
                clear p1 p2 p0 HC
                go_wp2
                refine wp_region_held_drew (S := fun w' => w'.heap[wr.heap.size]? = some (.cells #[.int .i64 7, .int .i64 a, .int .i64 v] 70) ∧ w'.cell? ⟨b, 14, none⟩ = some (.int .i64 R.n)) (by kernel_rfl) ?_ (fun hHeld => ?_)
                · exact ⟨gg, k14⟩
                refine wpAnyH_take (i := 0) (oi := { dst := some 121, op := Op.move (Operand.tmp 0), type := 177, pos := "run.go:230", after := #[], guard := none }) (v := ?_) rfl (by kernel_rfl) (by kernel_rfl) (by kernel_rfl) (fun _ _ _ h => h) (Or.inl ⟨by rfl, ?_⟩) (by assumption) ?_
                rotate_left
                · intro w hSw; obtain ⟨hS1, hS2⟩ := hSw; have cP := fun j => cell_of_row w _ j _ 70 (0, 0) hS1; go_simp; try with_reducible rfl
                simp only [Act.put, List.setIfInBounds_toArray, List.set_cons_zero, List.set_cons_succ]
                refine wpAnyH_take (i := 1) (oi := { dst := some 122, op := Op.fieldAddr 70 (Operand.tmp 5) 1, type := 0, pos := "run.go:230", after := #[], guard := none }) (v := ?_) rfl (by kernel_rfl) (by kernel_rfl) (by kernel_rfl) (fun _ _ _ h => h) (Or.inl ⟨by rfl, ?_⟩) (by assumption) ?_
                rotate_left
                · intro w hSw; obtain ⟨hS1, hS2⟩ := hSw; have cP := fun j => cell_of_row w _ j _ 70 (0, 0) hS1; go_simp; try with_reducible rfl
                simp only [Act.put, List.setIfInBounds_toArray, List.set_cons_zero, List.set_cons_succ]
                refine wpAnyH_take (i := 2) (oi := { dst := some 123, op := Op.load 3 (Operand.tmp 122), type := 3, pos := "run.go:230", after := #[{ on := 1, ground := Ground.data }], guard := none }) (v := ?_) rfl (by kernel_rfl) (by kernel_rfl) (by kernel_rfl) (fun _ _ _ h => h) (Or.inl ⟨by rfl, ?_⟩) (by assumption) ?_
                rotate_left
                · intro w hSw; obtain ⟨hS1, hS2⟩ := hSw; have cP := fun j => cell_of_row w _ j _ 70 (0, 0) hS1; go_simp; try with_reducible rfl
                simp only [Act.put, List.setIfInBounds_toArray, List.set_cons_zero, List.set_cons_succ]
                refine wpAnyH_take (i := 3) (oi := { dst := some 124, op := Op.move (Operand.tmp 0), type := 177, pos := "run.go:230", after := #[], guard := none }) (v := ?_) rfl (by kernel_rfl) (by kernel_rfl) (by kernel_rfl) (fun _ _ _ h => h) (Or.inl ⟨by rfl, ?_⟩) (by assumption) ?_
                rotate_left
                · intro w hSw; obtain ⟨hS1, hS2⟩ := hSw; have cP := fun j => cell_of_row w _ j _ 70 (0, 0) hS1; go_simp; try with_reducible rfl
                simp only [Act.put, List.setIfInBounds_toArray, List.set_cons_zero, List.set_cons_succ]
                refine wpAnyH_take (i := 4) (oi := { dst := some 125, op := Op.nilCheck (Operand.tmp 124), type := 0, pos := "run.go:230", after := #[{ on := 3, ground := Ground.data }], guard := none }) (v := ?_) rfl (by kernel_rfl) (by kernel_rfl) (by kernel_rfl) (fun _ _ _ h => h) (Or.inl ⟨by rfl, ?_⟩) (by assumption) ?_
                rotate_left
                · intro w hSw; obtain ⟨hS1, hS2⟩ := hSw; have cP := fun j => cell_of_row w _ j _ 70 (0, 0) hS1; go_simp; try with_reducible rfl
                simp only [Act.put, List.setIfInBounds_toArray, List.set_cons_zero, List.set_cons_succ]
                refine wpAnyH_take (i := 5) (oi := { dst := some 126, op := Op.fieldAddr 180 (Operand.tmp 125) 6, type := 0, pos := "run.go:230", after := #[{ on := 4, ground := Ground.data }], guard := none }) (v := ?_) rfl (by kernel_rfl) (by kernel_rfl) (by kernel_rfl) (fun _ _ _ h => h) (Or.inl ⟨by rfl, ?_⟩) (by assumption) ?_
                rotate_left
                · intro w hSw; obtain ⟨hS1, hS2⟩ := hSw; have cP := fun j => cell_of_row w _ j _ 70 (0, 0) hS1; go_simp; try with_reducible rfl
                simp only [Act.put, List.setIfInBounds_toArray, List.set_cons_zero, List.set_cons_succ]
                refine wpAnyH_take (i := 6) (oi := { dst := some 127, op := Op.load 3 (Operand.tmp 126), type := 3, pos := "run.go:230", after := #[{ on := 5, ground := Ground.data }], guard := none }) (v := ?_) rfl (by kernel_rfl) (by kernel_rfl) (by kernel_rfl) (fun _ _ _ h => h) (Or.inl ⟨by rfl, ?_⟩) (by assumption) ?_
                rotate_left
                · intro w hSw; obtain ⟨hS1, hS2⟩ := hSw; have cP := fun j => cell_of_row w _ j _ 70 (0, 0) hS1; go_simp; try with_reducible rfl
                simp only [Act.put, List.setIfInBounds_toArray, List.set_cons_zero, List.set_cons_succ]
                refine wpAnyH_take (i := 7) (oi := { dst := some 128, op := Op.nilCheck (Operand.tmp 121), type := 0, pos := "run.go:230", after := #[{ on := 0, ground := Ground.data }], guard := none }) (v := ?_) rfl (by kernel_rfl) (by kernel_rfl) (by kernel_rfl) (fun _ _ _ h => h) (Or.inl ⟨by rfl, ?_⟩) (by assumption) ?_
                rotate_left
                · intro w hSw; obtain ⟨hS1, hS2⟩ := hSw; have cP := fun j => cell_of_row w _ j _ 70 (0, 0) hS1; go_simp; try with_reducible rfl
                simp only [Act.put, List.setIfInBounds_toArray, List.set_cons_zero, List.set_cons_succ]
                refine wpAnyH_take (i := 8) (oi := { dst := some 129, op := Op.fieldAddr 180 (Operand.tmp 128) 5, type := 0, pos := "run.go:230", after := #[{ on := 7, ground := Ground.data }], guard := none }) (v := ?_) rfl (by kernel_rfl) (by kernel_rfl) (by kernel_rfl) (fun _ _ _ h => h) (Or.inl ⟨by rfl, ?_⟩) (by assumption) ?_
                rotate_left
                · intro w hSw; obtain ⟨hS1, hS2⟩ := hSw; have cP := fun j => cell_of_row w _ j _ 70 (0, 0) hS1; go_simp; try with_reducible rfl
                simp only [Act.put, List.setIfInBounds_toArray, List.set_cons_zero, List.set_cons_succ]
                refine wpAnyH_take (i := 9) (oi := { dst := some 130, op := Op.indexAddr 35 (Operand.tmp 129) (Operand.tmp 123), type := 0, pos := "run.go:230", after := #[{ on := 8, ground := Ground.data }, { on := 2, ground := Ground.data }, { on := 0, ground := Ground.phase }, { on := 1, ground := Ground.phase }, { on := 2, ground := Ground.phase }, { on := 3, ground := Ground.phase }, { on := 4, ground := Ground.phase }, { on := 5, ground := Ground.phase }, { on := 6, ground := Ground.phase }], guard := none }) (v := ?_) rfl (by kernel_rfl) (by kernel_rfl) (by kernel_rfl) (fun _ _ _ h => h) (Or.inl ⟨by rfl, ?_⟩) (by assumption) ?_
                rotate_left
                · intro w hSw; obtain ⟨hS1, hS2⟩ := hSw; have cP := fun j => cell_of_row w _ j _ 70 (0, 0) hS1; go_simp; try with_reducible rfl
                simp only [Act.put, List.setIfInBounds_toArray, List.set_cons_zero, List.set_cons_succ]
                refine wpAnyH_ready (rs := [10]) (by kernel_rfl) (by simp) ?_
                refine AllReadyH.cons (o := { dst := none, op := Op.store 2 (Operand.tmp 130) (Operand.tmp 127), type := 0, pos := "run.go:230", after := #[{ on := 9, ground := Ground.data }, { on := 6, ground := Ground.data }, { on := 0, ground := Ground.phase }, { on := 1, ground := Ground.phase }, { on := 2, ground := Ground.phase }, { on := 3, ground := Ground.phase }, { on := 4, ground := Ground.phase }, { on := 5, ground := Ground.phase }, { on := 6, ground := Ground.phase }], guard := none }) rfl (fun K' hK' => ?_) AllReadyH.nil
                go_simp
                refine hK'.out _ _ ?_ (fun hHeld => ?_)
                · exact ⟨(Below.heap_setCell _ _ _ _ hnP).trans gg, (((unhide P1).cells.set (10 + a.toNat) (.int .i64 R.n) (by omega)) 14 (by omega)).1.trans (by unfold setC; rw [if_neg (by omega), limg_clock])⟩
                clear hK' K'
                try simp only [Act.put, List.setIfInBounds_toArray, List.set_cons_zero, List.set_cons_succ]
                refine wpAnyH_done (by kernel_rfl) ?_ _
                go_wp2
                go_roundg k'
                case rel =>
                  have e3 := unhide E
                  have e4 := unhide HNV
                  rw [show opM ask (7, a, v) { s' with fuel := s'.fuel - 1, next := s'.next + 1 } x' = ({ s' with fuel := s'.fuel - 1, next := s'.next + 1, heard := wrap64 (s'.heard + 1), clock := R.n, reg := upd s'.reg a.toNat R.n }, x2) from by simp only [opM, unhide HRR]; simp only [unhide HBB]; simp [unhide HCK]] at e3 e4
                  exact qrel_next (((unhide P1).set L (10 + a.toNat) (.int .i64 R.n) _ (by omega) (lset_reg a.toNat R.n (by omega)) rfl ((unhide P1).rel.of rfl rfl) rfl).drew L) (unhide P0q) ((((unhide Q2).trans (unhide P2)).setCell _ _ (unhide HSb)).drew) e3 e4 (by show _ = Value.int .i64 (s'.next + 1); go_num) (.inl rfl) e1 e2 hn q7
                case measure => omega
              · have hnx : (ckS { s' with fuel := s'.fuel - 1, next := s'.next + 1 } R).next = s'.next + 1 := ckS_next _ _
                have hne : (ckS { s' with fuel := s'.fuel - 1, next := s'.next + 1 } R).fin ≠ 0 := by
                  unfold ckB at hB
                  unfold ckS
                  by_cases he : R.e = 0
                  · by_cases hl : R.n < s'.clock
                    · rw [if_pos he, if_pos hl]; show (4 : Int) ≠ 0; omega
                    · refine absurd ?_ hB; simp [he]; exact Int.not_lt.1 hl
                  · rw [if_neg he]; exact he
                have hop : opM ask (7, a, v) { s' with fuel := s'.fuel - 1, next := s'.next + 1 } x' = (ckS { s' with fuel := s'.fuel - 1, next := s'.next + 1 } R, x2) := by
                  simp only [opM, hR]
                  simp [hB]
                generalize hsk : ckS { s' with fuel := s'.fuel - 1, next := s'.next + 1 } R = sk at *
                have hnb : (sk.fin == 0) = false := by simpa using hne
                have HC := hide hc
                have HOP := hide hop
                have HNXX := hide hnx
                clear hc hR hB hsk hop hnx
                go_wp2_with fail
                go_at_call 127
                refine (unhide HC).mono ?_
                rintro e w3 ⟨rfl, S3, pv3, T3, p1, p0, p2⟩
                have P1 := hide p1
                have P2 := hide p2
                have P0q := hide (show ∀ i, i < 3 → pv3 i = pv i from fun i hi => (p0 i hi).trans (unhide Q0 i hi))
                have k27 := (p1.cell 27 (by omega)).trans (by rw [limg_fin])
                clear p1 p2 p0 HC
                go_wp2
                go_roundg k'
                case rel =>
                  have e3 := unhide E
                  have e4 := unhide HNV
                  rw [unhide HOP] at e3 e4
                  exact qrel_next (unhide P1) (unhide P0q) ((unhide Q2).trans (unhide P2)) e3 e4 (by rw [unhide HNXX]) (.inl (unhide HNXX)) e1 e2 hn q7
                case measure => omega
          · as_aux_lemma =>
              obtain ⟨r1, r2⟩ := right_reg (show rightB 8 a v nt nf = true from unhide HRT) (by omega)
              obtain ⟨r3, r4⟩ := right_lot (show rightB 8 a v nt nf = true from unhide HRT)
              have hc := K.calls (unhide H2) (unhide HFI) (hm4 v r3 r4)
              obtain ⟨R, x2, hR⟩ : ∃ R x2, ask x' 4 v = (R, x2) := ⟨_, _, rfl⟩
              rw [hR] at hc
              dsimp only at hc
              by_cases he : R.e = 0
              · have hhs : hearS { s' with fuel := s'.fuel - 1, next := s'.next + 1 } R = { s' with fuel := s'.fuel - 1, next := s'.next + 1, heard := wrap64 (s'.heard + 1) } := by unfold hearS; rw [if_pos he]
                have hop : opM ask (8, a, v) { s' with fuel := s'.fuel - 1, next := s'.next + 1 } x' = ({ s' with fuel := s'.fuel - 1, next := s'.next + 1, heard := wrap64 (s'.heard + 1), reg := upd s'.reg a.toNat R.n }, x2) := by
                  simp only [opM, hR]
                  simp [lotS, he]
                rw [hhs] at hc
                have HC := hide hc
                have HOP := hide hop
                have HE := hide he
                clear hc hhs hR hop he
                go_wp2_with fail
                go_at_call 141
                refine (unhide HC).mono ?_
                rintro e w3 ⟨kd, of_, rn, fa, fl, fc, rfl, ⟨S3, pv3, T3, p1, p0, p2⟩, hn3⟩
                obtain ⟨hn4, _⟩ := hn3 (unhide HE)
                subst hn4
                have p1a := p1.alloc L (.cells #[.int .i64 kd, .int .i64 of_, .int .i64 R.n, .slice fa fl fc] 49)
                have P1 := hide p1a
                have P2 := hide (p2.alloc (.cells #[.int .i64 kd, .int .i64 of_, .int .i64 R.n, .slice fa fl fc] 49))
                have P0q := hide (show ∀ i, i < 3 → pv3 i = pv i from fun i hi => (p0 i hi).trans (unhide Q0 i hi))
                have hb3 := p1.blt
                have gg := (Below.heap_alloc w3 (.cells #[.int .i64 kd, .int .i64 of_, .int .i64 R.n, .slice fa fl fc] 49) _ (Nat.lt_of_lt_of_le hpl p2.size)).trans ((p2.same wr.heap.size hpl (unhide HPS)).trans (unhide HPB))
                have g49 := heap_alloc_new w3 (.cells #[.int .i64 kd, .int .i64 of_, .int .i64 R.n, .slice fa fl fc] 49)
                have k27 : w3.cell? ⟨b, 27, none⟩ = some (.int .i64 0) := (p1.cell 27 (by omega)).trans (by rw [limg_fin]; exact congrArg (fun z => some (Value.int .i64 z)) (unhide HFI))
                have hn5 : w3.heap.size ≠ b := by omega
                have hn6 : ¬ b = w3.heap.size := by omega
                clear p1 p1a p2 p0 HC hn3
                go_wp2
                generalize hW3 : w3.alloc (.cells #[.int .i64 kd, .int .i64 of_, .int .i64 R.n, .slice fa fl fc] 49) = W3 at *
                clear hW3
                have cr := ((unhide P1).cell (10 + a.toNat) (by omega)).trans (by rw [limg_reg _ _ _ _ _ _ (by omega)])
                have fr := (unhide P1).free (10 + a.toNat) (by omega)
                refine wp_region_held_drew (S := fun w' => w'.heap[wr.heap.size]? = some (.cells #[.int .i64 8, .int .i64 a, .int .i64 v] 70) ∧ w'.heap[w3.heap.size]? = some (.cells #[.int .i64 kd, .int .i64 of_, .int .i64 R.n, .slice fa fl fc] 49)) (by kernel_rfl) ?_ (fun hHeld => ?_)
                · exact ⟨gg, g49⟩
                refine wpAnyH_take (i := 0) (oi := { dst := some 142, op := Op.move (Operand.tmp 0), type := 177, pos := "run.go:235", after := #[], guard := none }) (v := ?_) rfl (by kernel_rfl) (by kernel_rfl) (by kernel_rfl) (fun _ _ _ h => h) (Or.inl ⟨by rfl, ?_⟩) (by assumption) ?_
                rotate_left
                · intro w hSw; obtain ⟨hS1, hS2⟩ := hSw; have cP := fun j => cell_of_row w _ j _ 70 (0, 0) hS1; have cQ := fun j => cell_of_row w _ j _ 49 (0, 0) hS2; go_simp; try with_reducible rfl
                simp only [Act.put, List.setIfInBounds_toArray, List.set_cons_zero, List.set_cons_succ]
                refine wpAnyH_take (i := 1) (oi := { dst := some 143, op := Op.fieldAddr 70 (Operand.tmp 5) 1, type := 0, pos := "run.go:235", after := #[], guard := none }) (v := ?_) rfl (by kernel_rfl) (by kernel_rfl) (by kernel_rfl) (fun _ _ _ h => h) (Or.inl ⟨by rfl, ?_⟩) (by assumption) ?_
                rotate_left
                · intro w hSw; obtain ⟨hS1, hS2⟩ := hSw; have cP := fun j => cell_of_row w _ j _ 70 (0, 0) hS1; have cQ := fun j => cell_of_row w _ j _ 49 (0, 0) hS2; go_simp; try with_reducible rfl
                simp only [Act.put, List.setIfInBounds_toArray, List.set_cons_zero, List.set_cons_succ]
                refine wpAnyH_take (i := 2) (oi := { dst := some 144, op := Op.load 3 (Operand.tmp 143), type := 3, pos := "run.go:235", after := #[{ on := 1, ground := Ground.data }], guard := none }) (v := ?_) rfl (by kernel_rfl) (by kernel_rfl) (by kernel_rfl) (fun _ _ _ h => h) (Or.inl ⟨by rfl, ?_⟩) (by assumption) ?_
                rotate_left
                · intro w hSw; obtain ⟨hS1, hS2⟩ := hSw; have cP := fun j => cell_of_row w _ j _ 70 (0, 0) hS1; have cQ := fun j => cell_of_row w _ j _ 49 (0, 0) hS2; go_simp; try with_reducible rfl
                simp only [Act.put, List.setIfInBounds_toArray, List.set_cons_zero, List.set_cons_succ]
                refine wpAnyH_take (i := 3) (oi := { dst := some 145, op := Op.fieldAddr 49 (Operand.tmp 6) 2, type := 0, pos := "run.go:235", after := #[], guard := none }) (v := ?_) rfl (by kernel_rfl) (by kernel_rfl) (by kernel_rfl) (fun _ _ _ h => h) (Or.inl ⟨by rfl, ?_⟩) (by assumption) ?_
                rotate_left
                · intro w hSw; obtain ⟨hS1, hS2⟩ := hSw; have cP := fun j => cell_of_row w _ j _ 70 (0, 0) hS1; have cQ := fun j => cell_of_row w _ j _ 49 (0, 0) hS2; go_simp; try with_reducible rfl
                simp only [Act.put, List.setIfInBounds_toArray, List.set_cons_zero, List.set_cons_succ]
                refine wpAnyH_take (i := 4) (oi := { dst := some 146, op := Op.load 3 (Operand.tmp 145), type := 3, pos := "run.go:235", after := #[{ on := 3, ground := Ground.data }], guard := none }) (v := ?_) rfl (by kernel_rfl) (by kernel_rfl) (by kernel_rfl) (fun _ _ _ h => h) (Or.inl ⟨by rfl, ?_⟩) (by assumption) ?_
                rotate_left
                · intro w hSw; obtain ⟨hS1, hS2⟩ := hSw; have cP := fun j => cell_of_row w _ j _ 70 (0, 0) hS1; have cQ := fun j => cell_of_row w _ j _ 49 (0, 0) hS2; go_simp; try with_reducible rfl
                simp only [Act.put, List.setIfInBounds_toArray, List.set_cons_zero, List.set_cons_succ]
                refine wpAnyH_take (i := 5) (oi := { dst := some 147, op := Op.nilCheck (Operand.tmp 142), type := 0, pos := "run.go:235", after := #[{ on := 0, ground := Ground.data }], guard := none }) (v := ?_) rfl (by kernel_rfl) (by kernel_rfl) (by kernel_rfl) (fun _ _ _ h => h) (Or.inl ⟨by rfl, ?_⟩) (by assumption) ?_
                rotate_left
                · intro w hSw; obtain ⟨hS1, hS2⟩ := hSw; have cP := fun j => cell_of_row w _ j _ 70 (0, 0) hS1; have cQ := fun j => cell_of_row w _ j _ 49 (0, 0) hS2; go_simp; try with_reducible rfl
                simp only [Act.put, List.setIfInBounds_toArray, List.set_cons_zero, List.set_cons_succ]
                refine wpAnyH_take (i := 6) (oi := { dst := some 148, op := Op.fieldAddr 180 (Operand.tmp 147) 5, type := 0, pos := "run.go:235", after := #[{ on := 5, ground := Ground.data }], guard := none }) (v := ?_) rfl (by kernel_rfl) (by kernel_rfl) (by kernel_rfl) (fun _ _ _ h => h) (Or.inl ⟨by rfl, ?_⟩) (by assumption) ?_
                rotate_left
                · intro w hSw; obtain ⟨hS1, hS2⟩ := hSw; have cP := fun j => cell_of_row w _ j _ 70 (0, 0) hS1; have cQ := fun j => cell_of_row w _ j _ 49 (0, 0) hS2; go_simp; try with_reducible rfl
                simp only [Act.put, List.setIfInBounds_toArray, List.set_cons_zero, List.set_cons_succ]
                refine wpAnyH_take (i := 7) (oi := { dst := some 149, op := Op.indexAddr 35 (Operand.tmp 148) (Operand.tmp 144), type := 0, pos := "run.go:235", after := #[{ on := 6, ground := Ground.data }, { on := 2, ground := Ground.data }, { on := 0, ground := Ground.phase }, { on := 1, ground := Ground.phase }, { on := 2, ground := Ground.phase }, { on := 3, ground := Ground.phase }, { on := 4, ground := Ground.phase }], guard := none }) (v := ?_) rfl (by kernel_rfl) (by kernel_rfl) (by kernel_rfl) (fun _ _ _ h => h) (Or.inl ⟨by rfl, ?_⟩) (by assumption) ?_
                rotate_left
                · intro w hSw; obtain ⟨hS1, hS2⟩ := hSw; have cP := fun j => cell_of_row w _ j _ 70 (0, 0) hS1; have cQ := fun j => cell_of_row w _ j _ 49 (0, 0) hS2; go_simp; try with_reducible rfl
                simp only [Act.put, List.setIfInBounds_toArray, List.set_cons_zero, List.set_cons_succ]
                refine wpAnyH_ready (rs := [8]) (by kernel_rfl) (by simp) ?_
                refine AllReadyH.cons (o := { dst := none, op := Op.store 2 (Operand.tmp 149) (Operand.tmp 146), type := 0, pos := "run.go:235", after := #[{ on := 7, ground := Ground.data }, { on := 4, ground := Ground.data }, { on := 0, ground := Ground.phase }, { on := 1, ground := Ground.phase }, { on := 2, ground := Ground.phase }, { on := 3, ground := Ground.phase }, { on := 4, ground := Ground.phase }], guard := none }) rfl (fun K' hK' => ?_) AllReadyH.nil
                go_simp
                refine hK'.out _ _ ?_ (fun hHeld => ?_)
                · exact ⟨(Below.heap_setCell _ _ _ _ hnP).trans gg, (Below.heap_setCell _ _ _ _ hn5).trans g49⟩
                clear hK' K'
                try simp only [Act.put, List.setIfInBounds_toArray, List.set_cons_zero, List.set_cons_succ]
                refine wpAnyH_done (by kernel_rfl) ?_ _
                go_wp2
                go_roundg k'
                case rel =>
                  have e3 := unhide E
                  have e4 := unhide HNV
                  rw [unhide HOP] at e3 e4
                  exact qrel_next (((unhide P1).set L (10 + a.toNat) (.int .i64 R.n) _ (by omega) (lset_reg a.toNat R.n (by omega)) rfl ((unhide P1).rel.of rfl rfl) rfl).drew L) (unhide P0q) ((((unhide Q2).trans (unhide P2)).setCell _ _ (unhide HSb)).drew) e3 e4 (by show _ = Value.int .i64 (s'.next + 1); go_num) (.inl rfl) e1 e2 hn q7
                case measure => omega
              · have hhs : hearS { s' with fuel := s'.fuel - 1, next := s'.next + 1 } R = { s' with fuel := s'.fuel - 1, next := s'.next + 1, fin := R.e } := by unfold hearS; rw [if_neg he]
                have hop : opM ask (8, a, v) { s' with fuel := s'.fuel - 1, next := s'.next + 1 } x' = ({ s' with fuel := s'.fuel - 1, next := s'.next + 1, fin := R.e }, x2) := by
                  simp only [opM, hR]
                  simp [lotS, he]
                have heb : (R.e == 0) = false := by simpa using he
                rw [hhs] at hc
                have HC := hide hc
                have HOP := hide hop
                clear hc hhs hR hop
                go_wp2_with fail
                go_at_call 141
                refine (unhide HC).mono ?_
                rintro e w3 ⟨kd, of_, rn, fa, fl, fc, rfl, ⟨S3, pv3, T3, p1, p0, p2⟩, hn3⟩
                have p1a := p1.alloc L (.cells #[.int .i64 kd, .int .i64 of_, .int .i64 rn, .slice fa fl fc] 49)
                have P1 := hide p1a
                have P2 := hide (p2.alloc (.cells #[.int .i64 kd, .int .i64 of_, .int .i64 rn, .slice fa fl fc] 49))
                have P0q := hide (show ∀ i, i < 3 → pv3 i = pv i from fun i hi => (p0 i hi).trans (unhide Q0 i hi))
                have hb3 := p1.blt
                have k27 := (p1.cell 27 (by omega)).trans (by rw [limg_fin])
                change w3.cell? _ = some (.int .i64 R.e) at k27
                have hn5 : w3.heap.size ≠ b := by omega
                have hn6 : ¬ b = w3.heap.size := by omega
                clear p1 p1a p2 p0 HC hn3
                go_wp2
                go_roundg k'
                case rel =>
                  have e3 := unhide E
                  have e4 := unhide HNV
                  rw [unhide HOP] at e3 e4
                  exact qrel_next (unhide P1) (unhide P0q) ((unhide Q2).trans (unhide P2)) e3 e4 (by show _ = Value.int .i64 (s'.next + 1); go_num) (.inl rfl) e1 e2 hn q7
                case measure => omega
          · as_aux_lemma =>
              obtain ⟨r1, r2⟩ := right_reg (show rightB 9 a v nt nf = true from unhide HRT) (by omega)
              obtain ⟨ta, tc, rfl⟩ := row_shape (unhide H2).row
              go_wp2
              generalize hW2 : ((wr.setCell ⟨b, 25, none⟩ (.int .i64 (s'.fuel - 1))).alloc (.cells #[.int .i64 9, .int .i64 a, .int .i64 v] 70)) = W2 at *
              clear hW2
              have cr := (unhide H2).cell (10 + a.toNat) (by omega)
              rw [limg_reg _ _ _ _ _ _ (by omega)] at cr
              change W2.cell? _ = some (.int .i64 (s'.reg a.toNat)) at cr
              have ct := (unhide H2).cell 26 (by omega)
              rw [limg_trace] at ct
              change W2.cell? _ = some (.slice ta s'.trace.length tc) at ct
              have cq : ∀ o, (W2.alloc o).drew.cell? ⟨b, 10 + a.toNat, none⟩ = some (.int .i64 (s'.reg a.toNat)) := fun o => (((unhide H2).fr L ((Fr.refl _ _).alloc o).drew).cell (10 + a.toNat) (by omega)).trans (by rw [limg_reg _ _ _ _ _ _ (by omega)])
              have tq : ∀ o, (W2.alloc o).drew.cell? ⟨b, 26, none⟩ = some (.slice ta s'.trace.length tc) := fun o => (((unhide H2).fr L ((Fr.refl _ _).alloc o).drew).cell 26 (by omega)).trans (by rw [limg_trace])
              have pq : ∀ o, (W2.alloc o).drew.heap[wr.heap.size]? = some (.cells #[.int .i64 9, .int .i64 a, .int .i64 v] 70) := fun o => (Below.heap_alloc _ _ _ hpl).trans (unhide HPB)
              have hln : s'.trace.length ≤ 100000000 := by have := (unhide HQ).trace; omega
              refine wp_region_held_drew (S := fun w' => w'.heap[wr.heap.size]? = some (.cells #[.int .i64 9, .int .i64 a, .int .i64 v] 70) ∧ w'.cell? ⟨b, 10 + a.toNat, none⟩ = some (.int .i64 (s'.reg a.toNat))) (by kernel_rfl) ?_ (fun hHeld => ?_)
              · exact ⟨unhide HPB, cr⟩
              refine wpAnyH_take (i := 0) (oi := { dst := some 152, op := Op.move (Operand.tmp 0), type := 177, pos := "run.go:238", after := #[], guard := none }) (v := ?_) rfl (by kernel_rfl) (by kernel_rfl) (by kernel_rfl) (fun _ _ _ h => h) (Or.inl ⟨by rfl, ?_⟩) (by assumption) ?_
              rotate_left
              · intro w hSw; obtain ⟨hS1, hS2⟩ := hSw; have cP := fun j => cell_of_row w _ j _ 70 (0, 0) hS1; go_simp; try with_reducible rfl
              simp only [Act.put, List.setIfInBounds_toArray, List.set_cons_zero, List.set_cons_succ]
              refine wpAnyH_take (i := 1) (oi := { dst := some 153, op := Op.move (Operand.tmp 0), type := 177, pos := "run.go:238", after := #[], guard := none }) (v := ?_) rfl (by kernel_rfl) (by kernel_rfl) (by kernel_rfl) (fun _ _ _ h => h) (Or.inl ⟨by rfl, ?_⟩) (by assumption) ?_
              rotate_left
              · intro w hSw; obtain ⟨hS1, hS2⟩ := hSw; have cP := fun j => cell_of_row w _ j _ 70 (0, 0) hS1; go_simp; try with_reducible rfl
              simp only [Act.put, List.setIfInBounds_toArray, List.set_cons_zero, List.set_cons_succ]
              refine wpAnyH_take (i := 2) (oi := { dst := some 154, op := Op.nilCheck (Operand.tmp 153), type := 0, pos := "run.go:238", after := #[{ on := 1, ground := Ground.data }], guard := none }) (v := ?_) rfl (by kernel_rfl) (by kernel_rfl) (by kernel_rfl) (fun _ _ _ h => h) (Or.inl ⟨by rfl, ?_⟩) (by assumption) ?_
              rotate_left
              · intro w hSw; obtain ⟨hS1, hS2⟩ := hSw; have cP := fun j => cell_of_row w _ j _ 70 (0, 0) hS1; go_simp; try with_reducible rfl
              simp only [Act.put, List.setIfInBounds_toArray, List.set_cons_zero, List.set_cons_succ]
              refine wpAnyH_take (i := 3) (oi := { dst := some 155, op := Op.fieldAddr 180 (Operand.tmp 154) 11, type := 0, pos := "run.go:238", after := #[{ on := 2, ground := Ground.data }], guard := none }) (v := ?_) rfl (by kernel_rfl) (by kernel_rfl) (by kernel_rfl) (fun _ _ _ h => h) (Or.inl ⟨by rfl, ?_⟩) (by assumption) ?_
              rotate_left
              · intro w hSw; obtain ⟨hS1, hS2⟩ := hSw; have cP := fun j => cell_of_row w _ j _ 70 (0, 0) hS1; go_simp; try with_reducible rfl
              simp only [Act.put, List.setIfInBounds_toArray, List.set_cons_zero, List.set_cons_succ]
              refine wpAnyH_take (i := 5) (oi := { dst := some 157, op := Op.fieldAddr 70 (Operand.tmp 5) 1, type := 0, pos := "run.go:238", after := #[], guard := none }) (v := ?_) rfl (by kernel_rfl) (by kernel_rfl) (by kernel_rfl) (fun _ _ _ h => h) (Or.inl ⟨by rfl, ?_⟩) (by assumption) ?_
              rotate_left
              · intro w hSw; obtain ⟨hS1, hS2⟩ := hSw; have cP := fun j => cell_of_row w _ j _ 70 (0, 0) hS1; go_simp; try with_reducible rfl
              simp only [Act.put, List.setIfInBounds_toArray, List.set_cons_zero, List.set_cons_succ]
              refine wpAnyH_take (i := 6) (oi := { dst := some 158, op := Op.load 3 (Operand.tmp 157), type := 3, pos := "run.go:238", after := #[{ on := 5, ground := Ground.data }], guard := none }) (v := ?_) rfl (by kernel_rfl) (by kernel_rfl) (by kernel_rfl) (fun _ _ _ h => h) (Or.inl ⟨by rfl, ?_⟩) (by assumption) ?_
              rotate_left
              · intro w hSw; obtain ⟨hS1, hS2⟩ := hSw; have cP := fun j => cell_of_row w _ j _ 70 (0, 0) hS1; go_simp; try with_reducible rfl
              simp only [Act.put, List.setIfInBounds_toArray, List.set_cons_zero, List.set_cons_succ]
              refine wpAnyH_take (i := 7) (oi := { dst := some 159, op := Op.move (Operand.tmp 0), type := 177, pos := "run.go:238", after := #[], guard := none }) (v := ?_) rfl (by kernel_rfl) (by kernel_rfl) (by kernel_rfl) (fun _ _ _ h => h) (Or.inl ⟨by rfl, ?_⟩) (by assumption) ?_
              rotate_left
              · intro w hSw; obtain ⟨hS1, hS2⟩ := hSw; have cP := fun j => cell_of_row w _ j _ 70 (0, 0) hS1; go_simp; try with_reducible rfl
              simp only [Act.put, List.setIfInBounds_toArray, List.set_cons_zero, List.set_cons_succ]
              refine wpAnyH_take (i := 8) (oi := { dst := some 160, op := Op.fieldAddr 70 (Operand.tmp 5) 1, type := 0, pos := "run.go:238", after := #[], guard := none }) (v := ?_) rfl (by kernel_rfl) (by kernel_rfl) (by kernel_rfl) (fun _ _ _ h => h) (Or.inl ⟨by rfl, ?_⟩) (by assumption) ?_
              rotate_left
              · intro w hSw; obtain ⟨hS1, hS2⟩ := hSw; have cP := fun j => cell_of_row w _ j _ 70 (0, 0) hS1; go_simp; try with_reducible rfl
              simp only [Act.put, List.setIfInBounds_toArray, List.set_cons_zero, List.set_cons_succ]
              refine wpAnyH_take (i := 9) (oi := { dst := some 161, op := Op.load 3 (Operand.tmp 160), type := 3, pos := "run.go:238", after := #[{ on := 8, ground := Ground.data }], guard := none }) (v := ?_) rfl (by kernel_rfl) (by kernel_rfl) (by kernel_rfl) (fun _ _ _ h => h) (Or.inl ⟨by rfl, ?_⟩) (by assumption) ?_
              rotate_left
              · intro w hSw; obtain ⟨hS1, hS2⟩ := hSw; have cP := fun j => cell_of_row w _ j _ 70 (0, 0) hS1; go_simp; try with_reducible rfl
              simp only [Act.put, List.setIfInBounds_toArray, List.set_cons_zero, List.set_cons_succ]
              refine wpAnyH_take (i := 10) (oi := { dst := some 162, op := Op.nilCheck (Operand.tmp 159), type := 0, pos := "run.go:238", after := #[{ on := 7, ground := Ground.data }], guard := none }) (v := ?_) rfl (by kernel_rfl) (by kernel_rfl) (by kernel_rfl) (fun _ _ _ h => h) (Or.inl ⟨by rfl, ?_⟩) (by assumption) ?_
              rotate_left
              · intro w hSw; obtain ⟨hS1, hS2⟩ := hSw; have cP := fun j => cell_of_row w _ j _ 70 (0, 0) hS1; go_simp; try with_reducible rfl
              simp only [Act.put, List.setIfInBounds_toArray, List.set_cons_zero, List.set_cons_succ]
              refine wpAnyH_take (i := 11) (oi := { dst := some 163, op := Op.fieldAddr 180 (Operand.tmp 162) 5, type := 0, pos := "run.go:238", after := #[{ on := 10, ground := Ground.data }], guard := none }) (v := ?_) rfl (by kernel_rfl) (by kernel_rfl) (by kernel_rfl) (fun _ _ _ h => h) (Or.inl ⟨by rfl, ?_⟩) (by assumption) ?_
              rotate_left
              · intro w hSw; obtain ⟨hS1, hS2⟩ := hSw; have cP := fun j => cell_of_row w _ j _ 70 (0, 0) hS1; go_simp; try with_reducible rfl
              simp only [Act.put, List.setIfInBounds_toArray, List.set_cons_zero, List.set_cons_succ]
              refine wpAnyH_take (i := 12) (oi := { dst := some 164, op := Op.indexAddr 35 (Operand.tmp 163) (Operand.tmp 161), type := 0, pos := "run.go:238", after := #[{ on := 11, ground := Ground.data }, { on := 9, ground := Ground.data }], guard := none }) (v := ?_) rfl (by kernel_rfl) (by kernel_rfl) (by kernel_rfl) (fun _ _ _ h => h) (Or.inl ⟨by rfl, ?_⟩) (by assumption) ?_
              rotate_left
              · intro w hSw; obtain ⟨hS1, hS2⟩ := hSw; have cP := fun j => cell_of_row w _ j _ 70 (0, 0) hS1; go_simp; try with_reducible rfl
              simp only [Act.put, List.setIfInBounds_toArray, List.set_cons_zero, List.set_cons_succ]
              refine wpAnyH_take (i := 13) (oi := { dst := some 165, op := Op.load 2 (Operand.tmp 164), type := 2, pos := "run.go:238", after := #[{ on := 12, ground := Ground.data }], guard := none }) (v := ?_) rfl (by kernel_rfl) (by kernel_rfl) (by kernel_rfl) (fun _ _ _ h => h) (Or.inl ⟨by rfl, ?_⟩) (by assumption) ?_
              rotate_left
              · intro w hSw; obtain ⟨hS1, hS2⟩ := hSw; have cP := fun j => cell_of_row w _ j _ 70 (0, 0) hS1; go_simp; try with_reducible rfl
              simp only [Act.put, List.setIfInBounds_toArray, List.set_cons_zero, List.set_cons_succ]
              refine wpAnyH_take (i := 14) (oi := { dst := some 166, op := Op.build 72 #[(0, Operand.const (Value.int IntKind.i64 3)), (1, Operand.tmp 158), (2, Operand.tmp 165)], type := 72, pos := "run.go:238", after := #[{ on := 6, ground := Ground.data }, { on := 13, ground := Ground.data }], guard := none }) (v := ?_) rfl (by kernel_rfl) (by kernel_rfl) (by kernel_rfl) (fun _ _ _ h => h) (Or.inl ⟨by rfl, ?_⟩) (by assumption) ?_
              rotate_left
              · intro w hSw; obtain ⟨hS1, hS2⟩ := hSw; have cP := fun j => cell_of_row w _ j _ 70 (0, 0) hS1; go_simp; try with_reducible rfl
              simp only [Act.put, List.setIfInBounds_toArray, List.set_cons_zero, List.set_cons_succ]
              refine wpAnyH_ready (rs := [4, 15]) (by kernel_rfl) (by simp) ?_
              refine AllReadyH.cons (o := { dst := some 156, op := Op.load 34 (Operand.tmp 155), type := 34, pos := "run.go:238", after := #[{ on := 3, ground := Ground.data }], guard := none }) rfl (fun K' hK' => ?_) (AllReadyH.cons (o := { dst := some 167, op := Op.buildSlice 34 1 #[(0, Operand.tmp 166)], type := 34, pos := "run.go:238", after := #[{ on := 14, ground := Ground.data }], guard := none }) rfl (fun K' hK' => ?_) AllReadyH.nil)
              · go_simp
                refine hK'.out _ _ ?_ (fun hHeld => ?_)
                · exact ⟨unhide HPB, cr⟩
                clear hK' K'
                try simp only [Act.put, List.setIfInBounds_toArray, List.set_cons_zero, List.set_cons_succ]
                refine wpAnyH_ready (rs := [15]) (by kernel_rfl) (by simp) ?_
                refine AllReadyH.cons (o := { dst := some 167, op := Op.buildSlice 34 1 #[(0, Operand.tmp 166)], type := 34, pos := "run.go:238", after := #[{ on := 14, ground := Ground.data }], guard := none }) rfl (fun K' hK' => ?_) AllReadyH.nil
                go_simp
                refine hK'.out _ _ ?_ (fun hHeld => ?_)
                · exact ⟨pq _, cq _⟩
                clear hK' K'
                try simp only [Act.put, List.setIfInBounds_toArray, List.set_cons_zero, List.set_cons_succ]
                refine wpAnyH_ready (rs := [16]) (by kernel_rfl) (by simp) ?_
                refine AllReadyH.cons (o := { dst := some 168, op := Op.call { callee := Callee.builtin Builtin.append, args := #[Operand.tmp 156, Operand.tmp 167], argTypes := #[34, 34] }, type := 34, pos := "run.go:238", after := #[{ on := 4, ground := Ground.data }, { on := 15, ground := Ground.data }], guard := none }) rfl (fun K' hK' => ?_) AllReadyH.nil
                refine step_grown (d := 168) rfl elemE (by decide) (by decide) (v := .slice ta s'.trace.length tc) (n := s'.trace.length) (m := 1) (xs := flatE s'.trace) (news := [.int .i64 3, .int .i64 a, .int .i64 (s'.reg a.toNat)]) (B := B) (ad := ⟨W2.heap.size, 0, none⟩) (cap := 1) rfl (.tmp 156) (.tmp 167) rfl rfl rfl ((unhide H2).fr L ((Fr.refl _ _).alloc (.cells #[.int .i64 3, .int .i64 a, .int .i64 (s'.reg a.toNat)] 72)).drew).row rfl (World.news_of_block (heap_alloc_new W2 _)) (by simp [Value.oneCell']) (by omega) (by omega) ((unhide H2).fr L ((Fr.refl _ _).alloc (.cells #[.int .i64 3, .int .i64 a, .int .i64 (s'.reg a.toNat)] 72)).drew).below ?_
                intro v3 w3 o3 f3 sh3
                obtain ⟨av, cv, rfl⟩ := sh3
                have h3 := (unhide H2).fr L ((Fr.refl _ _).alloc (.cells #[.int .i64 3, .int .i64 a, .int .i64 (s'.reg a.toNat)] 72)).drew
                have c3 := h3.cells.block (f3.same b h3.blt (fun e => (h3.inV b e).2.1 rfl))
                have gr : w3.cell? ⟨b, 10 + a.toNat, none⟩ = some (.int .i64 (s'.reg a.toNat)) := (c3 (10 + a.toNat) (by omega)).1.trans (by rw [limg_reg _ _ _ _ _ _ (by omega)])
                have pc := (c3 26 (by omega)).1.trans (by rw [limg_trace])
                have pz := (c3 26 (by omega)).2
                have gp : w3.heap[wr.heap.size]? = some (.cells #[.int .i64 9, .int .i64 a, .int .i64 v] 70) := (f3.same _ (Array.getElem?_eq_some_iff.1 (pq _)).1 (fun e => unhide HPS (h3.inV _ e).1)).trans (pq (.cells #[.int .i64 3, .int .i64 a, .int .i64 (s'.reg a.toNat)] 72))
                have FIN := hide (h3.setTrace L (o := (3, a, s'.reg a.toNat)) o3 f3)
                clear o3 f3 h3 c3
                refine hK'.out _ _ ⟨gp, gr⟩ (fun hHeld => ?_)
                clear hK' K'
                simp only [List.setIfInBounds_toArray, List.set_cons_zero, List.set_cons_succ]
                refine wpAnyH_take (i := 17) (oi := { dst := some 169, op := Op.nilCheck (Operand.tmp 152), type := 0, pos := "run.go:238", after := #[{ on := 0, ground := Ground.data }, { on := 0, ground := Ground.phase }, { on := 1, ground := Ground.phase }, { on := 2, ground := Ground.phase }, { on := 3, ground := Ground.phase }, { on := 4, ground := Ground.phase }, { on := 5, ground := Ground.phase }, { on := 6, ground := Ground.phase }, { on := 7, ground := Ground.phase }, { on := 8, ground := Ground.phase }, { on := 9, ground := Ground.phase }, { on := 10, ground := Ground.phase }, { on := 11, ground := Ground.phase }, { on := 12, ground := Ground.phase }, { on := 13, ground := Ground.phase }, { on := 14, ground := Ground.phase }, { on := 15, ground := Ground.phase }, { on := 16, ground := Ground.phase }], guard := none }) (v := ?_) rfl (by kernel_rfl) (by kernel_rfl) (by kernel_rfl) (fun _ _ _ h => h) (Or.inl ⟨by rfl, ?_⟩) (by assumption) ?_
                rotate_left
                · intro w hSw; obtain ⟨hS1, hS2⟩ := hSw; have cP := fun j => cell_of_row w _ j _ 70 (0, 0) hS1; go_simp; try with_reducible rfl
                simp only [Act.put, List.setIfInBounds_toArray, List.set_cons_zero, List.set_cons_succ]
                refine wpAnyH_take (i := 18) (oi := { dst := some 170, op := Op.fieldAddr 180 (Operand.tmp 169) 11, type := 0, pos := "run.go:238", after := #[{ on := 17, ground := Ground.data }, { on := 0, ground := Ground.phase }, { on := 1, ground := Ground.phase }, { on := 2, ground := Ground.phase }, { on := 3, ground := Ground.phase }, { on := 4, ground := Ground.phase }, { on := 5, ground := Ground.phase }, { on := 6, ground := Ground.phase }, { on := 7, ground := Ground.phase }, { on := 8, ground := Ground.phase }, { on := 9, ground := Ground.phase }, { on := 10, ground := Ground.phase }, { on := 11, ground := Ground.phase }, { on := 12, ground := Ground.phase }, { on := 13, ground := Ground.phase }, { on := 14, ground := Ground.phase }, { on := 15, ground := Ground.phase }, { on := 16, ground := Ground.phase }], guard := none }) (v := ?_) rfl (by kernel_rfl) (by kernel_rfl) (by kernel_rfl) (fun _ _ _ h => h) (Or.inl ⟨by rfl, ?_⟩) (by assumption) ?_
                rotate_left
                · intro w hSw; obtain ⟨hS1, hS2⟩ := hSw; have cP := fun j => cell_of_row w _ j _ 70 (0, 0) hS1; go_simp; try with_reducible rfl
                simp only [Act.put, List.setIfInBounds_toArray, List.set_cons_zero, List.set_cons_succ]
                refine wpAnyH_ready (rs := [19]) (by kernel_rfl) (by simp) ?_
                refine AllReadyH.cons (o := { dst := none, op := Op.store 34 (Operand.tmp 170) (Operand.tmp 168), type := 0, pos := "run.go:238", after := #[{ on := 18, ground := Ground.data }, { on := 16, ground := Ground.data }, { on := 16, ground := Ground.chain }, { on := 0, ground := Ground.phase }, { on := 1, ground := Ground.phase }, { on := 2, ground := Ground.phase }, { on := 3, ground := Ground.phase }, { on := 4, ground := Ground.phase }, { on := 5, ground := Ground.phase }, { on := 6, ground := Ground.phase }, { on := 7, ground := Ground.phase }, { on := 8, ground := Ground.phase }, { on := 9, ground := Ground.phase }, { on := 10, ground := Ground.phase }, { on := 11, ground := Ground.phase }, { on := 12, ground := Ground.phase }, { on := 13, ground := Ground.phase }, { on := 14, ground := Ground.phase }, { on := 15, ground := Ground.phase }, { on := 16, ground := Ground.phase }], guard := none }) rfl (fun K' hK' => ?_) AllReadyH.nil
                go_simp
                refine hK'.out _ _ ?_ (fun hHeld => ?_)
                · exact ⟨(Below.heap_setCell _ _ _ _ hnP).trans gp, by simp [go_sem, gr]⟩
                clear hK' K'
                try simp only [Act.put, List.setIfInBounds_toArray, List.set_cons_zero, List.set_cons_succ]
                refine wpAnyH_done (by kernel_rfl) ?_ _
                go_wp2
                go_roundg k'
                case rel =>
                  have e3 := unhide E
                  have e4 := unhide HNV
                  rw [show opM ask (9, a, v) { s' with fuel := s'.fuel - 1, next := s'.next + 1 } x' = ({ s' with fuel := s'.fuel - 1, next := s'.next + 1, trace := s'.trace ++ [(3, a, s'.reg a.toNat)] }, x') from by simp [opM]] at e3 e4
                  exact qrel_next ((unhide FIN).1) (unhide Q0) (((unhide Q2).alloc (.cells #[.int .i64 3, .int .i64 a, .int .i64 (s'.reg a.toNat)] 72)).drew.trans (unhide FIN).2) e3 e4 (by show _ = Value.int .i64 (s'.next + 1); go_num) (.inl rfl) e1 e2 hn q7
                case measure => omega
              · go_simp
                refine hK'.out _ _ ?_ (fun hHeld => ?_)
                · exact ⟨pq _, cq _⟩
                clear hK' K'
                try simp only [Act.put, List.setIfInBounds_toArray, List.set_cons_zero, List.set_cons_succ]
                refine wpAnyH_ready (rs := [4]) (by kernel_rfl) (by simp) ?_
                refine AllReadyH.cons (o := { dst := some 156, op := Op.load 34 (Operand.tmp 155), type := 34, pos := "run.go:238", after := #[{ on := 3, ground := Ground.data }], guard := none }) rfl (fun K' hK' => ?_) AllReadyH.nil
                go_simp
                refine hK'.out _ _ ?_ (fun hHeld => ?_)
                · exact ⟨pq _, cq _⟩
                clear hK' K'
                try simp only [Act.put, List.setIfInBounds_toArray, List.set_cons_zero, List.set_cons_succ]
                refine wpAnyH_ready (rs := [16]) (by kernel_rfl) (by simp) ?_
                refine AllReadyH.cons (o := { dst := some 168, op := Op.call { callee := Callee.builtin Builtin.append, args := #[Operand.tmp 156, Operand.tmp 167], argTypes := #[34, 34] }, type := 34, pos := "run.go:238", after := #[{ on := 4, ground := Ground.data }, { on := 15, ground := Ground.data }], guard := none }) rfl (fun K' hK' => ?_) AllReadyH.nil
                refine step_grown (d := 168) rfl elemE (by decide) (by decide) (v := .slice ta s'.trace.length tc) (n := s'.trace.length) (m := 1) (xs := flatE s'.trace) (news := [.int .i64 3, .int .i64 a, .int .i64 (s'.reg a.toNat)]) (B := B) (ad := ⟨W2.heap.size, 0, none⟩) (cap := 1) rfl (.tmp 156) (.tmp 167) rfl rfl rfl ((unhide H2).fr L ((Fr.refl _ _).alloc (.cells #[.int .i64 3, .int .i64 a, .int .i64 (s'.reg a.toNat)] 72)).drew).row rfl (World.news_of_block (heap_alloc_new W2 _)) (by simp [Value.oneCell']) (by omega) (by omega) ((unhide H2).fr L ((Fr.refl _ _).alloc (.cells #[.int .i64 3, .int .i64 a, .int .i64 (s'.reg a.toNat)] 72)).drew).below ?_
                intro v3 w3 o3 f3 sh3
                obtain ⟨av, cv, rfl⟩ := sh3
                have h3 := (unhide H2).fr L ((Fr.refl _ _).alloc (.cells #[.int .i64 3, .int .i64 a, .int .i64 (s'.reg a.toNat)] 72)).drew
                have c3 := h3.cells.block (f3.same b h3.blt (fun e => (h3.inV b e).2.1 rfl))
                have gr : w3.cell? ⟨b, 10 + a.toNat, none⟩ = some (.int .i64 (s'.reg a.toNat)) := (c3 (10 + a.toNat) (by omega)).1.trans (by rw [limg_reg _ _ _ _ _ _ (by omega)])
                have pc := (c3 26 (by omega)).1.trans (by rw [limg_trace])
                have pz := (c3 26 (by omega)).2
                have gp : w3.heap[wr.heap.size]? = some (.cells #[.int .i64 9, .int .i64 a, .int .i64 v] 70) := (f3.same _ (Array.getElem?_eq_some_iff.1 (pq _)).1 (fun e => unhide HPS (h3.inV _ e).1)).trans (pq (.cells #[.int .i64 3, .int .i64 a, .int .i64 (s'.reg a.toNat)] 72))
                have FIN := hide (h3.setTrace L (o := (3, a, s'.reg a.toNat)) o3 f3)
                clear o3 f3 h3 c3
                refine hK'.out _ _ ⟨gp, gr⟩ (fun hHeld => ?_)
                clear hK' K'
                simp only [List.setIfInBounds_toArray, List.set_cons_zero, List.set_cons_succ]
                refine wpAnyH_take (i := 17) (oi := { dst := some 169, op := Op.nilCheck (Operand.tmp 152), type := 0, pos := "run.go:238", after := #[{ on := 0, ground := Ground.data }, { on := 0, ground := Ground.phase }, { on := 1, ground := Ground.phase }, { on := 2, ground := Ground.phase }, { on := 3, ground := Ground.phase }, { on := 4, ground := Ground.phase }, { on := 5, ground := Ground.phase }, { on := 6, ground := Ground.phase }, { on := 7, ground := Ground.phase }, { on := 8, ground := Ground.phase }, { on := 9, ground := Ground.phase }, { on := 10, ground := Ground.phase }, { on := 11, ground := Ground.phase }, { on := 12, ground := Ground.phase }, { on := 13, ground := Ground.phase }, { on := 14, ground := Ground.phase }, { on := 15, ground := Ground.phase }, { on := 16, ground := Ground.phase }], guard := none }) (v := ?_) rfl (by kernel_rfl) (by kernel_rfl) (by kernel_rfl) (fun _ _ _ h => h) (Or.inl ⟨by rfl, ?_⟩) (by assumption) ?_
                rotate_left
                · intro w hSw; obtain ⟨hS1, hS2⟩ := hSw; have cP := fun j => cell_of_row w _ j _ 70 (0, 0) hS1; go_simp; try with_reducible rfl
                simp only [Act.put, List.setIfInBounds_toArray, List.set_cons_zero, List.set_cons_succ]
                refine wpAnyH_take (i := 18) (oi := { dst := some 170, op := Op.fieldAddr 180 (Operand.tmp 169) 11, type := 0, pos := "run.go:238", after := #[{ on := 17, ground := Ground.data }, { on := 0, ground := Ground.phase }, { on := 1, ground := Ground.phase }, { on := 2, ground := Ground.phase }, { on := 3, ground := Ground.phase }, { on := 4, ground := Ground.phase }, { on := 5, ground := Ground.phase }, { on := 6, ground := Ground.phase }, { on := 7, ground := Ground.phase }, { on := 8, ground := Ground.phase }, { on := 9, ground := Ground.phase }, { on := 10, ground := Ground.phase }, { on := 11, ground := Ground.phase }, { on := 12, ground := Ground.phase }, { on := 13, ground := Ground.phase }, { on := 14, ground := Ground.phase }, { on := 15, ground := Ground.phase }, { on := 16, ground := Ground.phase }], guard := none }) (v := ?_) rfl (by kernel_rfl) (by kernel_rfl) (by kernel_rfl) (fun _ _ _ h => h) (Or.inl ⟨by rfl, ?_⟩) (by assumption) ?_
                rotate_left
                · intro w hSw; obtain ⟨hS1, hS2⟩ := hSw; have cP := fun j => cell_of_row w _ j _ 70 (0, 0) hS1; go_simp; try with_reducible rfl
                simp only [Act.put, List.setIfInBounds_toArray, List.set_cons_zero, List.set_cons_succ]
                refine wpAnyH_ready (rs := [19]) (by kernel_rfl) (by simp) ?_
                refine AllReadyH.cons (o := { dst := none, op := Op.store 34 (Operand.tmp 170) (Operand.tmp 168), type := 0, pos := "run.go:238", after := #[{ on := 18, ground := Ground.data }, { on := 16, ground := Ground.data }, { on := 16, ground := Ground.chain }, { on := 0, ground := Ground.phase }, { on := 1, ground := Ground.phase }, { on := 2, ground := Ground.phase }, { on := 3, ground := Ground.phase }, { on := 4, ground := Ground.phase }, { on := 5, ground := Ground.phase }, { on := 6, ground := Ground.phase }, { on := 7, ground := Ground.phase }, { on := 8, ground := Ground.phase }, { on := 9, ground := Ground.phase }, { on := 10, ground := Ground.phase }, { on := 11, ground := Ground.phase }, { on := 12, ground := Ground.phase }, { on := 13, ground := Ground.phase }, { on := 14, ground := Ground.phase }, { on := 15, ground := Ground.phase }, { on := 16, ground := Ground.phase }], guard := none }) rfl (fun K' hK' => ?_) AllReadyH.nil
                go_simp
                refine hK'.out _ _ ?_ (fun hHeld => ?_)
                · exact ⟨(Below.heap_setCell _ _ _ _ hnP).trans gp, by simp [go_sem, gr]⟩
                clear hK' K'
                try simp only [Act.put, List.setIfInBounds_toArray, List.set_cons_zero, List.set_cons_succ]
                refine wpAnyH_done (by kernel_rfl) ?_ _
                go_wp2
                go_roundg k'
                case rel =>
                  have e3 := unhide E
                  have e4 := unhide HNV
                  rw [show opM ask (9, a, v) { s' with fuel := s'.fuel - 1, next := s'.next + 1 } x' = ({ s' with fuel := s'.fuel - 1, next := s'.next + 1, trace := s'.trace ++ [(3, a, s'.reg a.toNat)] }, x') from by simp [opM]] at e3 e4
                  exact qrel_next ((unhide FIN).1) (unhide Q0) (((unhide Q2).alloc (.cells #[.int .i64 3, .int .i64 a, .int .i64 (s'.reg a.toNat)] 72)).drew.trans (unhide FIN).2) e3 e4 (by show _ = Value.int .i64 (s'.next + 1); go_num) (.inl rfl) e1 e2 hn q7
                case measure => omega
          · as_aux_lemma =>
              obtain ⟨r1, r2⟩ := right_reg (show rightB 10 a v nt nf = true from unhide HRT) (by omega)
              go_wp2
              generalize hW2 : ((wr.setCell ⟨b, 25, none⟩ (.int .i64 (s'.fuel - 1))).alloc (.cells #[.int .i64 10, .int .i64 a, .int .i64 v] 70)) = W2 at *
              clear hW2
              have cr := (unhide H2).cell (10 + a.toNat) (by omega)
              rw [limg_reg _ _ _ _ _ _ (by omega)] at cr
              change W2.cell? _ = some (.int .i64 (s'.reg a.toNat)) at cr
              have cP := fun j => cell_of_row W2 _ j _ 70 (0, 0) (unhide HPB)
              by_cases hs : s'.reg a.toNat = v
              · have hsb : (s'.reg a.toNat == v) = true := by simpa using hs
                have hop : opM ask (10, a, v) { s' with fuel := s'.fuel - 1, next := s'.next + 1 } x' = ({ s' with fuel := s'.fuel - 1, next := s'.next + 1 + 1 }, x') := by simp [opM, hs]
                have HOP := hide hop
                clear hop
                have h3 : LQ SQ B S' W2 b pv' vt' va' T' { s' with fuel := s'.fuel - 1, next := s'.next + 1 + 1 } A' tn sq x' := ⟨(unhide H2).bound, (unhide H2).cells, (unhide H2).row, (unhide H2).arow, (unhide H2).rel.of rfl rfl, (unhide H2).src, (unhide H2).hc, (unhide H2).inB, (unhide H2).inV, (unhide H2).inA, (unhide H2).inT⟩
                have H3 := hide h3
                clear h3
                go_quiet (fail)
                go_wp2
                go_roundg k'
                case rel =>
                  have e3 := unhide E
                  have e4 := unhide HNV
                  rw [unhide HOP] at e3 e4
                  exact qrel_next ((unhide H3).drewN L _) (unhide Q0) ((unhide Q2).drewN _) e3 e4 (by show _ = Value.int .i64 (s'.next + 1 + 1); go_num) (.inr rfl) e1 e2 hn q7
                case measure => omega
              · have hsb : (s'.reg a.toNat == v) = false := by simpa using hs
                have hop : opM ask (10, a, v) { s' with fuel := s'.fuel - 1, next := s'.next + 1 } x' = ({ s' with fuel := s'.fuel - 1, next := s'.next + 1 }, x') := by simp [opM, hs]
                have HOP := hide hop
                clear hop
                go_quiet (fail)
                go_wp2
                go_roundg k'
                case rel =>
                  have e3 := unhide E
                  have e4 := unhide HNV
                  rw [unhide HOP] at e3 e4
                  exact qrel_next ((unhide H2).drewN L _) (unhide Q0) ((unhide Q2).drewN _) e3 e4 (by show _ = Value.int .i64 (s'.next + 1); go_num) (.inl rfl) e1 e2 hn q7
                case measure => omega
          · as_aux_lemma =>
              go_wp2
              go_roundg k'
              case rel =>
                have e3 := unhide E
                have e4 := unhide HNV
                rw [show opM ask (11, a, v) { s' with fuel := s'.fuel - 1, next := s'.next + 1 } x' = ({ s' with fuel := s'.fuel - 1, next := s'.next + 1, fin := 1 }, x') from by simp [opM]] at e3 e4
                exact qrel_next (((unhide H1A).set L 27 (.int .i64 1) _ (by omega) (lset_fin 1) rfl ((unhide H1A).rel.of rfl rfl) rfl).alloc L _) (unhide Q0) (((unhide Q2A).setCell _ _ (unhide HSb)).alloc _) e3 e4 (by show _ = Value.int .i64 (s'.next + 1); go_num) (.inl rfl) e1 e2 hn q7
              case measure => omega
      · have e := hM_stop (ask := ask) f n gk s' x' (fun hh => hfi hh.2)
        have hfb : (s'.fin == 0) = false := by simpa using hfi
        have Q1 := hide q1
        have Q2 := hide q2
        have Q0 := hide q0
        have E := hide (q3.symm.trans e)
        clear q1 q2 q3 q4 e hfi q0 hSb
        generalize s'.next = nx at *
        generalize s'.fin = fi at *
        go_wp2
        go_end0
        rw [unhide E]
        exact ⟨rfl, S', pv', vt', va', T', A', unhide Q1, unhide Q0, unhide Q2⟩
    · have e := hM_stop (ask := ask) f n gk s' x' (fun hh => hlt hh.1)
      have Q1 := hide q1
      have Q2 := hide q2
      have Q0 := hide q0
      have E := hide (q3.symm.trans e)
      clear q1 q2 q3 q4 e q0 hSb
      generalize s'.next = nx at *
      generalize s'.fin = fi at *
      go_wp2
      go_end0
      rw [unhide E]
      exact ⟨rfl, S', pv', vt', va', T', A', unhide Q1, unhide Q0, unhide Q2⟩
end
end Go.Proofs.YtfmbebofllgmoaaGreatDoor
namespace Go.Proofs.YtfmbebofllgmoaaGreatDoor
open Go.RowKit
attribute [local go_sem ↓] Go.wp_at_zero Go.wp_at_succ

theorem wpList_grown {ops : Array Oper} {rest : List Oper} {o : Oper} {a : Act} {Q : Exit → Act → World → Prop} {w : World} {B t e size bytes : Nat} (E : Elem t e size bytes) (hs0 : 0 < size) (hs1 : bytes ≤ 140) {v : Value} {n m : Nat} {xs news : List Value} (hgd : o.guard = none) (sv xv : Operand)
    (ho : o.op = .call { callee := .builtin .append, args := #[sv, xv], argTypes := #[t, t] }) {ad : Addr} {cap : Nat} (hs : a.eval sv = v) (hx : a.eval xv = .slice (some ad) m cap) (hrow : w.ownsRow B e size v n xs) (hl : news.length = m * size)
    (hc : ∀ j u, news[j]? = some u → w.cell? (ad.add j) = some u) (h1 : ∀ u ∈ news, u.oneCell' = true) (hm : 0 < m) (hn : n + m ≤ 1000000000000) (hB : B ≤ w.heap.size)
    (h : ∀ v' w', w'.ownsRow B e size v' (n + m) (xs ++ news) → Fr (own v) w w' (own v') → (∃ a c, v' = .slice a (n + m) c) → wpList Tryz.prog ops Q rest (a.put o.dst v') w') : wpList Tryz.prog ops Q (o :: rest) a w := by
  obtain ⟨i, z, hi, hz, hsz, hby, hzc⟩ := E.i
  have hmx : n + m ≤ maxLen := by simp only [maxLen]; omega
  have hbb : (n + m) * bytes ≤ 140737488355328 := Nat.le_trans (Nat.mul_le_mul hn hs1) (by omega)
  refine wpList_append_lies _ hgd sv xv t ho B e i z size bytes E.u hi hz hsz hby hzc hs0 v n xs hs hrow ad m cap news hx hl hc h1 hm hmx hbb hB w.heap.size rfl ?_
  intro g cp w' h1 h2 h3 h4
  exact h _ w' h1 (grow_fr h2 h3) ⟨_, _, rfl⟩

section
variable {σ : Type} {SQ : (Nat → Value) → (Nat → Prop) → World → σ → Prop} {ask : σ → Int → Int → Rep × σ} {may : Int → Int → Prop} {mes : σ → Nat} {B : Nat} {S T : Nat → Prop} {w : World} {b : Nat} {pv : Nat → Value} {vt va : Value} {s : PS} {A : List AT} {tn sq : Int} {x : σ}

theorem rinv_arm {p : Pg} {N : Nat} {s : PS} (h : RInv p N s) : s.armings ≤ 5000 := by have := h.1.armings.2; have := h.1.fuel.1; omega
/-- How far the timers have come. -/
def TRel (SQ : (Nat → Value) → (Nat → Prop) → World → σ → Prop) (ask : σ → Int → Int → Rep × σ) (B : Nat) (S : Nat → Prop) (w : World) (b : Nat) (pv : Nat → Value) (tn sq : Int) (p : Pg) (now : Int) (M : Nat) (tot : PS × σ) (k : Nat) (u : Value) (wr : World) : Prop :=
  ∃ S' pv' vt' va' T' A' s' x' N l, LQ SQ B S' wr b pv' vt' va' T' s' A' tn sq x' ∧ (∀ i, i < 3 → pv' i = pv i) ∧ Fr S w wr S' ∧ frM (gT ask p) l s' x' = tot ∧ TL s' l now sq ∧ RInv p N s' ∧ N + l.length ≤ M ∧ l.length = k ∧ u = .int .i64 (dueI A' now tn A'.length)

set_option maxHeartbeats 4000000 in
set_option maxRecDepth 20000 in
theorem timersQ_any (L : SQLaw SQ B) (K : HearQ SQ ask may B) (hm : may 1 0) (hm4 : ∀ v, 1 ≤ v → v ≤ 1000000 → may 4 v) (hs : SrcOk ask mes)
    {w0 : World} (hB : B = w0.heap.size) (hbel : Below w0.heap.size w0 w) {p : Pg} (pg : PgAt w0 pv p) (ok : PgOk p) (h : LQ SQ B S w b pv vt va T s A tn sq x) {N : Nat} (hq : RInv p N s) (hN : N + 8 ≤ 100000000) (hsq : s.armings ≤ sq) :
    Calls Tryz.prog 128 #[.pointer (some ⟨b, 0, none⟩)] w fun e w' => e = .returned (.tuple #[]) ∧ LPost SQ B S w b pv tn sq (frM (gT ask p) (dueS s) s x).1 (frM (gT ask p) (dueS s) s x).2 w' := by
  have hst := TL.start h.rel hsq
  have hdl := due_length s
  have hSB : ∀ k, S k → B ≤ k := fun k hk => (h.bound k hk).1
  have hBw : B ≤ w.heap.size := h.below
  have HD := hide (dueQ_any L h s.clock (rinv_arm hq))
  have k14 := (h.cell 14 (by omega)).trans (by rw [limg_clock])
  have r0 : ∀ W, Fr (fun _ => False) w W (fun _ => False) → TRel SQ ask B S w b pv tn sq p s.clock (N + 8) (frM (gT ask p) (dueS s) s x) (dueS s).length (.int .i64 (dueI A s.clock tn A.length)) W := fun W hW =>
    ⟨S, pv, vt, va, T, A, s, x, N, dueS s, h.fr L hW, fun _ _ => rfl, hW.wide _, rfl, hst, hq, by omega, rfl, rfl⟩
  obtain ⟨ta, tc, htv, _, htf⟩ := pg.t
  generalize frM (gT ask p) (dueS s) s x = tot at *
  generalize s.clock = now at *
  generalize (dueS s).length = dl at *
  have R0 := hide r0
  have HSB := hide hSB
  have HBW := hide hBw
  have HBEL := hide hbel
  have HBE := hide hB
  have HTF := hide htf
  clear h r0 hst hSB hBw hbel hB hq htf
  go_enter Tryz.func128, Tryz.ntmps128
  go_wp2_with fail
  go_at_call 142
  refine (unhide HD).mono ?_
  rintro e w1 ⟨rfl, f1⟩
  have R1 := hide (unhide R0 w1 f1)
  clear f1 R0 HD k14
  go_wp2
  go_loopg [3] dl (fun k u wr => TRel SQ ask B S w b pv tn sq p now (N + 8) tot k u wr)
  case atStart => exact unhide R1
  case round =>
    obtain ⟨S', pv', vt', va', T', A', s', x', N', l, q1, q0, q2, q3, q4, q5, q6, rfl, rfl⟩ := hrel
    have c27 := (q1.cell 27 (by omega)).trans (by rw [limg_fin])
    have hdk := dueI_ok A' now tn A'.length (Nat.le_refl _)
    have hbr := q1.blt
    rcases hdk with ⟨hr1, hr2⟩ | ⟨m, pp, hml, hrm, hpm, hcd, hall⟩
    · have e := TL.none q4 q1.rel hr2 x' (g := gT ask p)
      have Q1 := hide q1
      have Q2 := hide q2
      have Q0 := hide q0
      have E := hide (q3.symm.trans e)
      rw [hr1]
      clear q1 q2 q3 q4 q5 e q0 hr2 hr1
      go_wp2
      go_end0
      rw [unhide E]
      exact ⟨rfl, S', pv', vt', va', T', A', unhide Q1, unhide Q0, unhide Q2⟩
    · rw [hrm]
      by_cases hfi : s'.fin = 0
      · obtain ⟨l2, hl2, hfr, htl⟩ := TL.next q4 q1.rel hpm hcd hall hfi x' (g := gT ask p)
        obtain ⟨aa, ca, hva⟩ := row_shape q1.arow
        subst hva
        obtain ⟨g, cg, hv, k0, k1, k2⟩ := at_cells q1.arow hpm
        injection hv with hv hv2 hv3
        subst hv
        clear hv2 hv3 k1 k2
        have c16 := (q1.cell 16 (by omega)).trans (by rw [limg_armed])
        obtain ⟨a1, a2, a3, a4⟩ := q1.rel.mem pp (List.mem_of_getElem? hpm)
        have hwt : pp.1.2.2.2 < (p.tn : Int) := by
          have := q5.2.num pp.1.2.2.2.toNat (by rw [a4]; exact a1)
          omega
        obtain ⟨z, hz⟩ : ∃ z, pp.1.2.2.2 = z := ⟨_, rfl⟩
        rw [hz] at k0 hwt a2 a3 a4 hfr htl
        obtain ⟨ua, uc, hut⟩ := row_shape q1.row
        subst hut
        rcases unhide HTF with hz0 | ⟨tb, toff, rfl, htb⟩
        · omega
        obtain ⟨vi, hvi, hops⟩ := htb z.toNat (by omega)
        have htbl : tb < w0.heap.size := World.block_lt_of_cell? _ _ hvi
        have HC := hide (cancelQ_any L q1 z a2 (rinv_arm q5))
        have hln : s'.trace.length ≤ 100000000 := by have := q5.1.trace; omega
        have hq2 : RInv p (N' + 1) (offS s' z) := off_rinv z q5
        have hq3 := hM_rinv hs (ok.tr z.toNat (by omega)) (offS s' z) x' hq2
        have hold : Olds sq (offS s' z) (hM ask (p.tf z.toNat) (p.tl z.toNat) (p.tl z.toNat) { offS s' z with next := 0 } x').1 := by
          have h1 := hM_old (ask := ask) (f := p.tf z.toNat) (n := p.tl z.toNat) (p.tl z.toNat) { offS s' z with next := 0 } x' (sq := sq) q1.rel.sq
          exact Olds.trans (.of rfl rfl) h1
        have htl' := htl _ hold
        have hk0 : (0 : Int) ≤ (m : Int) := by omega
        have hk1 : (m : Int) < (A'.length : Int) := by omega
        have hfb : (s'.fin == 0) = true := by simpa using hfi
        have E := hide (q3.symm.trans hfr)
        have Q0 := hide q0
        have Q1 := hide q1
        have Q2 := hide q2
        have HQ2 := hide hq2
        have HQ3 := hide hq3
        have HTL := hide htl'
        have HOPS := hide hops
        have HVI := hide hvi
        clear q1 q2 q3 q4 q5 q0 hfr htl hq2 hq3 hold htl' hops hvi htb hpm hcd hall a1 a3 a4 hz hfi
        go_wp2_with fail
        go_at_call 140
        refine (unhide HC).mono ?_
        rintro e w2 ⟨rfl, S2, va2, h2, f2⟩
        have k26 := (h2.cell 26 (by omega)).trans (by rw [limg_trace])
        have nb := heap_alloc_new w2 (.cells #[.int .i64 1, .int .i64 z, .int .i64 0] 72)
        have h2a := h2.alloc L (.cells #[.int .i64 1, .int .i64 z, .int .i64 0] 72)
        have hb2 := h2.blt
        have hB2 := h2a.below
        have NB := hide nb
        have H2A := hide h2a
        have F2A := hide (f2.alloc (.cells #[.int .i64 1, .int .i64 z, .int .i64 0] 72))
        clear nb h2 h2a f2 HC
        go_wp2_with (at_builtin; refine wpList_grown elemE (by omega) (by omega) (B := B) (n := s'.trace.length) (m := 1) (xs := flatE s'.trace) (news := [.int .i64 1, .int .i64 z, .int .i64 0]) rfl (.tmp 39) (.tmp 42) rfl (ad := ⟨w2.heap.size, 0, none⟩) (cap := 1) rfl rfl (unhide H2A).row rfl (World.news_of_block (unhide NB)) (by simp [Value.oneCell']) (by omega) (by omega) hB2 ?_; intro v3 w3 o3 f3 sh3; obtain ⟨av, cv, rfl⟩ := sh3; have c3 := (unhide H2A).cells.block (f3.same b (unhide H2A).blt (fun e => ((unhide H2A).inV b e).2.1 rfl)); have k26' := (c3 26 (by omega)).1.trans (by rw [limg_trace]); have z26 := (c3 26 (by omega)).2; have FIN := hide ((unhide H2A).setTrace L (o := (1, z, 0)) o3 f3); have k1 := ((unhide FIN).1.cell 1 (by omega)).trans (by rw [limg_pv _ _ _ _ _ _ (by omega), unhide Q0 1 (by omega), htv]); have hbel4 : Below w0.heap.size w0 (w3.setCell ⟨b, 26, none⟩ (.slice av (s'.trace.length + 1) cv)) := (unhide HBEL).trans (unhide HBE ▸ ((unhide Q2).trans ((unhide F2A).trans (unhide FIN).2)).below (unhide HSB) (unhide HBW)); have kvi := (bcel hbel4 tb (toff + z.toNat) htbl).trans (unhide HVI); have htw4 : tb < (w3.setCell ⟨b, 26, none⟩ (.slice av (s'.trace.length + 1) cv)).heap.size := Nat.lt_of_lt_of_le htbl hbel4.size; have HBEL4 := hide hbel4; clear o3 f3 c3 hbel4)
        refine (handlerQ_any L K hm hm4 hs.clock (unhide HBE) (unhide HBEL4) (unhide FIN).1 (unhide HOPS) (ok.tl z.toNat (by omega)) ok.tn ok.fn (ok.tr z.toNat (by omega)) (unhide HQ2).1 (by omega)).mono ?_
        rintro e w5 ⟨rfl, S5, pv5, vt5, va5, T5, A5, h5, p5, f5⟩
        have HD5 := hide (dueQ_any L h5 now (rinv_arm (unhide HQ3)))
        have H5 := hide h5
        have P5 := hide p5
        have F5 := hide f5
        clear h5 p5 f5 kvi k1 k26' z26 htw4
        go_wp2_with fail
        go_at_call 142
        refine (unhide HD5).mono ?_
        rintro e w6 ⟨rfl, f6⟩
        have F6 := hide f6
        clear f6 HD5
        go_wp2
        go_roundg l2.length
        case rel =>
          refine ⟨S5, pv5, vt5, va5, T5, A5, _, _, N' + 1, l2, (unhide H5).fr L (unhide F6), fun i hi => (unhide P5 i hi).trans (unhide Q0 i hi), ((unhide Q2).trans ((unhide F2A).trans ((unhide FIN).2.trans (unhide F5)))).trans ((unhide F6).wide _), (unhide E).symm, unhide HTL, unhide HQ3, by omega, rfl, rfl⟩
        case measure => omega
      · have e := frM_stop (g := gT ask p) l s' x' hfi
        have hfb : (s'.fin == 0) = false := by simpa using hfi
        have hk0 : (0 : Int) ≤ (m : Int) := by omega
        have Q1 := hide q1
        have Q2 := hide q2
        have Q0 := hide q0
        have E := hide (q3.symm.trans e)
        clear q1 q2 q3 q4 q5 e q0 hall hcd hpm hfi
        go_wp2
        go_end0
        rw [unhide E]
        exact ⟨rfl, S', pv', vt', va', T', A', unhide Q1, unhide Q0, unhide Q2⟩
end
end Go.Proofs.YtfmbebofllgmoaaGreatDoor
namespace Go.Proofs.YtfmbebofllgmoaaGreatDoor
open Go.RowKit
attribute [local go_sem ↓] Go.wp_at_zero Go.wp_at_succ

section
variable {σ : Type} {SQ : (Nat → Value) → (Nat → Prop) → World → σ → Prop} {B : Nat} {S T : Nat → Prop} {w : World} {b : Nat} {pv : Nat → Value} {vt va : Value} {s : PS} {A : List AT} {tn sq : Int} {x : σ}
theorem idle_rel (h : ARel s A tn sq) (hw : anyB s.wat 8 = false) : idleB s = (A.length == 0) := by
  unfold idleB
  rw [hw]
  cases A with
  | nil =>
    rw [anyB_false (fun i => (s.tim i).1) 8 (fun i _ => by
      cases e : (s.tim i).1
      · rfl
      · obtain ⟨_, _, u, hu⟩ := h.all i e
        cases hu)]
    rfl
  | cons p r =>
    obtain ⟨a1, a2, a3, a4⟩ := h.mem p (List.mem_cons_self ..)
    rw [anyB_true (fun i => (s.tim i).1) 8 p.1.2.2.2.toNat (by omega) (by show (s.tim _).1 = true; rw [a4]; exact a1)]
    rfl
set_option maxHeartbeats 1000000 in
theorem idleQ_any (h : LQ SQ B S w b pv vt va T s A tn sq x) :
    Calls Tryz.prog 126 #[.pointer (some ⟨b, 0, none⟩)] w fun e w' => e = .returned (.bool (idleB s)) ∧ w' = w := by
  obtain ⟨aa, ca, rfl⟩ := row_shape h.arow
  have hidl := idle_rel h.rel
  have c16 := (h.cell 16 (by omega)).trans (by rw [limg_armed])
  have cw : ∀ i, i < 8 → w.cell? ⟨b, 17 + i, none⟩ = some (.bool (s.wat i)) := fun i hi => (h.cell (17 + i) (by omega)).trans (by rw [limg_wat _ _ _ _ _ _ hi])
  have CW := hide cw
  have HI := hide hidl
  clear h cw hidl
  go_enter Tryz.func126, Tryz.ntmps126
  go_wp2
  go_loopw [3] (fun i wr => ∃ k : Nat, k ≤ 8 ∧ i = .int .i64 k ∧ wr = w ∧ Hid (∀ j, j < k → s.wat j = false)) (fun i _ => 8 - (intOf i).toNat)
  case atStart => exact ⟨0, Nat.zero_le _, rfl, rfl, fun j hj => absurd hj (Nat.not_lt_zero j)⟩
  case round =>
    obtain ⟨k, hk, rfl, rfl, hall⟩ := hrel
    by_cases hlt : k < 8
    · have hc := unhide CW k hlt
      have hk0 : (0 : Int) ≤ (k : Int) := by omega
      have hk1 : (k : Int) < 8 := by omega
      cases hw : s.wat k
      · rw [hw] at hc
        go_wp2
        go_roundw
        case rel =>
          refine ⟨k + 1, by omega, by go_num, by trivial, fun j hj => ?_⟩
          by_cases e : j = k
          · rw [e]; exact hw
          · exact unhide hall j (by omega)
        case measure => simp [intOf]; omega
      · rw [hw] at hc
        have hid : idleB s = false := by unfold idleB; rw [anyB_true s.wat 8 k hlt hw]; simp
        have HID := hide hid
        clear hid
        go_wp2
        go_ret
        refine ⟨?_, rfl⟩
        rw [unhide HID]
        rfl
    · have hkl : k = 8 := by omega
      subst hkl
      have hid := unhide HI (anyB_false s.wat 8 (unhide hall))
      have HID := hide hid
      clear hid
      go_wp2
      go_ret
      refine ⟨?_, rfl⟩
      rw [unhide HID]
      show Ending.returned (Value.bool ((A.length : Int) == 0)) = Ending.returned (Value.bool (A.length == 0))
      have e : ((A.length : Int) == 0) = (A.length == 0) := by rw [Bool.eq_iff_iff, beq_iff_eq, beq_iff_eq]; omega
      rw [e]
end
end Go.Proofs.YtfmbebofllgmoaaGreatDoor
namespace Go.Proofs.YtfmbebofllgmoaaGreatDoor
open Go.RowKit
attribute [local go_sem ↓] Go.wp_at_zero Go.wp_at_succ

/-- The body of an input. -/
def inpS (i : Inp) : ByteArray := if i.1 = 2 then batchS (zs i.2.2.2) else bodyS i.1 i.2.1 i.2.2.1
/-- The log of what was heard. -/
def heardS : List (Inp × Value) → ByteArray
  | [] => headS
  | l => l.foldl (fun r p => r ++ frameS (inpS p.1)) headS
theorem heardS_snoc (l : List (Inp × Value)) (p : Inp × Value) : heardS (l ++ [p]) = heardS l ++ frameS (inpS p.1) := by
  have e : ∀ l : List (Inp × Value), heardS l = l.foldl (fun r p => r ++ frameS (inpS p.1)) headS := fun l => by cases l <;> rfl
  rw [e, e, List.foldl_append]
  rfl
/-- The document's source in memory: a world, and what was heard. -/
structure SQR (B : Nat) (pv : Nat → Value) (T : Nat → Prop) (w : World) (x : RS) : Prop where
  rep : pv 7 = .bool false
  c : IntsC w (pv 3) x.clocks (fun q => q < B)
  b : BatsC w (pv 4) (x.batches.map (·.2)) (fun q => q < B)
  p : IntsC w (pv 5) x.picks (fun q => q < B)
  l : IntsC w (pv 6) x.lots (fun q => q < B)
  bl : ∀ y, y ∈ x.batches → y.2.length ≤ 100000000
  hd : ∃ H : List (Inp × Value), w.ownsRow B 49 4 (pv 9) H.length (flatP H) ∧ (∀ q, own (pv 9) q → T q) ∧ (∀ y, y ∈ H → IntsIn w y.2 (zs y.1.2.2.2) (fun q => T q ∧ ¬ own (pv 9) q)) ∧ x.log = heardS H ∧ (∀ y, y ∈ H → Fit y.1) ∧ H.length + x.left ≤ 20000000
theorem SQR.law (B : Nat) : SQLaw (SQR B) B := ⟨fun h hk hb _ =>
  ⟨h.rep, h.c.keep hb, h.b.keep hb, h.p.keep hb, h.l.keep hb, h.bl, by
    obtain ⟨H, h1, h2, h3, h4, h5, h6⟩ := h.hd
    exact ⟨H, ownsRow_of_block h1 (fun q hq => hk q (h2 q hq)), h2, fun y hy => intsIn_kept (h3 y hy) (fun q hq => hk q hq.1) (fun _ h => h), h4, h5, h6⟩⟩⟩
section
variable {σ : Type} {SQ : (Nat → Value) → (Nat → Prop) → World → σ → Prop} {B : Nat} {S T T' : Nat → Prop} {w w' : World} {b : Nat} {pv pv' : Nat → Value} {vt va : Value} {s s' : PS} {A : List AT} {tn sq : Int} {x x' : σ}
/-- The source has turned, and the struct's cells with it. -/
theorem LQ.rebuild (h : LQ SQ B S w b pv vt va T s A tn sq x) (hf : Fr (fun q => q = b ∨ T q) w w' (fun q => q = b ∨ T' q)) (hcells : LAt w' b (limg pv' vt va s' tn)) (hsrc : SQ pv' T' w' x') (hT : ∀ q, T' q → q < w'.heap.size ∧ q ≠ b) (ht : s'.trace = s.trace) (hr : ARel s' A tn sq) (hc : ∃ a n c, pv' 9 = .slice a n c ∧ (n : Int) = s'.heard) :
    LQ SQ B (fun q => (S q ∧ ¬ T q) ∨ T' q) w' b pv' vt va T' s' A tn sq x' ∧ Fr S w w' (fun q => (S q ∧ ¬ T q) ∨ T' q) := by
  have hbT : ¬ T b := fun e => (h.inT b e).2 rfl
  have hold : ∀ q, T' q → q < w.heap.size → T q := fun q hq hl => by
    rcases hf.old q hl (.inr hq) with e | e
    · exact absurd e (hT q hq).2
    · exact e
  have hBw := h.below
  refine ⟨⟨fun k hk => ?_, hcells, ?_, ?_, hr, hsrc, hc, .inl ⟨h.inB, hbT⟩, fun q hq => ?_, fun q hq => ?_, fun k hk => ⟨.inr hk, (hT k hk).2⟩⟩, ?_⟩
  · rcases hk with ⟨hk, _⟩ | hk
    · exact ⟨(h.bound k hk).1, Nat.lt_of_lt_of_le (h.bound k hk).2 hf.size⟩
    · refine ⟨?_, (hT k hk).1⟩
      by_cases hl : k < w.heap.size
      · exact (h.bound k (h.inT k (hold k hk hl)).1).1
      · omega
  · rw [ht]
    exact ownsRow_of_block h.row (fun q hq => hf.same q (h.bound q (h.inV q hq).1).2 (fun e => e.elim (h.inV q hq).2.1 (h.inV q hq).2.2))
  · exact ownsRow_of_block h.arow (fun q hq => hf.same q (h.bound q (h.inA q hq).1).2 (fun e => e.elim (h.inA q hq).2.1 (h.inA q hq).2.2))
  · obtain ⟨h1, h2, h3⟩ := h.inV q hq
    exact ⟨.inl ⟨h1, h3⟩, h2, fun e => h3 (hold q e (h.bound q h1).2)⟩
  · obtain ⟨h1, h2, h3⟩ := h.inA q hq
    exact ⟨.inl ⟨h1, h3⟩, h2, fun e => h3 (hold q e (h.bound q h1).2)⟩
  · refine ⟨hf.os, hf.tape, hf.output, hf.size, fun k hk hn => hf.same k hk (fun e => hn (e.elim (fun e => e ▸ h.inB) (fun e => (h.inT k e).1))), fun k hk hs => ?_⟩
    rcases hs with ⟨hs, _⟩ | hs
    · exact hs
    · exact (h.inT k (hold k hs hk)).1
end
section
variable {B : Nat} {S T : Nat → Prop} {w : World} {b : Nat} {pv : Nat → Value} {vt va : Value} {s : PS} {A : List AT} {tn sq : Int} {x : RS}
set_option maxHeartbeats 4000000 in
set_option maxRecDepth 20000 in
/-- A question that the world does not answer. -/
theorem hearR_no (h : LQ (SQR B) B S w b pv vt va T s A tn sq x) (k o : Int) (a0 a1 a2 : Int)
    (hcall : ∀ W, Fr (fun _ => False) w W (fun _ => False) → Calls Tryz.prog 146 #[.pointer (some ⟨b, 0, none⟩), .int .i64 k, .int .i64 o] W fun e w' => e = .returned (.tuple #[.agg #[.int .i64 a0, .int .i64 a1, .int .i64 a2, .slice none 0 0], .bool false]) ∧ Fr (fun _ => False) W w' (fun _ => False)) :
    Calls Tryz.prog 141 #[.pointer (some ⟨b, 0, none⟩), .int .i64 k, .int .i64 o] w fun e w' => e = .returned (.agg #[.int .i64 0, .int .i64 0, .int .i64 0, .slice none 0 0]) ∧ LPostS (SQR B) B S w b pv vt va A tn sq { s with fin := 5 } x w' := by
  have hb := h.blt
  have k7 := (h.cell 7 (by omega)).trans (by rw [limg_pv _ _ _ _ _ _ (by omega), h.src.rep])
  have f0 : Fr (fun _ => False) w ((w.alloc (.cells #[.int .i64 0, .int .i64 0, .int .i64 0, .slice none 0 0] 49)).alloc (.cells #[.int .i64 0, .int .i64 0, .int .i64 0, .slice none 0 0] 49)) (fun _ => False) := ((Fr.refl _ _).alloc _).alloc _
  have H := hide h
  have HC := hide (hcall _ f0)
  have hinB := h.inB
  have HIN := hide hinB
  clear h hcall hinB
  go_enter Tryz.func141, Tryz.ntmps141
  go_wp2_with fail
  go_at_call 146
  refine (unhide HC).mono ?_
  rintro e w2 ⟨rfl, f2⟩
  have f02 := f0.trans f2
  have x6 : w2.heap[w.heap.size]? = some (.cells #[.int .i64 0, .int .i64 0, .int .i64 0, .slice none 0 0] 49) := (f2.same _ (by simp; omega) (fun h => h)).trans ((Below.heap_alloc _ _ _ (by simp)).trans (heap_alloc_new _ _))
  have x7 : w2.heap[w.heap.size + 1]? = some (.cells #[.int .i64 0, .int .i64 0, .int .i64 0, .slice none 0 0] 49) := (f2.same _ (by simp) (fun h => h)).trans (by
    have h := heap_alloc_new (w.alloc (.cells #[.int .i64 0, .int .i64 0, .int .i64 0, .slice none 0 0] 49)) (.cells #[.int .i64 0, .int .i64 0, .int .i64 0, .slice none 0 0] 49)
    rwa [show (w.alloc (.cells #[.int .i64 0, .int .i64 0, .int .i64 0, .slice none 0 0] 49)).heap.size = w.heap.size + 1 by simp] at h)
  have h2 := (unhide H).fr (SQR.law B) f02
  have c27 := h2.cell 27 (by omega)
  have z27 := h2.free 27 (by omega)
  generalize limg pv vt va s tn 27 = o27 at c27
  have k6 := fun j => cell_of_row w2 _ j _ 49 (0, 0) x6
  have t6 := fun j => frozen_rowE x6 j
  have k8 := fun j => cell_of_row w2 _ j _ 49 (0, 0) x7
  have t8 := fun j => frozen_rowE x7 j
  have l6 := (Array.getElem?_eq_some_iff.1 x6).1
  have l8 := (Array.getElem?_eq_some_iff.1 x7).1
  have hb2 := h2.blt
  have n1 : ¬ b = w.heap.size := by omega
  have n2 : ¬ w.heap.size = b := by omega
  have n3 : ¬ b = w.heap.size + 1 := by omega
  have n4 : ¬ w.heap.size + 1 = b := by omega
  have n5 : ¬ w2.heap.size = b := by omega
  have n6 : ¬ w2.heap.size = w.heap.size := by omega
  have n7 : ¬ w2.heap.size = w.heap.size + 1 := by omega
  have n8 : ¬ b = w2.heap.size := by omega
  have n9 : ¬ w.heap.size = w2.heap.size := by omega
  have n10 : ¬ w.heap.size + 1 = w2.heap.size := by omega
  have H2 := hide h2
  have F02 := hide f02
  have X6 := hide x6
  clear h2 f02 x6 x7 f0 f2 HC k7
  have hP6 : ¬ S w.heap.size := fun hs => by have := ((unhide H).bound _ hs).2; omega
  have hB6 : B ≤ w.heap.size := (unhide H).below
  have HP6 := hide hP6
  clear hP6
  go_wp2
  have y6 : ((((((w2.setCell ⟨b, 27, none⟩ (.int .i64 5)).setCell ⟨w.heap.size, 0, none⟩ (.int .i64 0)).setCell ⟨w.heap.size, 1, none⟩ (.int .i64 0)).setCell ⟨w.heap.size, 2, none⟩ (.int .i64 0)).setCell ⟨w.heap.size, 3, none⟩ (.slice none 0 0)).alloc (.cells #[.int .i64 a0, .int .i64 a1, .int .i64 a2, .slice none 0 0] 49)).heap[w.heap.size]? = some (.cells #[.int .i64 0, .int .i64 0, .int .i64 0, .slice none 0 0] 49) := (Below.heap_alloc _ _ _ (by simp [World.setCell]; exact l6)).trans (setCell_row _ _ 3 _ 49 _ (setCell_row _ _ 2 _ 49 _ (setCell_row _ _ 1 _ 49 _ (setCell_row _ _ 0 _ 49 _ ((Below.heap_setCell _ _ _ _ n2).trans (unhide X6))))))
  have ky := fun j => cell_of_row _ _ j _ 49 (0, 0) y6
  refine bodyPost_ret (v := .agg #[.int .i64 0, .int .i64 0, .int .i64 0, .slice none 0 0]) (by simp [results, Tryz.results141, go_sem, ky]) rfl ⟨rfl, ?_⟩
  refine ⟨S, pv, T, ?_, fun _ _ => rfl, ?_⟩
  · exact ((((((unhide H2).set (SQR.law B) 27 (.int .i64 5) { s with fin := 5 } (by omega) (lset_fin 5) rfl ((unhide H2).rel.of rfl rfl) rfl).setNew (SQR.law B) ⟨w.heap.size, 0, none⟩ _ (unhide HP6) hB6).setNew (SQR.law B) ⟨w.heap.size, 1, none⟩ _ (unhide HP6) hB6).setNew (SQR.law B) ⟨w.heap.size, 2, none⟩ _ (unhide HP6) hB6).setNew (SQR.law B) ⟨w.heap.size, 3, none⟩ _ (unhide HP6) hB6).alloc (SQR.law B) _
  · exact (((((((unhide F02).wide S).setCell ⟨b, 27, none⟩ _ (.inl (unhide HIN))).setCell ⟨w.heap.size, 0, none⟩ _ (.inr (Nat.le_refl _))).setCell ⟨w.heap.size, 1, none⟩ _ (.inr (Nat.le_refl _))).setCell ⟨w.heap.size, 2, none⟩ _ (.inr (Nat.le_refl _))).setCell ⟨w.heap.size, 3, none⟩ _ (.inr (Nat.le_refl _))).alloc _
theorem limg_setpv {pv : Nat → Value} {vt va : Value} {s : PS} {tn : Int} {j : Nat} {v : Value} (hj : j < 10) (k : Nat) : limg (setC pv j v) vt va s tn k = setC (limg pv vt va s tn) j v k := by
  unfold setC
  by_cases e : k = j
  · subst e
    rw [if_pos rfl, limg_pv _ _ _ _ _ _ hj, if_pos rfl]
  · rw [if_neg e]
    unfold limg
    by_cases h1 : k < 10
    · rw [if_pos h1, if_pos h1]; show (if k = j then v else pv k) = pv k; rw [if_neg e]
    · rw [if_neg h1, if_neg h1]
set_option maxHeartbeats 4000000 in
/-- What was heard is laid behind the rest. -/
theorem hear_fin {W4 w5 : World} {ob : Obj} {v9 fv vh : Value} {H : List (Inp × Value)} {i : Inp} {j : Nat} {v' : Value} {x' : RS} (h : LQ (SQR B) B S w b pv vt va T s A tn sq x) (hfit : Fit i) (hj3 : 3 ≤ j) (hj7 : j < 7) (hleft : x'.left + 1 = x.left)
    (hsc : IntsC w (setC pv j v' 3) x'.clocks (fun q => q < B)) (hsb : BatsC w (setC pv j v' 4) (x'.batches.map (·.2)) (fun q => q < B)) (hsp : IntsC w (setC pv j v' 5) x'.picks (fun q => q < B)) (hsl : IntsC w (setC pv j v' 6) x'.lots (fun q => q < B)) (hbl : ∀ y, y ∈ x'.batches → y.2.length ≤ 100000000)
    (hrow : w.ownsRow B 49 4 vh H.length (flatP H)) (hown : ∀ q, own vh q → T q) (hfl : ∀ y, y ∈ H → IntsIn w y.2 (zs y.1.2.2.2) (fun q => T q ∧ ¬ own vh q)) (hlog : x'.log = heardS H ++ frameS (inpS i)) (hfits : ∀ y, y ∈ H → Fit y.1) (hcnt : H.length + x.left ≤ 20000000) (hnh : (H.length : Int) = s.heard)
    (c4 : LAt W4 b (setC (limg pv vt va s tn) j v')) (f04 : Fr (fun q => q = b) w W4 (fun q => q = b)) (o4 : OwnI W4 (w.heap.size + 2) fv (zs i.2.2.2)) (hz4 : w.heap.size + 2 ≤ W4.heap.size) (o5 : w5.ownsRow B 49 4 v9 (H.length + 1) (flatP H ++ [.int .i64 (i.1 : Nat), .int .i64 (i.2.1 : Nat), .int .i64 (i.2.2.1 : Nat), fv])) (hv9 : ∃ a c, v9 = .slice a (H.length + 1) c) (f5 : Fr (own vh) (W4.alloc ob).drew w5 (own v9)) (u0 u1 u2 u3 : Value) :
    LPostS (SQR B) B S w b pv vt va A tn sq { s with heard := wrap64 (s.heard + 1) } x' (((((w5.setCell ⟨b, 9, none⟩ v9).setCell ⟨w.heap.size, 0, none⟩ u0).setCell ⟨w.heap.size, 1, none⟩ u1).setCell ⟨w.heap.size, 2, none⟩ u2).setCell ⟨w.heap.size, 3, none⟩ u3) ∧
      IntsIn (((((w5.setCell ⟨b, 9, none⟩ v9).setCell ⟨w.heap.size, 0, none⟩ u0).setCell ⟨w.heap.size, 1, none⟩ u1).setCell ⟨w.heap.size, 2, none⟩ u2).setCell ⟨w.heap.size, 3, none⟩ u3) fv (zs i.2.2.2) (fun q => q < (((((w5.setCell ⟨b, 9, none⟩ v9).setCell ⟨w.heap.size, 0, none⟩ u0).setCell ⟨w.heap.size, 1, none⟩ u1).setCell ⟨w.heap.size, 2, none⟩ u2).setCell ⟨w.heap.size, 3, none⟩ u3).heap.size) := by
  have hb := h.blt
  have hBw := h.below
  have hbB := (h.bound b h.inB).1
  have hbT : ¬ T b := fun e => (h.inT b e).2 rfl
  have hTl : ∀ q, T q → B ≤ q ∧ q < w.heap.size := fun q hq => h.bound q (h.inT q hq).1
  generalize hW : ((((w5.setCell ⟨b, 9, none⟩ v9).setCell ⟨w.heap.size, 0, none⟩ u0).setCell ⟨w.heap.size, 1, none⟩ u1).setCell ⟨w.heap.size, 2, none⟩ u2).setCell ⟨w.heap.size, 3, none⟩ u3 = W
  have hWz : W.heap.size = w5.heap.size := by subst hW; simp [World.setCell]
  have hz4a : (W4.alloc ob).drew.heap.size = W4.heap.size + 1 := by show (W4.alloc ob).heap.size = _; simp
  have hz5 : W4.heap.size + 1 ≤ w5.heap.size := by have h1 := f5.size; omega
  have keep5 : ∀ q, q ≠ b → q ≠ w.heap.size → W.heap[q]? = w5.heap[q]? := fun q h1 h2 => by
    subst hW
    exact (Below.heap_setCell _ _ _ _ h2).trans ((Below.heap_setCell _ _ _ _ h2).trans ((Below.heap_setCell _ _ _ _ h2).trans ((Below.heap_setCell _ _ _ _ h2).trans (Below.heap_setCell _ _ _ _ h1))))
  have keep45 : ∀ q, q < W4.heap.size → ¬ own vh q → w5.heap[q]? = W4.heap[q]? := fun q h1 h2 => (f5.same q (by show q < (W4.alloc ob).heap.size; simp; omega) h2).trans (Below.heap_alloc W4 ob q h1)
  have keepw : ∀ q, q < w.heap.size → q ≠ b → ¬ own vh q → W.heap[q]? = w.heap[q]? := fun q h1 h2 h3 => (keep5 q h2 (by omega)).trans ((keep45 q (by omega) h3).trans (f04.same q h1 h2))
  have hvb : ¬ own vh b := fun e => hbT (hown b e)
  have hvl : ∀ q, own vh q → q < w.heap.size := fun q e => (World.ownsRow.lt hrow q e).2
  have hv9o : ∀ q, own v9 q → own vh q ∨ W4.heap.size ≤ q := fun q hq => by
    by_cases hl : q < W4.heap.size
    · exact .inl (f5.old q (by show q < (W4.alloc ob).heap.size; simp; omega) hq)
    · exact .inr (by omega)
  have hfv : ∀ q, own fv q → w.heap.size + 2 ≤ q ∧ q < W4.heap.size := fun q hq => World.ownsRow.lt o4 q hq
  have hcells : LAt W b (limg (setC (setC pv j v') 9 v9) vt va { s with heard := wrap64 (s.heard + 1) } tn) := by
    have e5 : LAt w5 b (setC (limg pv vt va s tn) j v') := c4.block (keep45 b (by omega) hvb)
    have e6 := e5.set 9 v9 (by omega)
    have e7 : LAt W b (setC (setC (limg pv vt va s tn) j v') 9 v9) := by
      subst hW
      exact (((e6.other (show ¬ b = w.heap.size by omega)).other (show ¬ b = w.heap.size by omega)).other (show ¬ b = w.heap.size by omega)).other (show ¬ b = w.heap.size by omega)
    refine e7.congr (fun k _ => ?_)
    rw [limg_setpv (by omega)]
    unfold setC
    by_cases e9 : k = 9
    · rw [if_pos e9, if_pos e9]
    · rw [if_neg e9, if_neg e9]
      have := limg_setpv (pv := pv) (vt := vt) (va := va) (s := { s with heard := wrap64 (s.heard + 1) }) (tn := tn) (j := j) (v := v') (by omega) k
      unfold setC at this
      rw [this]
      rfl
  have hrow' : W.ownsRow B 49 4 v9 (H ++ [(i, fv)]).length (flatP (H ++ [(i, fv)])) := by
    rw [List.length_append, flatP_append]
    refine ownsRow_of_block o5 (fun q hq => keep5 q (fun e => ?_) (fun e => ?_))
    · rcases hv9o q hq with h1 | h1
      · exact hvb (e ▸ h1)
      · omega
    · rcases hv9o q hq with h1 | h1
      · have := hvl q h1; omega
      · omega
  have hT' : ∀ q, (own v9 q ∨ (T q ∧ ¬ own vh q) ∨ own fv q) → q < W.heap.size ∧ q ≠ b := fun q hq => by
    rw [hWz]
    rcases hq with h1 | ⟨h1, _⟩ | h1
    · refine ⟨(World.ownsRow.lt o5 q h1).2, fun e => ?_⟩
      rcases hv9o q h1 with h2 | h2
      · exact hvb (e ▸ h2)
      · omega
    · have := hTl q h1
      exact ⟨by omega, fun e => hbT (e ▸ h1)⟩
    · have := hfv q h1
      exact ⟨by omega, by omega⟩
  have hf : Fr (fun q => q = b ∨ T q) w W (fun q => q = b ∨ (own v9 q ∨ (T q ∧ ¬ own vh q) ∨ own fv q)) := by
    have g1 : W.os = w.os ∧ W.tape = w.tape ∧ W.output = w.output := by
      have g0 := (((((Fr.refl (fun _ => True) w5).setCell ⟨b, 9, none⟩ v9 (.inl trivial)).setCell ⟨w.heap.size, 0, none⟩ u0 (.inl trivial)).setCell ⟨w.heap.size, 1, none⟩ u1 (.inl trivial)).setCell ⟨w.heap.size, 2, none⟩ u2 (.inl trivial)).setCell ⟨w.heap.size, 3, none⟩ u3 (.inl trivial)
      rw [hW] at g0
      exact ⟨g0.os.trans (f5.os.trans f04.os), g0.tape.trans (f5.tape.trans f04.tape), g0.output.trans (f5.output.trans f04.output)⟩
    refine ⟨g1.1, g1.2.1, g1.2.2, by rw [hWz]; omega, fun k hk hn => keepw k hk (fun e => hn (.inl e)) (fun e => hn (.inr (hown k e))), fun k hk hq => ?_⟩
    rcases hq with h1 | h1 | ⟨h1, _⟩ | h1
    · exact .inl h1
    · rcases hv9o k h1 with h2 | h2
      · exact .inr (hown k h2)
      · omega
    · exact .inr h1
    · have := hfv k h1; omega
  have hbelow : ∀ q, q < B → W.heap[q]? = w.heap[q]? := fun q hq => keepw q (by omega) (by omega) (fun e => by have := (World.ownsRow.lt hrow q e).1; omega)
  have hpv : ∀ k, k ≠ 9 → setC (setC pv j v') 9 v9 k = setC pv j v' k := fun k hk => by show (if k = 9 then v9 else setC pv j v' k) = _; rw [if_neg hk]
  have h9 : setC (setC pv j v') 9 v9 9 = v9 := by show (if 9 = 9 then v9 else setC pv j v' 9) = v9; rw [if_pos rfl]
  have hnew : IntsIn W fv (zs i.2.2.2) (fun q => (own v9 q ∨ (T q ∧ ¬ own vh q) ∨ own fv q) ∧ ¬ own v9 q) := by
    obtain ⟨a1, c1, e1, hc1⟩ := ownI_ints o4
    refine ⟨a1, c1, e1, hc1.imp id ?_⟩
    rintro ⟨q, off, e2, hq, hcc⟩
    have hoq : own fv q := by rw [e1, e2]; rfl
    have hg := hfv q hoq
    have hnv : ¬ own v9 q := fun e => by
      rcases hv9o q e with h1 | h1
      · have := hvl q h1; omega
      · omega
    exact ⟨q, off, e2, ⟨.inr (.inr hoq), hnv⟩, fun k hk => (World.cell?_of_block (w := W4) (a := ⟨q, off + k, none⟩) ((keep5 q (by omega) (by omega)).trans (keep45 q hg.2 (fun e => by have := hvl q e; omega)))).trans (hcc k hk)⟩
  have hsrc : SQR B (setC (setC pv j v') 9 v9) (fun q => own v9 q ∨ (T q ∧ ¬ own vh q) ∨ own fv q) W x' := by
    refine ⟨?_, by rw [hpv 3 (by omega)]; exact hsc.keep hbelow, by rw [hpv 4 (by omega)]; exact hsb.keep hbelow, by rw [hpv 5 (by omega)]; exact hsp.keep hbelow, by rw [hpv 6 (by omega)]; exact hsl.keep hbelow, hbl, H ++ [(i, fv)], ?_, ?_, ?_, ?_, ?_, ?_⟩
    · rw [hpv 7 (by omega)]
      show (if 7 = j then v' else pv 7) = _
      rw [if_neg (by omega)]
      exact h.src.rep
    · rw [h9]; exact hrow'
    · rw [h9]; exact fun q hq => .inl hq
    · intro y hy
      rw [h9]
      rcases List.mem_append.1 hy with hy | hy
      · refine intsIn_kept (hfl y hy) (fun q hq => keepw q (hTl q hq.1).2 (fun e => hbT (e ▸ hq.1)) hq.2) (fun q hq => ⟨.inr (.inl hq), fun e => ?_⟩)
        rcases hv9o q e with h1 | h1
        · exact hq.2 h1
        · have := (hTl q hq.1).2; omega
      · rw [List.mem_singleton] at hy
        subst hy
        exact hnew
    · rw [heardS_snoc]; exact hlog
    · intro y hy
      rcases List.mem_append.1 hy with hy | hy
      · exact hfits y hy
      · rw [List.mem_singleton] at hy; subst hy; exact hfit
    · rw [List.length_append]; simp only [List.length_cons, List.length_nil]; omega
  obtain ⟨a9, c9, e9⟩ := hv9
  have hreb := h.rebuild (s' := { s with heard := wrap64 (s.heard + 1) }) hf hcells hsrc hT' rfl (h.rel.of rfl rfl) ⟨a9, H.length + 1, c9, by rw [h9]; exact e9, by show _ = wrap64 (s.heard + 1); rw [← hnh]; unfold wrap64; omega⟩
  refine ⟨⟨_, _, _, hreb.1, fun k hk => ?_, hreb.2⟩, ?_⟩
  · rw [hpv k (by omega)]
    show (if k = j then v' else pv k) = _
    rw [if_neg (by omega)]
  · obtain ⟨a1, c1, e1, hc1⟩ := hnew
    exact ⟨a1, c1, e1, hc1.imp id fun ⟨q, off, e2, hq, hcc⟩ => ⟨q, off, e2, (hT' q hq.1).1, hcc⟩⟩
set_option maxHeartbeats 4000000 in
set_option maxRecDepth 20000 in
/-- A question that the world answers. -/
theorem hearR_ok (h : LQ (SQR B) B S w b pv vt va T s A tn sq x) (i : Inp) (hfit : Fit i) (j : Nat) (hj3 : 3 ≤ j) (hj7 : j < 7) (v' : Value) (x' : RS) (hlog : x'.log = x.log ++ frameS (inpS i)) (hleft : x'.left + 1 = x.left)
    (hsc : IntsC w (setC pv j v' 3) x'.clocks (fun q => q < B)) (hsb : BatsC w (setC pv j v' 4) (x'.batches.map (·.2)) (fun q => q < B)) (hsp : IntsC w (setC pv j v' 5) x'.picks (fun q => q < B)) (hsl : IntsC w (setC pv j v' 6) x'.lots (fun q => q < B)) (hbl : ∀ y, y ∈ x'.batches → y.2.length ≤ 100000000) {k o n : Int} {fl : List Int} (ek : ((i.1 : Nat) : Int) = k) (eo : ((i.2.1 : Nat) : Int) = o) (en : ((i.2.2.1 : Nat) : Int) = n) (ef : zs i.2.2.2 = fl)
    (hcall : Calls Tryz.prog 146 #[.pointer (some ⟨b, 0, none⟩), .int .i64 k, .int .i64 o] ((w.alloc (.cells #[.int .i64 0, .int .i64 0, .int .i64 0, .slice none 0 0] 49)).alloc (.cells #[.int .i64 0, .int .i64 0, .int .i64 0, .slice none 0 0] 49)) (WAns ((w.alloc (.cells #[.int .i64 0, .int .i64 0, .int .i64 0, .slice none 0 0] 49)).alloc (.cells #[.int .i64 0, .int .i64 0, .int .i64 0, .slice none 0 0] 49)) b (limg pv vt va s tn) k o n fl j v')) :
    Calls Tryz.prog 141 #[.pointer (some ⟨b, 0, none⟩), .int .i64 k, .int .i64 o] w fun e w' => ∃ fa fc, e = .returned (.agg #[.int .i64 k, .int .i64 o, .int .i64 n, .slice fa fl.length fc]) ∧ LPostS (SQR B) B S w b pv vt va A tn sq { s with heard := wrap64 (s.heard + 1) } x' w' ∧ IntsIn w' (.slice fa fl.length fc) fl (fun q => q < w'.heap.size) := by
  subst ek eo en ef
  have hb := h.blt
  have k7 := (h.cell 7 (by omega)).trans (by rw [limg_pv _ _ _ _ _ _ (by omega), h.src.rep])
  have f0 : Fr (fun _ => False) w ((w.alloc (.cells #[.int .i64 0, .int .i64 0, .int .i64 0, .slice none 0 0] 49)).alloc (.cells #[.int .i64 0, .int .i64 0, .int .i64 0, .slice none 0 0] 49)) (fun _ => False) := ((Fr.refl _ _).alloc _).alloc _
  have HC := hide hcall
  have hB6 : B ≤ w.heap.size := h.below
  obtain ⟨hB, hbB⟩ := h.bound b h.inB
  obtain ⟨H, hrow, hown, hfl, hlogH, hfits, hcnt⟩ := h.src.hd
  obtain ⟨ha, hn, hcp, hp9, hnh⟩ := h.hc
  have hHn : H.length = hn := by
    obtain ⟨a1, c1, e1⟩ := row_shape hrow
    rw [hp9] at e1
    injection e1 with _ e1
    exact e1.symm
  subst hHn
  rw [hp9] at hrow hown hfl
  have HH := hide h
  have HSC := hide hsc
  have HSB := hide hsb
  have HSP := hide hsp
  have HSL := hide hsl
  have HBL := hide hbl
  have HFL := hide hfl
  have HOWN := hide hown
  have HROW := hide hrow
  have HFITS := hide hfits
  have HLOG := hide (hlog.trans (by rw [hlogH]))
  have HFIT := hide hfit
  have HCNT := hide hcnt
  clear h hcall hsc hsb hsp hsl hbl hfl hown hrow hfits hlog hlogH hfit
  go_enter Tryz.func141, Tryz.ntmps141
  go_wp2_with fail
  go_at_call 146
  refine (unhide HC).mono ?_
  rintro e w3 ⟨fv, rfl, hc3, f3, o3⟩
  obtain ⟨fa, fc, hfv⟩ := ownI_slice o3
  subst hfv
  have hz3 : w.heap.size + 2 ≤ w3.heap.size := by have := f3.size; simp at this; omega
  have hbz : ¬ w.heap.size = b := by omega
  have hbz1 : ¬ w.heap.size + 1 = b := by omega
  have x6 : w3.heap[w.heap.size]? = some (.cells #[.int .i64 0, .int .i64 0, .int .i64 0, .slice none 0 0] 49) := (f3.same _ (by simp; omega) hbz).trans ((Below.heap_alloc _ _ _ (by simp)).trans (heap_alloc_new _ _))
  have x7 : w3.heap[w.heap.size + 1]? = some (.cells #[.int .i64 0, .int .i64 0, .int .i64 0, .slice none 0 0] 49) := (f3.same _ (by simp) hbz1).trans (by
    have h := heap_alloc_new (w.alloc (.cells #[.int .i64 0, .int .i64 0, .int .i64 0, .slice none 0 0] 49)) (.cells #[.int .i64 0, .int .i64 0, .int .i64 0, .slice none 0 0] 49)
    rwa [show (w.alloc (.cells #[.int .i64 0, .int .i64 0, .int .i64 0, .slice none 0 0] 49)).heap.size = w.heap.size + 1 by simp] at h)
  have f03 := (f0.widen (T := fun q => q = b) (fun q h => h.elim)).trans f3
  have k6 := fun j => cell_of_row w3 _ j _ 49 (0, 0) x6
  have t6 := fun j => frozen_rowE x6 j
  have k8 := fun j => cell_of_row w3 _ j _ 49 (0, 0) x7
  have t8 := fun j => frozen_rowE x7 j
  have l6 := (Array.getElem?_eq_some_iff.1 x6).1
  have l8 := (Array.getElem?_eq_some_iff.1 x7).1
  have hb3 : b < w3.heap.size := by omega
  have n1 : ¬ b = w.heap.size := by omega
  have n3 : ¬ b = w.heap.size + 1 := by omega
  have n5 : ¬ w3.heap.size = b := by omega
  have n6 : ¬ w3.heap.size = w.heap.size := by omega
  have n7 : ¬ w3.heap.size = w.heap.size + 1 := by omega
  have n8 : ¬ b = w3.heap.size := by omega
  have n9 : ¬ w.heap.size = w3.heap.size := by omega
  have n10 : ¬ w.heap.size + 1 = w3.heap.size := by omega
  have C3 := hide hc3
  have F03 := hide f03
  have O3 := hide o3
  have X6 := hide x6
  clear f03 f3 f0 HC k7 hc3 o3
  go_wp2
  have zW : (((w3.setCell ⟨w.heap.size + 1, 0, none⟩ (.int .i64 (i.1 : Nat))).setCell ⟨w.heap.size + 1, 1, none⟩ (.int .i64 (i.2.1 : Nat))).setCell ⟨w.heap.size + 1, 2, none⟩ (.int .i64 (i.2.2.1 : Nat))).heap.size = w3.heap.size := by simp [World.setCell]
  have zW' : ((((w3.setCell ⟨w.heap.size + 1, 0, none⟩ (.int .i64 (i.1 : Nat))).setCell ⟨w.heap.size + 1, 1, none⟩ (.int .i64 (i.2.1 : Nat))).setCell ⟨w.heap.size + 1, 2, none⟩ (.int .i64 (i.2.2.1 : Nat))).setCell ⟨w.heap.size + 1, 3, none⟩ (.slice fa (zs i.2.2.2).length fc)).heap.size = w3.heap.size := by simp [World.setCell]
  have y7 : (((((w3.setCell ⟨w.heap.size + 1, 0, none⟩ (.int .i64 (i.1 : Nat))).setCell ⟨w.heap.size + 1, 1, none⟩ (.int .i64 (i.2.1 : Nat))).setCell ⟨w.heap.size + 1, 2, none⟩ (.int .i64 (i.2.2.1 : Nat))).setCell ⟨w.heap.size + 1, 3, none⟩ (.slice fa (zs i.2.2.2).length fc)).alloc (.cells #[.int .i64 (i.1 : Nat), .int .i64 (i.2.1 : Nat), .int .i64 (i.2.2.1 : Nat), .slice fa (zs i.2.2.2).length fc] 49)).heap[w.heap.size + 1]? = some (.cells #[.int .i64 (i.1 : Nat), .int .i64 (i.2.1 : Nat), .int .i64 (i.2.2.1 : Nat), .slice fa (zs i.2.2.2).length fc] 49) := (Below.heap_alloc _ _ _ (by rw [zW']; exact l8)).trans (setCell_row _ _ 3 _ 49 _ (setCell_row _ _ 2 _ 49 _ (setCell_row _ _ 1 _ 49 _ (setCell_row _ _ 0 _ 49 _ x7))))
  have keep4 : ∀ q, q < w3.heap.size → q ≠ w.heap.size + 1 → (((((w3.setCell ⟨w.heap.size + 1, 0, none⟩ (.int .i64 (i.1 : Nat))).setCell ⟨w.heap.size + 1, 1, none⟩ (.int .i64 (i.2.1 : Nat))).setCell ⟨w.heap.size + 1, 2, none⟩ (.int .i64 (i.2.2.1 : Nat))).setCell ⟨w.heap.size + 1, 3, none⟩ (.slice fa (zs i.2.2.2).length fc)).alloc (.cells #[.int .i64 (i.1 : Nat), .int .i64 (i.2.1 : Nat), .int .i64 (i.2.2.1 : Nat), .slice fa (zs i.2.2.2).length fc] 49)).heap[q]? = w3.heap[q]? := fun q hq hne => (Below.heap_alloc _ _ _ (by rw [zW']; exact hq)).trans ((Below.heap_setCell _ _ _ _ hne).trans ((Below.heap_setCell _ _ _ _ hne).trans ((Below.heap_setCell _ _ _ _ hne).trans (Below.heap_setCell _ _ _ _ hne))))
  have y6 := (keep4 w.heap.size l6 (by omega)).trans x6
  have cells4 : LAt (((((w3.setCell ⟨w.heap.size + 1, 0, none⟩ (.int .i64 (i.1 : Nat))).setCell ⟨w.heap.size + 1, 1, none⟩ (.int .i64 (i.2.1 : Nat))).setCell ⟨w.heap.size + 1, 2, none⟩ (.int .i64 (i.2.2.1 : Nat))).setCell ⟨w.heap.size + 1, 3, none⟩ (.slice fa (zs i.2.2.2).length fc)).alloc (.cells #[.int .i64 (i.1 : Nat), .int .i64 (i.2.1 : Nat), .int .i64 (i.2.2.1 : Nat), .slice fa (zs i.2.2.2).length fc] 49)) b (setC (limg pv vt va s tn) j v') := (unhide C3).block (keep4 b hb3 n3)
  have f04 : Fr (fun q => q = b) w (((((w3.setCell ⟨w.heap.size + 1, 0, none⟩ (.int .i64 (i.1 : Nat))).setCell ⟨w.heap.size + 1, 1, none⟩ (.int .i64 (i.2.1 : Nat))).setCell ⟨w.heap.size + 1, 2, none⟩ (.int .i64 (i.2.2.1 : Nat))).setCell ⟨w.heap.size + 1, 3, none⟩ (.slice fa (zs i.2.2.2).length fc)).alloc (.cells #[.int .i64 (i.1 : Nat), .int .i64 (i.2.1 : Nat), .int .i64 (i.2.2.1 : Nat), .slice fa (zs i.2.2.2).length fc] 49)) (fun q => q = b) := (((((unhide F03).setCell ⟨w.heap.size + 1, 0, none⟩ _ (.inr (by show w.heap.size ≤ w.heap.size + 1; omega))).setCell ⟨w.heap.size + 1, 1, none⟩ _ (.inr (by show w.heap.size ≤ w.heap.size + 1; omega))).setCell ⟨w.heap.size + 1, 2, none⟩ _ (.inr (by show w.heap.size ≤ w.heap.size + 1; omega))).setCell ⟨w.heap.size + 1, 3, none⟩ _ (.inr (by show w.heap.size ≤ w.heap.size + 1; omega))).alloc _
  have hge2 : ∀ q, own (.slice fa (zs i.2.2.2).length fc) q → w.heap.size + 2 ≤ q := fun q hq => by have := (World.ownsRow.lt (unhide O3) q hq).1; simpa using this
  have o4 : OwnI (((((w3.setCell ⟨w.heap.size + 1, 0, none⟩ (.int .i64 (i.1 : Nat))).setCell ⟨w.heap.size + 1, 1, none⟩ (.int .i64 (i.2.1 : Nat))).setCell ⟨w.heap.size + 1, 2, none⟩ (.int .i64 (i.2.2.1 : Nat))).setCell ⟨w.heap.size + 1, 3, none⟩ (.slice fa (zs i.2.2.2).length fc)).alloc (.cells #[.int .i64 (i.1 : Nat), .int .i64 (i.2.1 : Nat), .int .i64 (i.2.2.1 : Nat), .slice fa (zs i.2.2.2).length fc] 49)) (w.heap.size + 2) (.slice fa (zs i.2.2.2).length fc) (zs i.2.2.2) := by
    have h1 : OwnI w3 (w.heap.size + 2) (.slice fa (zs i.2.2.2).length fc) (zs i.2.2.2) := by have := unhide O3; simpa using this
    exact ownsRow_of_block h1 (fun q hq => keep4 q (World.ownsRow.lt h1 q hq).2 (by have := hge2 q hq; omega))
  have hz4 : w.heap.size + 2 ≤ (((((w3.setCell ⟨w.heap.size + 1, 0, none⟩ (.int .i64 (i.1 : Nat))).setCell ⟨w.heap.size + 1, 1, none⟩ (.int .i64 (i.2.1 : Nat))).setCell ⟨w.heap.size + 1, 2, none⟩ (.int .i64 (i.2.2.1 : Nat))).setCell ⟨w.heap.size + 1, 3, none⟩ (.slice fa (zs i.2.2.2).length fc)).alloc (.cells #[.int .i64 (i.1 : Nat), .int .i64 (i.2.1 : Nat), .int .i64 (i.2.2.1 : Nat), .slice fa (zs i.2.2.2).length fc] 49)).heap.size := by have := f04.size; simp [World.setCell]; omega
  clear keep4 zW zW' C3 F03 O3 X6 k6 t6 k8 t8 x6 x7 l6 l8
  generalize hW4 : ((((w3.setCell ⟨w.heap.size + 1, 0, none⟩ (.int .i64 (i.1 : Nat))).setCell ⟨w.heap.size + 1, 1, none⟩ (.int .i64 (i.2.1 : Nat))).setCell ⟨w.heap.size + 1, 2, none⟩ (.int .i64 (i.2.2.1 : Nat))).setCell ⟨w.heap.size + 1, 3, none⟩ (.slice fa (zs i.2.2.2).length fc)).alloc (.cells #[.int .i64 (i.1 : Nat), .int .i64 (i.2.1 : Nat), .int .i64 (i.2.2.1 : Nat), .slice fa (zs i.2.2.2).length fc] 49) = W4 at *
  clear hW4
  have hrow4 : W4.ownsRow B 49 4 (.slice ha H.length hcp) H.length (flatP H) := ownsRow_of_block (unhide HROW) (fun q hq => f04.same q (World.ownsRow.lt (unhide HROW) q hq).2 (fun e => ((unhide HH).inT q (unhide HOWN q hq)).2 e))
  have cb := fun i hi => (cells4 i hi).1
  have c9 := (cells4 9 (by omega)).1
  have e9 : setC (limg pv vt va s tn) j v' 9 = .slice ha H.length hcp := by unfold setC; rw [if_neg (by omega), limg_pv _ _ _ _ _ _ (by omega), hp9]
  rw [e9] at c9
  have z9 := (cells4 9 (by omega)).2
  have l6 := (Array.getElem?_eq_some_iff.1 y6).1
  have l7 := (Array.getElem?_eq_some_iff.1 y7).1
  have Y7 := hide y7
  have Y6 := hide y6
  have R4 := hide hrow4
  have C4 := hide cells4
  have F04 := hide f04
  have O4 := hide o4
  have HGE2 := hide hge2
  have hBW4 : B ≤ W4.heap.size := by omega
  have hb4 : b < W4.heap.size := by omega
  clear hrow4 cells4 f04 o4 y6 y7 e9 cb hge2
  have hq7 : ∀ o, (W4.alloc o).drew.heap[w.heap.size + 1]? = some (.cells #[.int .i64 (i.1 : Nat), .int .i64 (i.2.1 : Nat), .int .i64 (i.2.2.1 : Nat), .slice fa (zs i.2.2.2).length fc] 49) := fun o => (Below.heap_alloc W4 o _ l7).trans (unhide Y7)
  have cq9 : ∀ o, (W4.alloc o).drew.cell? ⟨b, 9, none⟩ = some (.slice ha H.length hcp) := fun o => (World.cell?_of_block (w := W4) (a := ⟨b, 9, none⟩) (Below.heap_alloc W4 o _ hb4)).trans c9
  refine wp_region_held_drew (S := fun w' => w'.heap[w.heap.size + 1]? = some (.cells #[.int .i64 (i.1 : Nat), .int .i64 (i.2.1 : Nat), .int .i64 (i.2.2.1 : Nat), .slice fa (zs i.2.2.2).length fc] 49)) (by kernel_rfl) ?_ (fun hHeld => ?_)
  · exact unhide Y7
  refine wpAnyH_take (i := 0) (oi := { dst := some 87, op := Op.move (Operand.tmp 0), type := 177, pos := "run.go:167", after := #[], guard := none }) (v := ?_) rfl (by kernel_rfl) (by kernel_rfl) (by kernel_rfl) (fun _ _ _ h => h) (Or.inl ⟨by rfl, ?_⟩) (by assumption) ?_
  rotate_left
  · intro w hSw; have c7 := fun j => cell_of_row w _ j _ 49 (0, 0) hSw; go_simp; try with_reducible rfl
  simp only [Act.put, List.setIfInBounds_toArray, List.set_cons_zero, List.set_cons_succ]
  refine wpAnyH_take (i := 1) (oi := { dst := some 88, op := Op.move (Operand.tmp 0), type := 177, pos := "run.go:167", after := #[], guard := none }) (v := ?_) rfl (by kernel_rfl) (by kernel_rfl) (by kernel_rfl) (fun _ _ _ h => h) (Or.inl ⟨by rfl, ?_⟩) (by assumption) ?_
  rotate_left
  · intro w hSw; have c7 := fun j => cell_of_row w _ j _ 49 (0, 0) hSw; go_simp; try with_reducible rfl
  simp only [Act.put, List.setIfInBounds_toArray, List.set_cons_zero, List.set_cons_succ]
  refine wpAnyH_take (i := 2) (oi := { dst := some 89, op := Op.nilCheck (Operand.tmp 88), type := 0, pos := "run.go:167", after := #[{ on := 1, ground := Ground.data }], guard := none }) (v := ?_) rfl (by kernel_rfl) (by kernel_rfl) (by kernel_rfl) (fun _ _ _ h => h) (Or.inl ⟨by rfl, ?_⟩) (by assumption) ?_
  rotate_left
  · intro w hSw; have c7 := fun j => cell_of_row w _ j _ 49 (0, 0) hSw; go_simp; try with_reducible rfl
  simp only [Act.put, List.setIfInBounds_toArray, List.set_cons_zero, List.set_cons_succ]
  refine wpAnyH_take (i := 3) (oi := { dst := some 90, op := Op.fieldAddr 180 (Operand.tmp 89) 4, type := 0, pos := "run.go:167", after := #[{ on := 2, ground := Ground.data }], guard := none }) (v := ?_) rfl (by kernel_rfl) (by kernel_rfl) (by kernel_rfl) (fun _ _ _ h => h) (Or.inl ⟨by rfl, ?_⟩) (by assumption) ?_
  rotate_left
  · intro w hSw; have c7 := fun j => cell_of_row w _ j _ 49 (0, 0) hSw; go_simp; try with_reducible rfl
  simp only [Act.put, List.setIfInBounds_toArray, List.set_cons_zero, List.set_cons_succ]
  refine wpAnyH_take (i := 5) (oi := { dst := some 92, op := Op.load 49 (Operand.tmp 7), type := 49, pos := "run.go:167", after := #[], guard := none }) (v := ?_) rfl (by kernel_rfl) (by kernel_rfl) (by kernel_rfl) (fun _ _ _ h => h) (Or.inl ⟨by rfl, ?_⟩) (by assumption) ?_
  rotate_left
  · intro w hSw; have c7 := fun j => cell_of_row w _ j _ 49 (0, 0) hSw; go_simp; try with_reducible rfl
  simp only [Act.put, List.setIfInBounds_toArray, List.set_cons_zero, List.set_cons_succ]
  refine wpAnyH_ready (rs := [4, 6]) (by kernel_rfl) (by simp) ?_
  refine AllReadyH.cons (o := { dst := some 91, op := Op.load 44 (Operand.tmp 90), type := 44, pos := "run.go:167", after := #[{ on := 3, ground := Ground.data }], guard := none }) rfl (fun K' hK' => ?_) (AllReadyH.cons (o := { dst := some 93, op := Op.buildSlice 44 1 #[(0, Operand.tmp 92)], type := 44, pos := "run.go:167", after := #[{ on := 5, ground := Ground.data }], guard := none }) rfl (fun K' hK' => ?_) AllReadyH.nil)
  · go_simp
    refine hK'.out _ _ ?_ (fun hHeld => ?_)
    · exact unhide Y7
    clear hK' K'
    try simp only [Act.put, List.setIfInBounds_toArray, List.set_cons_zero, List.set_cons_succ]
    refine wpAnyH_ready (rs := [6]) (by kernel_rfl) (by simp) ?_
    refine AllReadyH.cons (o := { dst := some 93, op := Op.buildSlice 44 1 #[(0, Operand.tmp 92)], type := 44, pos := "run.go:167", after := #[{ on := 5, ground := Ground.data }], guard := none }) rfl (fun K' hK' => ?_) AllReadyH.nil
    go_simp
    refine hK'.out _ _ ?_ (fun hHeld => ?_)
    · exact hq7 _
    clear hK' K'
    try simp only [Act.put, List.setIfInBounds_toArray, List.set_cons_zero, List.set_cons_succ]
    refine wpAnyH_ready (rs := [7]) (by kernel_rfl) (by simp) ?_
    refine AllReadyH.cons (o := { dst := some 94, op := Op.call { callee := Callee.builtin Builtin.append, args := #[Operand.tmp 91, Operand.tmp 93], argTypes := #[44, 44] }, type := 44, pos := "run.go:167", after := #[{ on := 4, ground := Ground.data }, { on := 6, ground := Ground.data }], guard := none }) rfl (fun K' hK' => ?_) AllReadyH.nil
    refine step_grown (d := 94) rfl elemIn (by decide) (by decide) (v := .slice ha H.length hcp) (n := H.length) (m := 1) (xs := flatP H) (news := [.int .i64 (i.1 : Nat), .int .i64 (i.2.1 : Nat), .int .i64 (i.2.2.1 : Nat), .slice fa (zs i.2.2.2).length fc]) (B := B) (ad := ⟨W4.heap.size, 0, none⟩) (cap := 1) rfl (.tmp 91) (.tmp 93) rfl rfl rfl (World.ownsRow.alloc (unhide R4) (.cells #[.int .i64 (i.1 : Nat), .int .i64 (i.2.1 : Nat), .int .i64 (i.2.2.1 : Nat), .slice fa (zs i.2.2.2).length fc] 49)) rfl (World.news_of_block (heap_alloc_new W4 _)) (by simp [Value.oneCell']) (by omega) (by omega) (by show B ≤ (W4.alloc _).heap.size; simp; omega) ?_
    intro v5 w5 o5 f5 sh5
    obtain ⟨av, cv, rfl⟩ := sh5
    have hb5 : w5.heap[b]? = W4.heap[b]? := (f5.same b (by show b < (W4.alloc _).heap.size; simp; omega) (fun e => ((unhide HH).inT b (unhide HOWN b e)).2 rfl)).trans (Below.heap_alloc W4 _ _ hb4)
    have p9 := (World.cell?_of_block (w := W4) (a := ⟨b, 9, none⟩) hb5).trans c9
    have pz9 := (World.frozen?_of_block (w := W4) (a := ⟨b, 9, none⟩) hb5).trans z9
    have nown : ∀ q, w.heap.size ≤ q → ¬ own (.slice ha H.length hcp) q := fun q hq e => by have := (World.ownsRow.lt (unhide HROW) q e).2; omega
    have g7 : w5.heap[w.heap.size + 1]? = some (.cells #[.int .i64 (i.1 : Nat), .int .i64 (i.2.1 : Nat), .int .i64 (i.2.2.1 : Nat), .slice fa (zs i.2.2.2).length fc] 49) := (f5.same _ (by show _ < (W4.alloc _).heap.size; simp; omega) (nown _ (by omega))).trans (hq7 _)
    have g6 : w5.heap[w.heap.size]? = _ := (f5.same _ (by show _ < (W4.alloc _).heap.size; simp; omega) (nown _ (Nat.le_refl _))).trans ((Below.heap_alloc W4 _ _ l6).trans (unhide Y6))
    have O5 := hide o5
    have F5 := hide f5
    have NOWN := hide nown
    have HB5 := hide hb5
    have G6 := hide g6
    have G7 := hide g7
    have k6 := fun j => cell_of_row w5 _ j _ 49 (0, 0) g6
    have t6 := fun j => frozen_rowE g6 j
    have k7 := fun j => cell_of_row w5 _ j _ 49 (0, 0) g7
    have l6' := (Array.getElem?_eq_some_iff.1 g6).1
    have l7' := (Array.getElem?_eq_some_iff.1 g7).1
    clear o5 f5 nown hb5
    refine hK'.out _ _ g7 (fun hHeld => ?_)
    clear hK' K'
    simp only [List.setIfInBounds_toArray, List.set_cons_zero, List.set_cons_succ]
    refine wpAnyH_take (i := 8) (oi := { dst := some 95, op := Op.nilCheck (Operand.tmp 87), type := 0, pos := "run.go:167", after := #[{ on := 0, ground := Ground.data }, { on := 0, ground := Ground.phase }, { on := 1, ground := Ground.phase }, { on := 2, ground := Ground.phase }, { on := 3, ground := Ground.phase }, { on := 4, ground := Ground.phase }, { on := 5, ground := Ground.phase }, { on := 6, ground := Ground.phase }, { on := 7, ground := Ground.phase }], guard := none }) (v := ?_) rfl (by kernel_rfl) (by kernel_rfl) (by kernel_rfl) (fun _ _ _ h => h) (Or.inl ⟨by rfl, ?_⟩) (by assumption) ?_
    rotate_left
    · intro w hSw; have c7 := fun j => cell_of_row w _ j _ 49 (0, 0) hSw; go_simp; try with_reducible rfl
    simp only [Act.put, List.setIfInBounds_toArray, List.set_cons_zero, List.set_cons_succ]
    refine wpAnyH_take (i := 9) (oi := { dst := some 96, op := Op.fieldAddr 180 (Operand.tmp 95) 4, type := 0, pos := "run.go:167", after := #[{ on := 8, ground := Ground.data }, { on := 0, ground := Ground.phase }, { on := 1, ground := Ground.phase }, { on := 2, ground := Ground.phase }, { on := 3, ground := Ground.phase }, { on := 4, ground := Ground.phase }, { on := 5, ground := Ground.phase }, { on := 6, ground := Ground.phase }, { on := 7, ground := Ground.phase }], guard := none }) (v := ?_) rfl (by kernel_rfl) (by kernel_rfl) (by kernel_rfl) (fun _ _ _ h => h) (Or.inl ⟨by rfl, ?_⟩) (by assumption) ?_
    rotate_left
    · intro w hSw; have c7 := fun j => cell_of_row w _ j _ 49 (0, 0) hSw; go_simp; try with_reducible rfl
    simp only [Act.put, List.setIfInBounds_toArray, List.set_cons_zero, List.set_cons_succ]
    refine wpAnyH_ready (rs := [10]) (by kernel_rfl) (by simp) ?_
    refine AllReadyH.cons (o := { dst := none, op := Op.store 44 (Operand.tmp 96) (Operand.tmp 94), type := 0, pos := "run.go:167", after := #[{ on := 9, ground := Ground.data }, { on := 7, ground := Ground.data }, { on := 7, ground := Ground.chain }, { on := 0, ground := Ground.phase }, { on := 1, ground := Ground.phase }, { on := 2, ground := Ground.phase }, { on := 3, ground := Ground.phase }, { on := 4, ground := Ground.phase }, { on := 5, ground := Ground.phase }, { on := 6, ground := Ground.phase }, { on := 7, ground := Ground.phase }], guard := none }) rfl (fun K' hK' => ?_) AllReadyH.nil
    go_simp
    refine hK'.out _ _ ?_ (fun hHeld => ?_)
    · exact (Below.heap_setCell _ _ _ _ hbz1).trans g7
    clear hK' K'
    try simp only [Act.put, List.setIfInBounds_toArray, List.set_cons_zero, List.set_cons_succ]
    refine wpAnyH_done (by kernel_rfl) ?_ _
    clear g6 g7
    go_wp2
    have y6 : (((((w5.setCell ⟨b, 9, none⟩ (.slice av (H.length + 1) cv)).setCell ⟨w.heap.size, 0, none⟩ (.int .i64 (i.1 : Nat))).setCell ⟨w.heap.size, 1, none⟩ (.int .i64 (i.2.1 : Nat))).setCell ⟨w.heap.size, 2, none⟩ (.int .i64 (i.2.2.1 : Nat))).setCell ⟨w.heap.size, 3, none⟩ (.slice fa (zs i.2.2.2).length fc)).heap[w.heap.size]? = some (.cells #[.int .i64 (i.1 : Nat), .int .i64 (i.2.1 : Nat), .int .i64 (i.2.2.1 : Nat), .slice fa (zs i.2.2.2).length fc] 49) := setCell_row _ _ 3 _ 49 _ (setCell_row _ _ 2 _ 49 _ (setCell_row _ _ 1 _ 49 _ (setCell_row _ _ 0 _ 49 _ ((Below.heap_setCell _ _ _ _ hbz).trans (unhide G6)))))
    have ky := fun j => cell_of_row _ _ j _ 49 (0, 0) y6
    have hfin := hear_fin (ob := (.cells #[.int .i64 (i.1 : Nat), .int .i64 (i.2.1 : Nat), .int .i64 (i.2.2.1 : Nat), .slice fa (zs i.2.2.2).length fc] 49)) (unhide HH) (unhide HFIT) hj3 hj7 hleft (unhide HSC) (unhide HSB) (unhide HSP) (unhide HSL) (unhide HBL) (unhide HROW) (unhide HOWN) (unhide HFL) (unhide HLOG) (unhide HFITS) (unhide HCNT) hnh (unhide C4) (unhide F04) (unhide O4) hz4 (unhide O5) ⟨av, cv, rfl⟩ (unhide F5) (.int .i64 (i.1 : Nat)) (.int .i64 (i.2.1 : Nat)) (.int .i64 (i.2.2.1 : Nat)) (.slice fa (zs i.2.2.2).length fc)
    have HFIN := hide hfin
    clear hfin
    refine bodyPost_ret (v := .agg #[.int .i64 (i.1 : Nat), .int .i64 (i.2.1 : Nat), .int .i64 (i.2.2.1 : Nat), .slice fa (zs i.2.2.2).length fc]) (by simp [results, Tryz.results141, go_sem, ky]) rfl ?_
    exact ⟨fa, fc, rfl, (unhide HFIN).1, (unhide HFIN).2⟩
  · go_simp
    refine hK'.out _ _ ?_ (fun hHeld => ?_)
    · exact hq7 _
    clear hK' K'
    try simp only [Act.put, List.setIfInBounds_toArray, List.set_cons_zero, List.set_cons_succ]
    refine wpAnyH_ready (rs := [4]) (by kernel_rfl) (by simp) ?_
    refine AllReadyH.cons (o := { dst := some 91, op := Op.load 44 (Operand.tmp 90), type := 44, pos := "run.go:167", after := #[{ on := 3, ground := Ground.data }], guard := none }) rfl (fun K' hK' => ?_) AllReadyH.nil
    go_simp
    refine hK'.out _ _ ?_ (fun hHeld => ?_)
    · exact hq7 _
    clear hK' K'
    try simp only [Act.put, List.setIfInBounds_toArray, List.set_cons_zero, List.set_cons_succ]
    refine wpAnyH_ready (rs := [7]) (by kernel_rfl) (by simp) ?_
    refine AllReadyH.cons (o := { dst := some 94, op := Op.call { callee := Callee.builtin Builtin.append, args := #[Operand.tmp 91, Operand.tmp 93], argTypes := #[44, 44] }, type := 44, pos := "run.go:167", after := #[{ on := 4, ground := Ground.data }, { on := 6, ground := Ground.data }], guard := none }) rfl (fun K' hK' => ?_) AllReadyH.nil
    refine step_grown (d := 94) rfl elemIn (by decide) (by decide) (v := .slice ha H.length hcp) (n := H.length) (m := 1) (xs := flatP H) (news := [.int .i64 (i.1 : Nat), .int .i64 (i.2.1 : Nat), .int .i64 (i.2.2.1 : Nat), .slice fa (zs i.2.2.2).length fc]) (B := B) (ad := ⟨W4.heap.size, 0, none⟩) (cap := 1) rfl (.tmp 91) (.tmp 93) rfl rfl rfl (World.ownsRow.alloc (unhide R4) (.cells #[.int .i64 (i.1 : Nat), .int .i64 (i.2.1 : Nat), .int .i64 (i.2.2.1 : Nat), .slice fa (zs i.2.2.2).length fc] 49)) rfl (World.news_of_block (heap_alloc_new W4 _)) (by simp [Value.oneCell']) (by omega) (by omega) (by show B ≤ (W4.alloc _).heap.size; simp; omega) ?_
    intro v5 w5 o5 f5 sh5
    obtain ⟨av, cv, rfl⟩ := sh5
    have hb5 : w5.heap[b]? = W4.heap[b]? := (f5.same b (by show b < (W4.alloc _).heap.size; simp; omega) (fun e => ((unhide HH).inT b (unhide HOWN b e)).2 rfl)).trans (Below.heap_alloc W4 _ _ hb4)
    have p9 := (World.cell?_of_block (w := W4) (a := ⟨b, 9, none⟩) hb5).trans c9
    have pz9 := (World.frozen?_of_block (w := W4) (a := ⟨b, 9, none⟩) hb5).trans z9
    have nown : ∀ q, w.heap.size ≤ q → ¬ own (.slice ha H.length hcp) q := fun q hq e => by have := (World.ownsRow.lt (unhide HROW) q e).2; omega
    have g7 : w5.heap[w.heap.size + 1]? = some (.cells #[.int .i64 (i.1 : Nat), .int .i64 (i.2.1 : Nat), .int .i64 (i.2.2.1 : Nat), .slice fa (zs i.2.2.2).length fc] 49) := (f5.same _ (by show _ < (W4.alloc _).heap.size; simp; omega) (nown _ (by omega))).trans (hq7 _)
    have g6 : w5.heap[w.heap.size]? = _ := (f5.same _ (by show _ < (W4.alloc _).heap.size; simp; omega) (nown _ (Nat.le_refl _))).trans ((Below.heap_alloc W4 _ _ l6).trans (unhide Y6))
    have O5 := hide o5
    have F5 := hide f5
    have NOWN := hide nown
    have HB5 := hide hb5
    have G6 := hide g6
    have G7 := hide g7
    have k6 := fun j => cell_of_row w5 _ j _ 49 (0, 0) g6
    have t6 := fun j => frozen_rowE g6 j
    have k7 := fun j => cell_of_row w5 _ j _ 49 (0, 0) g7
    have l6' := (Array.getElem?_eq_some_iff.1 g6).1
    have l7' := (Array.getElem?_eq_some_iff.1 g7).1
    clear o5 f5 nown hb5
    refine hK'.out _ _ g7 (fun hHeld => ?_)
    clear hK' K'
    simp only [List.setIfInBounds_toArray, List.set_cons_zero, List.set_cons_succ]
    refine wpAnyH_take (i := 8) (oi := { dst := some 95, op := Op.nilCheck (Operand.tmp 87), type := 0, pos := "run.go:167", after := #[{ on := 0, ground := Ground.data }, { on := 0, ground := Ground.phase }, { on := 1, ground := Ground.phase }, { on := 2, ground := Ground.phase }, { on := 3, ground := Ground.phase }, { on := 4, ground := Ground.phase }, { on := 5, ground := Ground.phase }, { on := 6, ground := Ground.phase }, { on := 7, ground := Ground.phase }], guard := none }) (v := ?_) rfl (by kernel_rfl) (by kernel_rfl) (by kernel_rfl) (fun _ _ _ h => h) (Or.inl ⟨by rfl, ?_⟩) (by assumption) ?_
    rotate_left
    · intro w hSw; have c7 := fun j => cell_of_row w _ j _ 49 (0, 0) hSw; go_simp; try with_reducible rfl
    simp only [Act.put, List.setIfInBounds_toArray, List.set_cons_zero, List.set_cons_succ]
    refine wpAnyH_take (i := 9) (oi := { dst := some 96, op := Op.fieldAddr 180 (Operand.tmp 95) 4, type := 0, pos := "run.go:167", after := #[{ on := 8, ground := Ground.data }, { on := 0, ground := Ground.phase }, { on := 1, ground := Ground.phase }, { on := 2, ground := Ground.phase }, { on := 3, ground := Ground.phase }, { on := 4, ground := Ground.phase }, { on := 5, ground := Ground.phase }, { on := 6, ground := Ground.phase }, { on := 7, ground := Ground.phase }], guard := none }) (v := ?_) rfl (by kernel_rfl) (by kernel_rfl) (by kernel_rfl) (fun _ _ _ h => h) (Or.inl ⟨by rfl, ?_⟩) (by assumption) ?_
    rotate_left
    · intro w hSw; have c7 := fun j => cell_of_row w _ j _ 49 (0, 0) hSw; go_simp; try with_reducible rfl
    simp only [Act.put, List.setIfInBounds_toArray, List.set_cons_zero, List.set_cons_succ]
    refine wpAnyH_ready (rs := [10]) (by kernel_rfl) (by simp) ?_
    refine AllReadyH.cons (o := { dst := none, op := Op.store 44 (Operand.tmp 96) (Operand.tmp 94), type := 0, pos := "run.go:167", after := #[{ on := 9, ground := Ground.data }, { on := 7, ground := Ground.data }, { on := 7, ground := Ground.chain }, { on := 0, ground := Ground.phase }, { on := 1, ground := Ground.phase }, { on := 2, ground := Ground.phase }, { on := 3, ground := Ground.phase }, { on := 4, ground := Ground.phase }, { on := 5, ground := Ground.phase }, { on := 6, ground := Ground.phase }, { on := 7, ground := Ground.phase }], guard := none }) rfl (fun K' hK' => ?_) AllReadyH.nil
    go_simp
    refine hK'.out _ _ ?_ (fun hHeld => ?_)
    · exact (Below.heap_setCell _ _ _ _ hbz1).trans g7
    clear hK' K'
    try simp only [Act.put, List.setIfInBounds_toArray, List.set_cons_zero, List.set_cons_succ]
    refine wpAnyH_done (by kernel_rfl) ?_ _
    clear g6 g7
    go_wp2
    have y6 : (((((w5.setCell ⟨b, 9, none⟩ (.slice av (H.length + 1) cv)).setCell ⟨w.heap.size, 0, none⟩ (.int .i64 (i.1 : Nat))).setCell ⟨w.heap.size, 1, none⟩ (.int .i64 (i.2.1 : Nat))).setCell ⟨w.heap.size, 2, none⟩ (.int .i64 (i.2.2.1 : Nat))).setCell ⟨w.heap.size, 3, none⟩ (.slice fa (zs i.2.2.2).length fc)).heap[w.heap.size]? = some (.cells #[.int .i64 (i.1 : Nat), .int .i64 (i.2.1 : Nat), .int .i64 (i.2.2.1 : Nat), .slice fa (zs i.2.2.2).length fc] 49) := setCell_row _ _ 3 _ 49 _ (setCell_row _ _ 2 _ 49 _ (setCell_row _ _ 1 _ 49 _ (setCell_row _ _ 0 _ 49 _ ((Below.heap_setCell _ _ _ _ hbz).trans (unhide G6)))))
    have ky := fun j => cell_of_row _ _ j _ 49 (0, 0) y6
    have hfin := hear_fin (ob := (.cells #[.int .i64 (i.1 : Nat), .int .i64 (i.2.1 : Nat), .int .i64 (i.2.2.1 : Nat), .slice fa (zs i.2.2.2).length fc] 49)) (unhide HH) (unhide HFIT) hj3 hj7 hleft (unhide HSC) (unhide HSB) (unhide HSP) (unhide HSL) (unhide HBL) (unhide HROW) (unhide HOWN) (unhide HFL) (unhide HLOG) (unhide HFITS) (unhide HCNT) hnh (unhide C4) (unhide F04) (unhide O4) hz4 (unhide O5) ⟨av, cv, rfl⟩ (unhide F5) (.int .i64 (i.1 : Nat)) (.int .i64 (i.2.1 : Nat)) (.int .i64 (i.2.2.1 : Nat)) (.slice fa (zs i.2.2.2).length fc)
    have HFIN := hide hfin
    clear hfin
    refine bodyPost_ret (v := .agg #[.int .i64 (i.1 : Nat), .int .i64 (i.2.1 : Nat), .int .i64 (i.2.2.1 : Nat), .slice fa (zs i.2.2.2).length fc]) (by simp [results, Tryz.results141, go_sem, ky]) rfl ?_
    exact ⟨fa, fc, rfl, (unhide HFIN).1, (unhide HFIN).2⟩
end
end Go.Proofs.YtfmbebofllgmoaaGreatDoor
namespace Go.Proofs.YtfmbebofllgmoaaGreatDoor
open Go.RowKit

section
variable {B : Nat} {S T : Nat → Prop} {w : World} {b : Nat} {pv : Nat → Value} {vt va : Value} {s : PS} {A : List AT} {tn sq : Int} {x : RS}
/-- What a question's answer is. -/
def HAns (B : Nat) (S : Nat → Prop) (w : World) (b : Nat) (pv : Nat → Value) (vt va : Value) (A : List AT) (tn sq : Int) (s : PS) (R : Rep) (x' : RS) (e : Ending) (w' : World) : Prop :=
  ∃ kd of_ n fa fl fc, e = .returned (.agg #[.int .i64 kd, .int .i64 of_, .int .i64 n, .slice fa fl fc]) ∧ LPostS (SQR B) B S w b pv vt va A tn sq (hearS s R) x' w' ∧ (R.e = 0 → n = R.n ∧ IntsIn w' (.slice fa fl fc) R.files (fun q => q < w'.heap.size))
theorem rec_no (h : LQ (SQR B) B S w b pv vt va T s A tn sq x) (k o : Int) (a0 a1 a2 : Int)
    (hcall : ∀ W, Fr (fun _ => False) w W (fun _ => False) → Calls Tryz.prog 146 #[.pointer (some ⟨b, 0, none⟩), .int .i64 k, .int .i64 o] W fun e w' => e = .returned (.tuple #[.agg #[.int .i64 a0, .int .i64 a1, .int .i64 a2, .slice none 0 0], .bool false]) ∧ Fr (fun _ => False) W w' (fun _ => False)) :
    Calls Tryz.prog 141 #[.pointer (some ⟨b, 0, none⟩), .int .i64 k, .int .i64 o] w (HAns B S w b pv vt va A tn sq s noRep x) := by
  refine (hearR_no h k o a0 a1 a2 hcall).mono ?_
  rintro e w' ⟨rfl, hl⟩
  exact ⟨0, 0, 0, none, 0, 0, rfl, hl, fun h => absurd h (by decide)⟩
theorem rec_yes (h : LQ (SQR B) B S w b pv vt va T s A tn sq x) {k o : Int} {R : Rep} {x' : RS} (hR : (recAsk x k o) = (R, x')) (he : R.e = 0) (hm : mayR k o) (hlog : x'.log = x.log ++ frameS (inpS (inpOf R))) (j : Nat) (hj3 : 3 ≤ j) (hj7 : j < 7) (v' : Value)
    (hsc : IntsC w (setC pv j v' 3) x'.clocks (fun q => q < B)) (hsb : BatsC w (setC pv j v' 4) (x'.batches.map (·.2)) (fun q => q < B)) (hsp : IntsC w (setC pv j v' 5) x'.picks (fun q => q < B)) (hsl : IntsC w (setC pv j v' 6) x'.lots (fun q => q < B)) (hbl : ∀ y, y ∈ x'.batches → y.2.length ≤ 100000000)
    (hcall : Calls Tryz.prog 146 #[.pointer (some ⟨b, 0, none⟩), .int .i64 k, .int .i64 o] ((w.alloc (.cells #[.int .i64 0, .int .i64 0, .int .i64 0, .slice none 0 0] 49)).alloc (.cells #[.int .i64 0, .int .i64 0, .int .i64 0, .slice none 0 0] 49)) (WAns ((w.alloc (.cells #[.int .i64 0, .int .i64 0, .int .i64 0, .slice none 0 0] 49)).alloc (.cells #[.int .i64 0, .int .i64 0, .int .i64 0, .slice none 0 0] 49)) b (limg pv vt va s tn) k o R.n R.files j v')) :
    Calls Tryz.prog 141 #[.pointer (some ⟨b, 0, none⟩), .int .i64 k, .int .i64 o] w (HAns B S w b pv vt va A tn sq s R x') := by
  have ha := rec_ans (x := x) hm (by rw [hR]; exact he)
  rw [hR] at ha
  obtain ⟨a1, a2, a3, a4, a5, _, a7⟩ := ha
  dsimp only at a1 a2 a3 a4 a5 a7
  have e1 := congrArg Rep.kind a5
  have e2 := congrArg Rep.of a5
  have e3 := congrArg Rep.n a5
  have e4 := congrArg Rep.files a5
  refine (hearR_ok h (inpOf R) a3 j hj3 hj7 v' x' hlog a7 hsc hsb hsp hsl hbl (k := k) (o := o) (n := R.n) (fl := R.files) (e1.trans a1) (e2.trans a2) e3 e4 hcall).mono ?_
  rintro e w' ⟨fa, fc, rfl, h1, h2⟩
  refine ⟨k, o, R.n, fa, R.files.length, fc, rfl, ?_, fun _ => ⟨rfl, h2⟩⟩
  have e5 : hearS s R = { s with heard := wrap64 (s.heard + 1) } := by unfold hearS; rw [if_pos he]
  rw [e5]
  exact h1
theorem setC_same (pv : Nat → Value) (j : Nat) (v : Value) : setC pv j v j = v := by unfold setC; rw [if_pos rfl]
theorem setC_ne (pv : Nat → Value) {j k : Nat} (v : Value) (h : k ≠ j) : setC pv j v k = pv k := by unfold setC; rw [if_neg h]
set_option maxHeartbeats 1000000 in
theorem recQ_hear (B : Nat) : HearQ (SQR B) recAsk mayR B := ⟨fun {S T w b pv vt va s A tn sq x k o} h hf hm => by
  have f0 : Fr (fun _ => False) w ((w.alloc (.cells #[.int .i64 0, .int .i64 0, .int .i64 0, .slice none 0 0] 49)).alloc (.cells #[.int .i64 0, .int .i64 0, .int .i64 0, .slice none 0 0] 49)) (fun _ => False) := ((Fr.refl _ _).alloc _).alloc _
  have hW := h.fr (SQR.law B) f0
  have hB := h.below
  have hbB := (h.bound b h.inB).1
  have hP : ∀ q, q < B → q < ((w.alloc (.cells #[.int .i64 0, .int .i64 0, .int .i64 0, .slice none 0 0] 49)).alloc (.cells #[.int .i64 0, .int .i64 0, .int .i64 0, .slice none 0 0] 49)).heap.size ∧ q ≠ b := fun q hq => ⟨by have := f0.size; omega, by omega⟩
  have hback : ∀ q, q < B → w.heap[q]? = ((w.alloc (.cells #[.int .i64 0, .int .i64 0, .int .i64 0, .slice none 0 0] 49)).alloc (.cells #[.int .i64 0, .int .i64 0, .int .i64 0, .slice none 0 0] 49)).heap[q]? := fun q hq => (f0.same q (by omega) (fun h => h)).symm
  have hno : ∀ {k o : Int}, recAsk x k o = (noRep, x) → (∀ W, Fr (fun _ => False) w W (fun _ => False) → Calls Tryz.prog 146 #[.pointer (some ⟨b, 0, none⟩), .int .i64 k, .int .i64 o] W fun e w' => e = .returned (.tuple #[.agg #[.int .i64 k, .int .i64 o, .int .i64 0, .slice none 0 0], .bool false]) ∧ Fr (fun _ => False) W w' (fun _ => False)) → Calls Tryz.prog 141 #[.pointer (some ⟨b, 0, none⟩), .int .i64 k, .int .i64 o] w (HAns B S w b pv vt va A tn sq s (recAsk x k o).1 (recAsk x k o).2) := fun e hc => by rw [e]; exact rec_no h _ _ _ _ _ hc
  show Calls Tryz.prog 141 _ w (HAns B S w b pv vt va A tn sq s (recAsk x k o).1 (recAsk x k o).2)
  have hmm := hm
  rcases hm with ⟨rfl, rfl⟩ | ⟨rfl, rfl⟩ | ⟨rfl, h2, h8⟩ | ⟨rfl, h1, hM⟩
  · cases hx : x.clocks with
    | nil =>
      exact hno (by simp [recAsk, hx]) (fun W hF => world1n (c := limg pv vt va s tn) (P := fun q => q < B) (h.fr (SQR.law B) hF).cells (by rw [limg_pv _ _ _ _ _ _ (by omega)]; have := (h.fr (SQR.law B) hF).src.c; rw [hx] at this; exact this))
    | cons z r =>
      have hR : recAsk x 1 0 = (⟨1, 0, clampC z, [], 0⟩, { x with clocks := r, log := x.log ++ frameS (bodyS 1 0 (clampC z).toNat) }) := by simp [recAsk, hx]
      have hsrc : IntsC ((w.alloc (.cells #[.int .i64 0, .int .i64 0, .int .i64 0, .slice none 0 0] 49)).alloc (.cells #[.int .i64 0, .int .i64 0, .int .i64 0, .slice none 0 0] 49)) (limg pv vt va s tn 3) (z :: r) (fun q => q < B) := by rw [limg_pv _ _ _ _ _ _ (by omega)]; have := hW.src.c; rw [hx] at this; exact this
      obtain ⟨v', hv', hcall⟩ := world1 hW.cells hP hsrc
      rw [hR]
      exact rec_yes h hR rfl hmm rfl 3 (by omega) (by omega) v' (by rw [setC_same]; exact hv'.keep hback) (by rw [setC_ne _ _ (by omega)]; exact h.src.b) (by rw [setC_ne _ _ (by omega)]; exact h.src.p) (by rw [setC_ne _ _ (by omega)]; exact h.src.l) h.src.bl hcall
  · cases hx : x.batches with
    | nil =>
      exact hno (by simp [recAsk, hx]) (fun W hF => world2n (c := limg pv vt va s tn) (P := fun q => q < B) (h.fr (SQR.law B) hF).cells (by rw [limg_pv _ _ _ _ _ _ (by omega)]; obtain ⟨vals, h1, h2, _⟩ := (h.fr (SQR.law B) hF).src.b; rw [hx] at h2; obtain rfl : vals = [] := List.eq_nil_of_length_eq_zero (by simpa using h2); exact h1))
    | cons z r =>
      have hR : recAsk x 2 0 = (⟨2, 0, 0, filesL z.2, 0⟩, { x with batches := r, log := x.log ++ frameS (batchS (filesL z.2)) }) := by simp [recAsk, hx]
      have hsrc : BatsC ((w.alloc (.cells #[.int .i64 0, .int .i64 0, .int .i64 0, .slice none 0 0] 49)).alloc (.cells #[.int .i64 0, .int .i64 0, .int .i64 0, .slice none 0 0] 49)) (limg pv vt va s tn 4) (z.2 :: r.map (·.2)) (fun q => q < B) := by rw [limg_pv _ _ _ _ _ _ (by omega)]; have := hW.src.b; rw [hx] at this; exact this
      obtain ⟨v', hv', hcall⟩ := world2 hW.cells hP (h.src.bl z (by rw [hx]; simp)) hsrc
      rw [hR]
      exact rec_yes h hR rfl hmm (by show x.log ++ _ = x.log ++ frameS (batchS (zs ((filesL z.2).map Int.toNat))); rw [zs_toNat _ (fun y hy => (filesL_mem z.2 y hy).1)]) 4 (by omega) (by omega) v' (by rw [setC_ne _ _ (by omega)]; exact h.src.c) (by rw [setC_same]; exact hv'.keep hback) (by rw [setC_ne _ _ (by omega)]; exact h.src.p) (by rw [setC_ne _ _ (by omega)]; exact h.src.l) (fun y hy => h.src.bl y (by rw [hx]; exact List.mem_cons_of_mem _ hy)) hcall
  · cases hx : x.picks with
    | nil =>
      exact hno (by simp [recAsk, hx]) (fun W hF => world3n (c := limg pv vt va s tn) (P := fun q => q < B) (h.fr (SQR.law B) hF).cells o (by rw [limg_pv _ _ _ _ _ _ (by omega)]; have := (h.fr (SQR.law B) hF).src.p; rw [hx] at this; exact this))
    | cons z r =>
      have hR : recAsk x 3 o = (⟨3, o, z % o, [], 0⟩, { x with picks := r, log := x.log ++ frameS (bodyS 3 o.toNat (z % o).toNat) }) := by simp [recAsk, hx]
      have hsrc : IntsC ((w.alloc (.cells #[.int .i64 0, .int .i64 0, .int .i64 0, .slice none 0 0] 49)).alloc (.cells #[.int .i64 0, .int .i64 0, .int .i64 0, .slice none 0 0] 49)) (limg pv vt va s tn 5) (z :: r) (fun q => q < B) := by rw [limg_pv _ _ _ _ _ _ (by omega)]; have := hW.src.p; rw [hx] at this; exact this
      obtain ⟨v', hv', hcall⟩ := world3 hW.cells hP o (by omega) (by omega) hsrc
      rw [hR]
      exact rec_yes h hR rfl hmm rfl 5 (by omega) (by omega) v' (by rw [setC_ne _ _ (by omega)]; exact h.src.c) (by rw [setC_ne _ _ (by omega)]; exact h.src.b) (by rw [setC_same]; exact hv'.keep hback) (by rw [setC_ne _ _ (by omega)]; exact h.src.l) h.src.bl hcall
  · cases hx : x.lots with
    | nil =>
      exact hno (by simp [recAsk, hx]) (fun W hF => world4n (c := limg pv vt va s tn) (P := fun q => q < B) (h.fr (SQR.law B) hF).cells o (by rw [limg_pv _ _ _ _ _ _ (by omega)]; have := (h.fr (SQR.law B) hF).src.l; rw [hx] at this; exact this))
    | cons z r =>
      have hR : recAsk x 4 o = (⟨4, o, z % o, [], 0⟩, { x with lots := r, log := x.log ++ frameS (bodyS 4 o.toNat (z % o).toNat) }) := by simp [recAsk, hx]
      have hsrc : IntsC ((w.alloc (.cells #[.int .i64 0, .int .i64 0, .int .i64 0, .slice none 0 0] 49)).alloc (.cells #[.int .i64 0, .int .i64 0, .int .i64 0, .slice none 0 0] 49)) (limg pv vt va s tn 6) (z :: r) (fun q => q < B) := by rw [limg_pv _ _ _ _ _ _ (by omega)]; have := hW.src.l; rw [hx] at this; exact this
      obtain ⟨v', hv', hcall⟩ := world4 hW.cells hP o (by omega) (by omega) hsrc
      rw [hR]
      exact rec_yes h hR rfl hmm rfl 6 (by omega) (by omega) v' (by rw [setC_ne _ _ (by omega)]; exact h.src.c) (by rw [setC_ne _ _ (by omega)]; exact h.src.b) (by rw [setC_ne _ _ (by omega)]; exact h.src.p) (by rw [setC_same]; exact hv'.keep hback) h.src.bl hcall⟩
end
end Go.Proofs.YtfmbebofllgmoaaGreatDoor
namespace Go.Proofs.YtfmbebofllgmoaaGreatDoor
open Go.RowKit
attribute [local go_sem ↓] Go.wp_at_zero Go.wp_at_succ
theorem flatP_get4 : ∀ (A : List (Inp × Value)) (i : Nat) (p : Inp × Value), A[i]? = some p → (flatP A)[i * 4]? = some (.int .i64 p.1.1) ∧ (flatP A)[i * 4 + 1]? = some (.int .i64 p.1.2.1) ∧ (flatP A)[i * 4 + 2]? = some (.int .i64 p.1.2.2.1) ∧ (flatP A)[i * 4 + 3]? = some p.2
  | [], i, p, h => by simp at h
  | x :: r, 0, p, h => by
    simp at h
    subst h
    exact ⟨rfl, rfl, rfl, rfl⟩
  | x :: r, i + 1, p, h => by
    have hr := flatP_get4 r i p (by simpa using h)
    have e : ∀ j, (flatP (x :: r))[(i + 1) * 4 + j]? = (flatP r)[i * 4 + j]? := fun j => by
      rw [show (i + 1) * 4 + j = (i * 4 + j) + 4 by omega]; rfl
    exact ⟨(e 0).trans hr.1, (e 1).trans hr.2.1, (e 2).trans hr.2.2.1, (e 3).trans hr.2.2.2⟩
theorem inpS_bs {i : Inp} (hf : Fit i) : bs (inpS i) = bodyL i := by
  obtain ⟨k, o, n, fs⟩ := i
  unfold inpS
  rcases hf with ⟨h1, h2, h3, h4⟩ | ⟨h1, h2, h3, h4⟩ | ⟨h1, h2, h3, h4, h5⟩ | ⟨h1, h2, h3, h4, h5⟩ | ⟨h1, h2, h3, h4, h5⟩
  · dsimp only at *
    subst h1 h2 h4
    rw [if_neg (by omega)]
    exact bs_body1 1 0 _ [] (.inl rfl)
  · dsimp only at *
    subst h1 h2
    have e : (zs fs).map Int.toNat = fs := by
      unfold zs
      rw [List.map_map]
      conv => rhs; rw [← List.map_id fs]
      apply List.map_congr_left
      intro z _
      simp
    rw [if_pos rfl, bs_batch (zs fs) 0 n, e]
  · dsimp only at *
    subst h1 h5
    rw [if_neg (by omega)]
    exact bs_body2 3 o n [] (.inl rfl)
  · dsimp only at *
    subst h1 h5
    rw [if_neg (by omega)]
    exact bs_body2 4 o n [] (.inr rfl)
  · dsimp only at *
    subst h1 h2 h5
    rw [if_neg (by omega)]
    exact bs_body1 5 0 _ [] (.inr rfl)
theorem inpS_size {i : Inp} (hf : Fit i) : (inpS i).size ≤ 10 := by
  have := bodyL_len hf
  rw [← inpS_bs hf, bs_len] at this
  omega
theorem inpBody_any {i : Inp} (hf : Fit i) {W : World} {fv : Value} {P : Nat → Prop} (hP : ∀ q, P q → q < W.heap.size) (hl : IntsIn W fv (zs i.2.2.2) P) : Calls Tryz.prog 112 #[.agg #[.int .i64 (i.1 : Nat), .int .i64 (i.2.1 : Nat), .int .i64 (i.2.2.1 : Nat), fv]] W fun e w' => e = .returned (.string (inpS i)) ∧ Fr (fun _ => False) W w' (fun _ => False) := by
  obtain ⟨a, c, hv, _⟩ := id hl
  have hfl := hf.files
  obtain ⟨k, o, n, fs⟩ := i
  unfold inpS
  rcases hf with ⟨h1, h2, h3, h4⟩ | ⟨h1, h2, h3, h4⟩ | ⟨h1, h2, h3, h4, h5⟩ | ⟨h1, h2, h3, h4, h5⟩ | ⟨h1, h2, h3, h4, h5⟩
  · dsimp only at *
    subst h1
    rw [if_neg (by omega)]
    exact body_one 1 o n fv a _ c hv (.inl rfl) (by omega) W
  · dsimp only at *
    subst h1
    rw [if_pos rfl]
    refine body_files o n fv (zs fs) W hP hl (by rw [zs_len]; exact hfl.1) (fun z hz => ?_)
    unfold zs at hz
    obtain ⟨y, hy, rfl⟩ := List.mem_map.1 hz
    have := hfl.2 y hy
    show (0 : Int) ≤ (y : Int) ∧ (y : Int) < 8
    exact ⟨by omega, by omega⟩
  · dsimp only at *
    subst h1
    rw [if_neg (by omega)]
    exact body_two 3 o n fv a _ c hv (.inl rfl) (by omega) (by omega) W
  · dsimp only at *
    subst h1
    rw [if_neg (by omega)]
    exact body_two 4 o n fv a _ c hv (.inr rfl) (by omega) (by omega) W
  · dsimp only at *
    subst h1
    rw [if_neg (by omega)]
    exact body_one 5 o n fv a _ c hv (.inr rfl) (by omega) W
set_option maxHeartbeats 2000000 in
theorem writeQ_any {w : World} {B : Nat} {vh : Value} {H : List (Inp × Value)} {P : Nat → Prop} (hrow : w.ownsRow B 49 4 vh H.length (flatP H)) (hcnt : H.length ≤ 20000000) (hfit : ∀ y, y ∈ H → Fit y.1) (hP : ∀ q, P q → q < w.heap.size) (hfl : ∀ y, y ∈ H → IntsIn w y.2 (zs y.1.2.2.2) P) (e : Int) (he1 : 1 ≤ e) (he5 : e ≤ 5) :
    Calls Tryz.prog 108 #[vh, .int .i64 e] w fun r w' => r = .returned (.string (heardS H ++ frameS (bodyS 5 0 e.toNat))) ∧ Fr (fun _ => False) w w' (fun _ => False) := by
  obtain ⟨ha, hc, rfl⟩ := row_shape hrow
  have hbody : ∀ y, y ∈ H → ∀ W, Fr (fun _ => False) w W (fun _ => False) → Calls Tryz.prog 112 #[.agg #[.int .i64 (y.1.1 : Nat), .int .i64 (y.1.2.1 : Nat), .int .i64 (y.1.2.2.1 : Nat), y.2]] W fun e w' => e = .returned (.string (inpS y.1)) ∧ Fr (fun _ => False) W w' (fun _ => False) := fun y hy W hW =>
    inpBody_any (hfit y hy) (fun q hq => Nat.lt_of_lt_of_le (hP q hq) hW.size) (intsIn_kept (hfl y hy) (fun q hq => hW.same q (hP q hq) (fun h => h)) (fun _ h => h))
  have HR := hide hrow
  have HB := hide hbody
  have HFIT := hide hfit
  have hend := fun W => body_one 5 0 e.toNat (.slice none 0 0) none 0 0 rfl (.inr rfl) (by omega) W
  have hee : ((e.toNat : Nat) : Int) = e := by omega
  rw [hee] at hend
  have hfe : (bodyS 5 0 e.toNat).size ≤ 10 := by
    have := inpS_size (i := (5, 0, e.toNat, [])) (fit_end e.toNat (by omega) (by omega))
    exact this
  have HE := hide hend
  clear hrow hbody hfit hfl hP hend hee
  go_enter Tryz.func108, Tryz.ntmps108
  go_wp2
  go_loopw [5, 6] (fun u i wr => ∃ k : Nat, k ≤ H.length ∧ i = .int .i64 k ∧ u = .string (heardS (H.take k)) ∧ (heardS (H.take k)).size ≤ 3 + 40 * k ∧ Fr (fun _ => False) w wr (fun _ => False)) (fun _ i _ => H.length - (intOf i).toNat)
  case atStart => exact ⟨0, Nat.zero_le _, rfl, rfl, (by decide : headS.size ≤ 3 + 40 * 0), Fr.refl _ _⟩
  case round =>
    obtain ⟨k, hk, rfl, rfl, hsz0, hf⟩ := hrel
    by_cases hlt : k < H.length
    · obtain ⟨y, hy⟩ : ∃ y, H[k]? = some y := ⟨_, List.getElem?_eq_getElem hlt⟩
      obtain ⟨g, cg, hv, _, hgl, hcell⟩ := row_cell (unhide HR) (by omega)
      injection hv with hv hv2 hv3
      subst hv
      clear hv2 hv3
      obtain ⟨g0, g1, g2, g3⟩ := flatP_get4 H k y hy
      have c0 := (hf.cell g _ hgl (fun h => h)).trans (hcell _ _ g0)
      have c1 := (hf.cell g _ hgl (fun h => h)).trans (hcell _ _ g1)
      have c2 := (hf.cell g _ hgl (fun h => h)).trans (hcell _ _ g2)
      have c3 := (hf.cell g _ hgl (fun h => h)).trans (hcell _ _ g3)
      have hk0 : (0 : Int) ≤ (k : Int) := by omega
      have hk1 : (k : Int) < (H.length : Int) := by omega
      have HB1 := hide (unhide HB y (List.mem_of_getElem? hy) wr hf)
      have hsn : heardS (H.take (k + 1)) = heardS (H.take k) ++ frameS (inpS y.1) := by rw [List.take_add_one, hy]; exact heardS_snoc _ _
      have HSN := hide hsn
      have HY := hide hy
      have HF := hide hf
      clear hf hcell g0 g1 g2 g3 hy hsn
      have hsz := inpS_size (unhide HFIT y (List.mem_of_getElem? (by exact unhide HY)))
      have hfs := frameS_size (inpS y.1) (by omega)
      have hsn2 : (heardS (H.take k) ++ frameS (inpS y.1)).size ≤ 3 + 40 * (k + 1) := by rw [ByteArray.size_append]; omega
      have HSN2 := hide hsn2
      clear hsn2
      go_wp2_with (first | (go_at_call 112; refine (unhide HB1).mono ?_; rintro e1 w2 ⟨rfl, f2⟩; have F2 := hide f2; clear f2 HB1) | (go_at_call 130; refine (frame_any _ (by omega) w2).mono ?_; rintro e1 w3 ⟨rfl, f3⟩; have F3 := hide f3; clear f3))
      go_roundw
      case rel => exact ⟨k + 1, by omega, by go_num, by rw [unhide HSN], by rw [unhide HSN]; exact unhide HSN2, (unhide HF).trans ((unhide F2).trans (unhide F3))⟩
      case measure => simp [intOf]; omega
    · have hkl : k = H.length := by omega
      subst hkl
      rw [List.take_length] at hsz0 ⊢
      have hfs := frameS_size (bodyS 5 0 e.toNat) (by omega)
      have hk1 : ¬ (H.length : Int) < (H.length : Int) := by omega
      have HF := hide hf
      clear hf
      go_wp2_with (first | (go_at_call 112; refine (unhide HE wr).mono ?_; rintro e1 w2 ⟨rfl, f2⟩; have F2 := hide f2; clear f2) | (go_at_call 130; refine (frame_any _ (by omega) w2).mono ?_; rintro e1 w3 ⟨rfl, f3⟩; have F3 := hide f3; clear f3))
      go_ret
      exact ⟨rfl, (unhide HF).trans ((unhide F2).trans (unhide F3))⟩
end Go.Proofs.YtfmbebofllgmoaaGreatDoor
