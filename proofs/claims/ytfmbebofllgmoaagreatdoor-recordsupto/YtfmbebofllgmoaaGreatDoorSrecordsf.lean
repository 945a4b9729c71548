/-
  PROVED HERE: the document's batch: the ready files wake as the model (wakeM) says. the document's idle. the document's run is the model's (runM). the document's hear over a world answers as the recorder's model (recAsk) says. the document's world is a source that keeps its word: it answers as the recorder's does. the document's loop over a world, as it begins. the document's writer: the log of what was heard. the document's final, and its fuel.
-/
import Derived.Test.YtfmbebofllgmoaaGreatDoorProg
import Derived.WalkKit
import Derived.WalkSpells
import Derived.WalkLawsBesides
import Derived.Deep.QuietTactic
import Derived.BigQuiet
import Derived.Deep.RegionHeld3
import Derived.Deep.AppendLies
import Derived.Laws.EntriesVeiled
import Derived.Deep.DrawnRows
import Derived.BigRegion
import Derived.Deep.LoopGhost
import Derived.Deep.MidRow
import Derived.Shelf.SlSortCmp.SmallK
import Derived.Shelf.SlicesG.Cmp
import Derived.Shelf.Small.Bits
import Derived.Deep.RegionLaw
import Derived.Lib.SliceRun
import Derived.Laws.StructEq
import Derived.Laws.BytesString
import Derived.ArgAppend
import Derived.Deep.DeepCutAuto
import Derived.Conc.LoneCalls
import Derived.Calls
import Derived.Tactics
import Derived.KernelRfl
import Derived.Laws.Rows
import Derived.Lib.SlBytesConst
import Derived.Laws.BitsAllLaws
import Derived.RangeFuncOwn
import Derived.Laws.IdiomStrings
import Derived.RangeFuncNested
import Derived.RangeFuncBound
import Derived.RangeFuncCalls
import Derived.RangeFuncLeaves
import Derived.Shelf.RegionOpen
import Derived.OwnWalkIn
import Derived.TacticsInMore
import Derived.Maps.OwnIn
import Derived.Maps.AppendAt
import Derived.LoopNIn
import Derived.LoopIn
import Derived.ChangeKeysEq
import Derived.Deep.DeepAppendRoom
import Derived.Deep.Upon
import Derived.Test.YtfmbebofllgmoaaGreatDoorSrecordse
namespace Go.Proofs.YtfmbebofllgmoaaGreatDoor
open Go.RowKit
attribute [local go_sem ↓] Go.wp_at_zero Go.wp_at_succ

theorem wpList_grow0 {ops : Array Oper} {rest : List Oper} {o : Oper} {a : Act} {Q : Exit → Act → World → Prop} {w : World} {B t e size bytes : Nat} (E : Elem t e size bytes) (hs0 : 0 < size) (hs1 : bytes ≤ 140) {v : Value} {n m : Nat} {xs news : List Value} (hgd : o.guard = none) (sv xv : Operand)
    (ho : o.op = .call { callee := .builtin .append, args := #[sv, xv], argTypes := #[t, t] }) {ad : Addr} {cap : Nat} (hs : a.eval sv = v) (hx : a.eval xv = .slice (some ad) m cap) (hrow : w.ownsRow B e size v n xs) (hl : news.length = m * size)
    (hc : ∀ j u, news[j]? = some u → w.cell? (ad.add j) = some u) (h1 : ∀ u ∈ news, u.oneCell' = true) (hn : n + m ≤ 1000000000000) (hB : B ≤ w.heap.size)
    (h : ∀ v' w', w'.ownsRow B e size v' (n + m) (xs ++ news) → Fr (own v) w w' (own v') → (∃ a c, v' = .slice a (n + m) c) → wpList Tryz.prog ops Q rest (a.put o.dst v') w') : wpList Tryz.prog ops Q (o :: rest) a w := by
  rcases Nat.eq_zero_or_pos m with h0 | h0
  · subst h0
    have hnl : news = [] := List.eq_nil_of_length_eq_zero (by rw [hl, Nat.zero_mul])
    subst hnl
    obtain ⟨i, z, hi, hz, hsz, hby, hzc⟩ := E.i
    obtain ⟨va, vc, hv⟩ := row_shape hrow
    have hle : n ≤ vc := by
      rcases hrow.2 with ⟨e1, e2⟩ | ⟨g, cp, cur, e1, _, _, e2, _⟩
      · omega
      · rw [hv] at e1; cases e1; exact e2
    have hrun := Go.run_append_nothing (P := Tryz.prog) w t t o.type e i E.u hi va n vc hle (.slice (some ad) 0 cap) (Go.Src.ofSlice w E.u ad 0 cap [] (by simp) (fun j u hj => by simp at hj) (fun u hu => by simp at hu))
    refine wpList_plain hgd fun K hK => ?_
    unfold Oper.wp execOp
    simp only [ho, resolve, invoke, builtin, Sem.run_bind, Sem.run_pure, Result.andThen_ok, List.map_toArray, List.map_cons, List.map_nil, hs, hx, hv, hrun]
    refine hK _ _ (h _ w ?_ (by rw [hv]; exact Fr.refl _ _) ⟨va, vc, rfl⟩)
    rw [List.append_nil, ← hv]
    exact hrow
  · exact wpList_grown E hs0 hs1 hgd sv xv ho hs hx hrow hl hc h1 h0 hn hB h

theorem field49 (a b c d : Value) (w : World) : Sem.run Tryz.prog (Instr.field 49 (.agg #[a, b, c, d]) 2) w = .ok c w := by kernel_rfl
section
variable {σ : Type} {SQ : (Nat → Value) → (Nat → Prop) → World → σ → Prop} {ask : σ → Int → Int → Rep × σ} {may : Int → Int → Prop} {mes : σ → Nat} {B : Nat} {S T : Nat → Prop} {w : World} {b : Nat} {pv : Nat → Value} {vt va : Value} {s : PS} {A : List AT} {tn sq : Int} {x : σ}

/-- How far the ready files have come. -/
def BaRel (SQ : (Nat → Value) → (Nat → Prop) → World → σ → Prop) (ask : σ → Int → Int → Rep × σ) (B : Nat) (S : Nat → Prop) (w : World) (b : Nat) (pv : Nat → Value) (tn sq : Int) (p : Pg) (M : Nat) (tot : PS × σ) (k : Nat) (u : Value) (wr : World) : Prop :=
  ∃ S' pv' vt' va' T' A' s' x' N l, LQ SQ B S' wr b pv' vt' va' T' s' A' tn sq x' ∧ (∀ i, i < 3 → pv' i = pv i) ∧ Fr S w wr S' ∧ OwnI wr w.heap.size u l ∧ (∀ q, own u q → ¬ S' q) ∧ wkM ask (gF ask p) k l s' x' = tot ∧ RInv p N s' ∧ N + l.length ≤ M ∧ (∀ z, z ∈ l → 0 ≤ z ∧ z < 8) ∧ l.length ≤ k ∧ l.length ≤ 8
theorem filt_take (l : List Int) (f : Int → Bool) (k : Nat) (z : Int) (h : l[k]? = some z) : (l.take (k + 1)).filter f = (l.take k).filter f ++ (if f z then [z] else []) := by
  rw [List.take_add_one, h, List.filter_append]
  by_cases e : f z = true <;> simp [e]

set_option maxHeartbeats 8000000 in
set_option maxRecDepth 20000 in
theorem batchQ_any (L : SQLaw SQ B) (K : HearQ SQ ask may B) (hm : may 1 0) (hm2 : may 2 0) (hm3 : ∀ n : Nat, 2 ≤ n → n ≤ 8 → may 3 n) (hm4 : ∀ v, 1 ≤ v → v ≤ 1000000 → may 4 v) (hs : SrcOk ask mes)
    {w0 : World} (hB : B = w0.heap.size) (hbel : Below w0.heap.size w0 w) {p : Pg} (pg : PgAt w0 pv p) (ok : PgOk p) (h : LQ SQ B S w b pv vt va T s A tn sq x) (hf : s.fin = 0) {N : Nat} (hq : RInv p N s) (hN : N + 8 ≤ 100000000) :
    Calls Tryz.prog 129 #[.pointer (some ⟨b, 0, none⟩)] w fun e w' => e = .returned (.tuple #[]) ∧ LPost SQ B S w b pv tn sq (wakeM ask p s x).1 (wakeM ask p s x).2 w' := by
  have hc := K.calls h hf hm2
  have hfi8 := hs.files x
  have hmost := hs.most x
  unfold wakeM
  generalize ask x 2 0 = R at *
  obtain ⟨⟨rk, ro, rn, rf, re⟩, x'⟩ := R
  dsimp only at hc hfi8 hmost ⊢
  have hSB : ∀ k, S k → B ≤ k := fun k hk => (h.bound k hk).1
  have hBw : B ≤ w.heap.size := h.below
  obtain ⟨fa0, fc0, hfv, _, hff⟩ := pg.f
  have HC := hide hc
  have HSB := hide hSB
  have HBW := hide hBw
  have HBEL := hide hbel
  have HBE := hide hB
  have HFF := hide hff
  have HQ := hide hq
  have HF8 := hide hfi8
  have HF := hide hf
  clear hc h hSB hBw hbel hB hff hq hfi8 hf
  by_cases hre : re = 0
  · rw [if_pos hre]
    generalize htot : wkM ask (gF ask p) 8 (rf.filter fun z => s.wat z.toNat) { s with heard := wrap64 (s.heard + 1) } x' = tot
    have e0 : hearS s ⟨rk, ro, rn, rf, re⟩ = { s with heard := wrap64 (s.heard + 1) } := by unfold hearS; rw [if_pos hre]
    rw [e0] at HC
    have HTOT := hide htot
    have HRE := hide hre
    clear htot hre e0
    go_enter Tryz.func129, Tryz.ntmps129
    go_wp2_with fail
    go_at_call 141
    refine (unhide HC).mono ?_
    rintro e w1 ⟨kd, of_, n, fa, fl, fc, rfl, ⟨S1, pv1, T1, h1, p1, f1⟩, hn⟩
    obtain ⟨hnn, hints⟩ := hn (unhide HRE)
    subst hnn
    obtain ⟨fa', fc', hfe, hcells⟩ := hints
    injection hfe with hfe1 hfe2 hfe3
    subst hfe1 hfe2 hfe3
    have k27 : w1.cell? ⟨b, 27, none⟩ = some (.int .i64 0) := (h1.cell 27 (by omega)).trans (by rw [limg_fin]; exact congrArg (fun z => some (Value.int .i64 z)) (unhide HF))
    have hb1 := h1.blt
    have hn5 : w1.heap.size ≠ b := by omega
    have hn6 : ¬ b = w1.heap.size := by omega
    have ha := h1.alloc L (.cells #[.int .i64 kd, .int .i64 of_, .int .i64 n, .slice fa rf.length fc] 49)
    have g49 := heap_alloc_new w1 (.cells #[.int .i64 kd, .int .i64 of_, .int .i64 n, .slice fa rf.length fc] 49)
    have hcl : rf = [] ∨ ∃ q off, fa = some ⟨q, off, none⟩ ∧ q < w1.heap.size ∧ ∀ i, i < rf.length → (w1.alloc (.cells #[.int .i64 kd, .int .i64 of_, .int .i64 n, .slice fa rf.length fc] 49)).cell? ⟨q, off + i, none⟩ = some (.int .i64 (rf.getD i 0)) := by
      rcases hcells with h0 | ⟨q, off, e, hq, hcc⟩
      · exact .inl h0
      · exact .inr ⟨q, off, e, hq, fun i hi => (World.cell?_of_block (w := w1) (a := ⟨q, off + i, none⟩) (Below.heap_alloc _ _ _ hq)).trans (hcc i hi)⟩
    have HA := hide ha
    have FA := hide (f1.alloc (.cells #[.int .i64 kd, .int .i64 of_, .int .i64 n, .slice fa rf.length fc] 49))
    have P1 := hide p1
    have HCL := hide hcl
    have G49 := hide g49
    have hw1 : w1.heap.size < (w1.alloc (.cells #[.int .i64 kd, .int .i64 of_, .int .i64 n, .slice fa rf.length fc] 49)).heap.size := by simp
    clear h1 f1 p1 hcells hn ha hcl g49 HC
    go_wp2
    generalize hW1 : w1.alloc (.cells #[.int .i64 kd, .int .i64 of_, .int .i64 n, .slice fa rf.length fc] 49) = W1 at *
    clear hW1 k27
    go_loopw [3, 4] (fun u i wr => ∃ k : Nat, k ≤ rf.length ∧ i = .int .i64 k ∧ ∃ la lc, u = .slice la ((rf.take k).filter fun z => s.wat z.toNat).length lc ∧ Hid (OwnI wr W1.heap.size (.slice la ((rf.take k).filter fun z => s.wat z.toNat).length lc) ((rf.take k).filter fun z => s.wat z.toNat) ∧ Fr (fun _ => False) W1 wr (fun _ => False))) (fun _ i _ => rf.length - (intOf i).toNat)
    case atStart => exact ⟨0, Nat.zero_le _, rfl, none, 0, rfl, World.ownsRow_nil _ _ _ _, Fr.refl _ _⟩
    case round =>
      obtain ⟨k, hk, rfl, la, lc, rfl, hh⟩ := hrel
      have hr := (unhide HA).fr L (unhide hh).2
      have k49 := fun j => cell_of_row wr w1.heap.size j _ 49 (0, 0) (((unhide hh).2.same _ hw1 (fun h => h)).trans (unhide G49))
      by_cases hlt : k < rf.length
      · have hz : rf[k]? = some (rf.getD k 0) := by rw [List.getD_eq_getElem?_getD, List.getElem?_eq_getElem hlt]; rfl
        obtain ⟨z, hzz⟩ : ∃ z, rf.getD k 0 = z := ⟨_, rfl⟩
        rw [hzz] at hz
        obtain ⟨z0, z8⟩ := unhide HF8 z (List.mem_of_getElem? hz)
        rcases unhide HCL with h0 | ⟨q, off, rfl, hql, hcc⟩
        · rw [h0] at hlt; simp at hlt
        have kz := ((unhide hh).2.cell q (off + k) (by omega) (fun h => h)).trans (hcc k hlt)
        rw [hzz] at kz
        have kw := (hr.cell (17 + z.toNat) (by omega)).trans (by rw [limg_wat _ _ _ _ _ _ (by omega)])
        change wr.cell? _ = some (.bool (s.wat z.toNat)) at kw
        have k2 := (hr.cell 2 (by omega)).trans (by rw [limg_pv _ _ _ _ _ _ (by omega), unhide P1 2 (by omega), hfv])
        have htk := filt_take rf (fun z => s.wat z.toNat) k z hz
        have hle : ((rf.take k).filter fun z => s.wat z.toNat).length ≤ 8 := by have := List.length_filter_le (fun z => s.wat z.toNat) (rf.take k); rw [List.length_take] at this; omega
        have hk0 : (0 : Int) ≤ (k : Int) := by omega
        have hk1 : (k : Int) < (rf.length : Int) := by omega
        have hqw : q < wr.heap.size := by have := (unhide hh).2.size; omega
        have HTK := hide htk
        have HH := hide (unhide hh)
        by_cases hwz : s.wat z.toNat = true
        · have hzf : z < (p.fn : Int) := by have := (unhide HQ).2.wat z.toNat hwz; omega
          rw [hwz] at kw
          rw [if_pos hwz] at htk
          have HTK := hide htk
          have nb := heap_alloc_new wr (.cells #[.int .i64 z] 3)
          have NB := hide nb
          have RA := hide (show (wr.alloc (.cells #[.int .i64 z] 3)).ownsRow W1.heap.size 3 1 (.slice la ((rf.take k).filter fun z => s.wat z.toNat).length lc) ((rf.take k).filter fun z => s.wat z.toNat).length (((rf.take k).filter fun z => s.wat z.toNat).map fun z => Value.int .i64 z) from World.ownsRow.alloc (unhide HH).1 (.cells #[.int .i64 z] 3))
          have hwz2 : W1.heap.size ≤ (wr.alloc (.cells #[.int .i64 z] 3)).heap.size := by have := (unhide HH).2.size; simp; omega
          clear hr hh htk hz hzz hcc nb hwz
          go_wp2_with (at_builtin; refine wpList_grow elemI (by omega) (by omega) (B := W1.heap.size) (v := .slice la ((rf.take k).filter fun z => s.wat z.toNat).length lc) (n := ((rf.take k).filter fun z => s.wat z.toNat).length) (m := 1) (xs := ((rf.take k).filter fun z => s.wat z.toNat).map fun z => Value.int .i64 z) (news := [.int .i64 z]) rfl (.tmp 44) (.tmp 46) rfl (ad := ⟨wr.heap.size, 0, none⟩) (cap := 1) rfl rfl (unhide RA) rfl (World.news_of_block (unhide NB)) (by simp [Value.oneCell']) (by omega) (by omega) hwz2 ?_; intro v3 w3 o3 f3 sh3; obtain ⟨av, cv, rfl⟩ := sh3; have O3 := hide o3; have F3 := hide f3; clear o3 f3)
          go_roundw
          case rel =>
            refine ⟨k + 1, by omega, by go_num, av, cv, ?_⟩
            rw [unhide HTK, List.length_append]
            refine ⟨rfl, ?_, Fr.more ((unhide HH).2.alloc _) (unhide F3) (fun q hq => (World.ownsRow.lt (unhide HH).1 q hq).1)⟩
            have := unhide O3
            rw [← List.map_singleton (f := fun z => Value.int .i64 z), ← List.map_append] at this
            unfold OwnI
            rw [List.length_append]
            exact this
          case measure => simp [intOf]; omega
        · have hwf : s.wat z.toNat = false := by simpa using hwz
          rw [hwf] at kw
          rw [if_neg hwz, List.append_nil] at htk
          have HTK := hide htk
          clear hr hh htk hz hzz hcc hwz
          by_cases hzf : z < (p.fn : Int)
          · go_wp2
            go_roundw
            case rel =>
              refine ⟨k + 1, by omega, by go_num, la, lc, ?_⟩
              rw [unhide HTK]
              exact ⟨rfl, HH⟩
            case measure => simp [intOf]; omega
          · go_wp2
            go_roundw
            case rel =>
              refine ⟨k + 1, by omega, by go_num, la, lc, ?_⟩
              rw [unhide HTK]
              exact ⟨rfl, HH⟩
            case measure => simp [intOf]; omega
      · have hkl : k = rf.length := by omega
        subst hkl
        have hk1 : ¬ (rf.length : Int) < (rf.length : Int) := by omega
        rw [List.take_length] at hh ⊢
        have hLl : (rf.filter fun z => s.wat z.toNat).length ≤ 8 := by have := List.length_filter_le (fun z => s.wat z.toNat) rf; omega
        have hwW : w.heap.size ≤ W1.heap.size := (unhide FA).size
        have r0 : BaRel SQ ask B S w b pv tn sq p (N + 8) tot 8 (.slice la (rf.filter fun z => s.wat z.toNat).length lc) wr :=
          ⟨S1, pv1, vt, va, T1, A, _, x', N, _, hr, unhide P1, (unhide FA).trans ((unhide hh).2.wide _), rowLow (unhide hh).1 hwW, fun q hq hS => by
            have h1 := (World.ownsRow.lt (unhide hh).1 q hq).1
            have h2 := ((unhide HA).bound q hS).2
            omega, unhide HTOT, ⟨(unhide HQ).1.of rfl rfl rfl rfl, (unhide HQ).2.of rfl rfl rfl⟩, by omega, fun z hz => unhide HF8 z (List.mem_filter.1 hz).1, hLl, hLl⟩
        have R0 := hide r0
        clear hr hh r0 hLl hwW HTOT HF8 HCL
        go_wp2
        clear k49
        go_loopg [3] 8 (fun k u wr => BaRel SQ ask B S w b pv tn sq p (N + 8) tot k u wr)
        case atStart => exact unhide R0
        case round =>
          obtain ⟨S', pv', vt', va', T', A', s', x2, N', l, q1, q0, q2, qo, qd, q3, q5, q6, q8, q7, q9⟩ := hrel
          obtain ⟨la', lc', rfl⟩ := ownI_slice qo
          have c27 := (q1.cell 27 (by omega)).trans (by rw [limg_fin])
          by_cases hl0 : l = []
          · have e := q3.symm.trans (wkM_stop _ gk l s' x2 (.inl hl0))
            have hlen : l.length = 0 := by rw [hl0]; rfl
            have Q1 := hide q1
            have Q2 := hide q2
            have Q0 := hide q0
            have E := hide e
            clear q1 q2 q3 q5 q0 qo qd q8 e
            rw [hlen]
            go_wp2
            go_end0
            rw [unhide E]
            exact ⟨rfl, S', pv', vt', va', T', A', unhide Q1, unhide Q0, unhide Q2⟩
          · have hlp : 0 < l.length := List.length_pos_iff.2 hl0
            have hlp' : (0 : Int) < (l.length : Int) := by omega
            by_cases hfi : s'.fin = 0
            · have hfb : (s'.fin == 0) = true := by simpa using hfi
              obtain ⟨k', rfl⟩ : ∃ k', gk = k' + 1 := ⟨gk - 1, by omega⟩
              by_cases h1 : l.length = 1
              · obtain ⟨z, rfl⟩ : ∃ z, l = [z] := List.length_eq_one_iff.1 h1
                have hpk : pk ask [z].length s' x2 = (0, true, s', x2) := by unfold pk; rfl
                have hst := wkM_step (ask := ask) (gF ask p) k' [z] s' x2 hl0 hfi hpk
                have E := hide (show tot = wkM ask (gF ask p) k' [] (wk1 (gF ask p) z s' x2).1 (wk1 (gF ask p) z s' x2).2 from q3.symm.trans hst)
                have hcp : 1 ≤ lc' := by
                  rcases qo.2 with ⟨e1, e2⟩ | ⟨g, cp, cur, e1, _, _, e2, _⟩
                  · have e2' : [z].length = 0 := e2; simp at e2'
                  · injection e1 with _ _ e1; rw [e1]; exact e2
                obtain ⟨g, cg, hv, hg1, hg2, hcell⟩ := row_cell qo hlp
                injection hv with hv hv2 hv3
                subst hv hv3
                clear hv2
                have kz : wr.cell? ⟨g, 0, none⟩ = some (.int .i64 z) := hcell 0 _ rfl
                have nw1 : ∀ j u, (([z].take 0).map fun z => Value.int .i64 z)[j]? = some u → wr.cell? (Addr.add ⟨g, 0, none⟩ j) = some u := fun j u hj => by simp at hj
                have nw2 : ∀ j u, (([z].drop (0 + 1)).map fun z => Value.int .i64 z)[j]? = some u → wr.cell? ⟨g, 1 + j, none⟩ = some u := fun j u hj => by simp at hj
                obtain ⟨hz0, hz8⟩ := q8 z (by simp)
                have H4 := hide q1
                have P4 := hide q0
                have FQ := hide q2
                have Q5 := hide q5
                have NW1 := hide nw1
                have NW2 := hide nw2
                have HGL := hide hg2
                have hk2 : (1 : Int) ≤ (lc' : Int) := by omega
                have hk3 : (0 : Int) ≤ (lc' : Int) := by omega
                have hl1 : [z].length = 1 := rfl
                clear q1 q0 q2 q3 q5 qo qd q8 hst hpk hcell nw1 nw2 h1 hlp hlp' hl0
                rw [hl1]
                by_cases hlc : lc' = 1
                · subst hlc
                  by_cases hwz : s'.wat z.toNat = true
                  · have HWZ := hide hwz
                    clear hwz
                    as_aux_lemma =>
                      have hzf : z < (p.fn : Int) := by have := (unhide Q5).2.wat z.toNat (unhide HWZ); omega
                      obtain ⟨ua, uc, hut⟩ := row_shape (unhide H4).row
                      subst hut
                      rcases unhide HFF with hz00 | ⟨tb, toff, rfl, htb⟩
                      · omega
                      obtain ⟨vi, hvi, hops⟩ := htb z.toNat (by omega)
                      have htbl : tb < w0.heap.size := World.block_lt_of_cell? _ _ hvi
                      have hln : s'.trace.length ≤ 100000000 := by have := (unhide Q5).1.trace; omega
                      have hq6 : RInv p (N' + 1) { s' with trace := s'.trace ++ [(2, z, 0)] } := told_rinv (s := s') (unhide Q5)
                      have hq7 := hM_rinv hs (ok.fr z.toNat (by omega)) { s' with trace := s'.trace ++ [(2, z, 0)] } x2 hq6
                      have HQ6 := hide hq6
                      have HQ7 := hide hq7
                      have HOPS := hide hops
                      have HVI := hide hvi
                      clear hq6 hq7 hops hvi htb
                      go_wp2_with (at_builtin; first | (refine wpList_grow0 elemI (by omega) (by omega) (B := wr.heap.size) (v := .slice none 0 0) (n := 0) (m := 0) (xs := []) (news := ([z].take 0).map fun z => Value.int .i64 z) rfl (.tmp 75) (.tmp 78) rfl (ad := ⟨g, 0, none⟩) (cap := 1) rfl rfl (World.ownsRow_nil _ _ _ _) (by rw [List.length_map, List.length_take]; simp; try omega) (unhide NW1) (fun u hu => (by obtain ⟨_, _, rfl⟩ := List.mem_map.1 hu; rfl)) (by omega) (Nat.le_refl _) ?_; intro v5 w5 o5 f5 sh5; rw [Nat.zero_add, List.nil_append] at o5; rw [Nat.zero_add] at sh5; obtain ⟨a5, c5, rfl⟩ := sh5; have f5' : Fr (fun _ => False) wr w5 (fun _ => False) := ⟨f5.os, f5.tape, f5.output, f5.size, fun k hk _ => f5.same k hk (by simp [own, Value.ownBlock]), fun _ _ h => h⟩; have O5 := hide o5; have F5 := hide f5'; have hz5 := f5.size; have NW2' := hide (fun j u hj => (f5'.cell g _ (unhide HGL) (fun h => h)).trans (unhide NW2 j u hj)); clear o5 f5 f5') | (refine wpList_grow0 elemI (by omega) (by omega) (B := wr.heap.size) (v := .slice a5 0 c5) (n := 0) (m := 0) (xs := ([z].take 0).map fun z => Value.int .i64 z) (news := ([z].drop (0 + 1)).map fun z => Value.int .i64 z) rfl (.tmp 80) (.tmp 84) rfl (ad := ⟨g, 0, none⟩) (cap := 0) rfl rfl (unhide O5) (by rw [List.length_map, List.length_drop]; simp) (fun j u hj => absurd hj (by rw [List.drop_eq_nil_of_le (by simp)]; simp)) (fun u hu => (by obtain ⟨_, _, rfl⟩ := List.mem_map.1 hu; rfl)) (by omega) hz5 ?_; intro v6 w6 o6 f6 sh6; rw [Nat.add_zero] at o6 sh6; obtain ⟨a6, c6, rfl⟩ := sh6; have f46 : Fr (fun _ => False) wr w6 (fun _ => False) := Fr.more (unhide F5) f6 (fun q hq => (World.ownsRow.lt (unhide O5) q hq).1); have o6' : OwnI w6 wr.heap.size (.slice a6 0 c6) ([z].eraseIdx 0) := (by unfold OwnI; exact o6); have h6 := (unhide H4).fr L f46; have kw6 := (h6.cell (17 + z.toNat) (by omega)).trans (by rw [limg_wat _ _ _ _ _ _ (by omega)]); change w6.cell? _ = some (.bool (s'.wat z.toNat)) at kw6; rw [unhide HWZ] at kw6; have k26 := (h6.cell 26 (by omega)).trans (by rw [limg_trace]); change w6.cell? _ = some (.slice ua s'.trace.length uc) at k26; have nb := heap_alloc_new w6 (.cells #[.int .i64 2, .int .i64 z, .int .i64 0] 72); have h6a := h6.alloc L (.cells #[.int .i64 2, .int .i64 z, .int .i64 0] 72); have hB6 := h6a.below; have hb6 := h6.blt; have O6 := hide o6'; have F46 := hide f46; have NB := hide nb; have H6A := hide h6a; clear nb h6a; clear o6 o6' f6 f46 h6) | (refine wpList_grown elemE (by omega) (by omega) (B := B) (v := .slice ua s'.trace.length uc) (n := s'.trace.length) (m := 1) (xs := flatE s'.trace) (news := [.int .i64 2, .int .i64 z, .int .i64 0]) rfl (.tmp 96) (.tmp 99) rfl (ad := ⟨w6.heap.size, 0, none⟩) (cap := 1) rfl rfl (by exact (unhide H6A).row) rfl (World.news_of_block (unhide NB)) (by simp [Value.oneCell']) (by omega) (by omega) hB6 ?_; intro v7 w7 o7 f7 sh7; obtain ⟨av, cv, rfl⟩ := sh7; have c7 := (unhide H6A).cells.block (f7.same b (unhide H6A).blt (fun e => ((unhide H6A).inV b e).2.1 rfl)); have k26' := (c7 26 (by omega)).1.trans (by rw [limg_trace]); have z26 := (c7 26 (by omega)).2; have FIN := hide ((unhide H6A).setTrace L (o := (2, z, 0)) o7 f7); have kf2 := ((unhide FIN).1.cell 2 (by omega)).trans (by rw [limg_pv _ _ _ _ _ _ (by omega), unhide P4 2 (by omega), hfv]); have hbel7 : Below w0.heap.size w0 (w7.setCell ⟨b, 26, none⟩ (.slice av (s'.trace.length + 1) cv)) := (unhide HBEL).trans (unhide HBE ▸ ((unhide FQ).trans (((unhide F46).alloc (.cells #[.int .i64 2, .int .i64 z, .int .i64 0] 72)).wide _ |>.trans (unhide FIN).2)).below (unhide HSB) (unhide HBW)); have kvi := (bcel hbel7 tb (toff + z.toNat) htbl).trans (unhide HVI); have htw7 : tb < (w7.setCell ⟨b, 26, none⟩ (.slice av (s'.trace.length + 1) cv)).heap.size := Nat.lt_of_lt_of_le htbl hbel7.size; have HBEL7 := hide hbel7; clear o7 f7 c7 hbel7))
                      go_at_call 125
                      refine (handlerQ_any L K hm hm4 hs.clock (unhide HBE) (unhide HBEL7) (unhide FIN).1 (unhide HOPS) (ok.fl z.toNat (by omega)) ok.tn ok.fn (ok.fr z.toNat (by omega)) (unhide HQ6).1 (by omega)).mono ?_
                      rintro e w8 ⟨rfl, S8, pv8, vt8, va8, T8, A8, h8, p8, f8⟩
                      have f68 := ((unhide FIN).2.trans f8)
                      have hap : ∀ q, own (.slice a6 0 c6) q → ¬ S' q := fun q hq hS => by have h1 := (World.ownsRow.lt (unhide O6) q hq).1; have h2 := ((unhide H4).bound q hS).2; omega
                      have hf6s := ((Fr.refl S' w6).alloc (.cells #[.int .i64 2, .int .i64 z, .int .i64 0] 72)).trans f68
                      have o8 : OwnI w8 wr.heap.size (.slice a6 0 c6) ([z].eraseIdx 0) := ownsRow_of_block (unhide O6) (fun q hq => hf6s.same q (World.ownsRow.lt (unhide O6) q hq).2 (hap q hq))
                      have d8 : ∀ q, own (.slice a6 0 c6) q → ¬ S8 q := fun q hq hS => hap q hq (hf6s.old q (World.ownsRow.lt (unhide O6) q hq).2 hS)
                      have H8 := hide h8
                      have P8 := hide p8
                      have O8 := hide o8
                      have D8 := hide d8
                      have F8 := hide ((unhide FQ).trans (((unhide F46).wide _).trans hf6s))
                      clear h8 p8 f8 f68 hap hf6s o8 d8 kvi kf2 k26' z26 htw7
                      go_wp2
                      go_roundg k'
                      case rel =>
                        have e9 := unhide E
                        rw [show wk1 (gF ask p) z s' x2 = gF ask p z { s' with trace := s'.trace ++ [(2, z, 0)] } x2 from by unfold wk1; rw [if_pos (by exact unhide HWZ)]] at e9
                        exact ⟨S8, pv8, vt8, va8, T8, A8, _, _, N' + 1, [], unhide H8, fun i hi => (unhide P8 i hi).trans (unhide P4 i hi), unhide F8, rowLow (unhide O8) (unhide FQ).size, unhide D8, e9.symm, unhide HQ7, by simp at q6 ⊢; omega, fun y hy => absurd hy (by simp), by simp, by simp⟩
                      case measure => omega
                  · have hwf : s'.wat z.toNat = false := by simpa using hwz
                    have HWZ := hide hwf
                    clear hwz hwf
                    as_aux_lemma =>
                      go_wp2_with (at_builtin; first | (refine wpList_grow0 elemI (by omega) (by omega) (B := wr.heap.size) (v := .slice none 0 0) (n := 0) (m := 0) (xs := []) (news := ([z].take 0).map fun z => Value.int .i64 z) rfl (.tmp 75) (.tmp 78) rfl (ad := ⟨g, 0, none⟩) (cap := 1) rfl rfl (World.ownsRow_nil _ _ _ _) (by rw [List.length_map, List.length_take]; simp; try omega) (unhide NW1) (fun u hu => (by obtain ⟨_, _, rfl⟩ := List.mem_map.1 hu; rfl)) (by omega) (Nat.le_refl _) ?_; intro v5 w5 o5 f5 sh5; rw [Nat.zero_add, List.nil_append] at o5; rw [Nat.zero_add] at sh5; obtain ⟨a5, c5, rfl⟩ := sh5; have f5' : Fr (fun _ => False) wr w5 (fun _ => False) := ⟨f5.os, f5.tape, f5.output, f5.size, fun k hk _ => f5.same k hk (by simp [own, Value.ownBlock]), fun _ _ h => h⟩; have O5 := hide o5; have F5 := hide f5'; have hz5 := f5.size; have NW2' := hide (fun j u hj => (f5'.cell g _ (unhide HGL) (fun h => h)).trans (unhide NW2 j u hj)); clear o5 f5 f5') | (refine wpList_grow0 elemI (by omega) (by omega) (B := wr.heap.size) (v := .slice a5 0 c5) (n := 0) (m := 0) (xs := ([z].take 0).map fun z => Value.int .i64 z) (news := ([z].drop (0 + 1)).map fun z => Value.int .i64 z) rfl (.tmp 80) (.tmp 84) rfl (ad := ⟨g, 0, none⟩) (cap := 0) rfl rfl (unhide O5) (by rw [List.length_map, List.length_drop]; simp) (fun j u hj => absurd hj (by rw [List.drop_eq_nil_of_le (by simp)]; simp)) (fun u hu => (by obtain ⟨_, _, rfl⟩ := List.mem_map.1 hu; rfl)) (by omega) hz5 ?_; intro v6 w6 o6 f6 sh6; rw [Nat.add_zero] at o6 sh6; obtain ⟨a6, c6, rfl⟩ := sh6; have f46 : Fr (fun _ => False) wr w6 (fun _ => False) := Fr.more (unhide F5) f6 (fun q hq => (World.ownsRow.lt (unhide O5) q hq).1); have o6' : OwnI w6 wr.heap.size (.slice a6 0 c6) ([z].eraseIdx 0) := (by unfold OwnI; exact o6); have h6 := (unhide H4).fr L f46; have kw6 := (h6.cell (17 + z.toNat) (by omega)).trans (by rw [limg_wat _ _ _ _ _ _ (by omega)]); change w6.cell? _ = some (.bool (s'.wat z.toNat)) at kw6; rw [unhide HWZ] at kw6;  have O6 := hide o6'; have F46 := hide f46; have H6 := hide h6; clear o6 o6' f6 f46 h6))
                      have hap : ∀ q, own (.slice a6 0 c6) q → ¬ S' q := fun q hq hS => by have h1 := (World.ownsRow.lt (unhide O6) q hq).1; have h2 := ((unhide H4).bound q hS).2; omega
                      go_roundg k'
                      case rel =>
                        have e9 := unhide E
                        rw [show wk1 (gF ask p) z s' x2 = (s', x2) from by unfold wk1; rw [if_neg (by rw [show PS.wat s' z.toNat = false from unhide HWZ]; simp)]] at e9
                        exact ⟨S', pv', vt', va', T', A', _, _, N', [], unhide H6, unhide P4, (unhide FQ).trans ((unhide F46).wide _), rowLow (unhide O6) (unhide FQ).size, hap, e9.symm, unhide Q5, by simp at q6 ⊢; omega, fun y hy => absurd hy (by simp), by simp, by simp⟩
                      case measure => omega
                · skip
                  by_cases hwz : s'.wat z.toNat = true
                  · have HWZ := hide hwz
                    clear hwz
                    as_aux_lemma =>
                      have hzf : z < (p.fn : Int) := by have := (unhide Q5).2.wat z.toNat (unhide HWZ); omega
                      obtain ⟨ua, uc, hut⟩ := row_shape (unhide H4).row
                      subst hut
                      rcases unhide HFF with hz00 | ⟨tb, toff, rfl, htb⟩
                      · omega
                      obtain ⟨vi, hvi, hops⟩ := htb z.toNat (by omega)
                      have htbl : tb < w0.heap.size := World.block_lt_of_cell? _ _ hvi
                      have hln : s'.trace.length ≤ 100000000 := by have := (unhide Q5).1.trace; omega
                      have hq6 : RInv p (N' + 1) { s' with trace := s'.trace ++ [(2, z, 0)] } := told_rinv (s := s') (unhide Q5)
                      have hq7 := hM_rinv hs (ok.fr z.toNat (by omega)) { s' with trace := s'.trace ++ [(2, z, 0)] } x2 hq6
                      have HQ6 := hide hq6
                      have HQ7 := hide hq7
                      have HOPS := hide hops
                      have HVI := hide hvi
                      clear hq6 hq7 hops hvi htb
                      go_wp2_with (at_builtin; first | (refine wpList_grow0 elemI (by omega) (by omega) (B := wr.heap.size) (v := .slice none 0 0) (n := 0) (m := 0) (xs := []) (news := ([z].take 0).map fun z => Value.int .i64 z) rfl (.tmp 75) (.tmp 78) rfl (ad := ⟨g, 0, none⟩) (cap := lc') rfl rfl (World.ownsRow_nil _ _ _ _) (by rw [List.length_map, List.length_take]; simp; try omega) (unhide NW1) (fun u hu => (by obtain ⟨_, _, rfl⟩ := List.mem_map.1 hu; rfl)) (by omega) (Nat.le_refl _) ?_; intro v5 w5 o5 f5 sh5; rw [Nat.zero_add, List.nil_append] at o5; rw [Nat.zero_add] at sh5; obtain ⟨a5, c5, rfl⟩ := sh5; have f5' : Fr (fun _ => False) wr w5 (fun _ => False) := ⟨f5.os, f5.tape, f5.output, f5.size, fun k hk _ => f5.same k hk (by simp [own, Value.ownBlock]), fun _ _ h => h⟩; have O5 := hide o5; have F5 := hide f5'; have hz5 := f5.size; have NW2' := hide (fun j u hj => (f5'.cell g _ (unhide HGL) (fun h => h)).trans (unhide NW2 j u hj)); clear o5 f5 f5') | (refine wpList_grow0 elemI (by omega) (by omega) (B := wr.heap.size) (v := .slice a5 0 c5) (n := 0) (m := 0) (xs := ([z].take 0).map fun z => Value.int .i64 z) (news := ([z].drop (0 + 1)).map fun z => Value.int .i64 z) rfl (.tmp 80) (.tmp 84) rfl (ad := ⟨g, 1, none⟩) (cap := (lc' - 1)) rfl rfl (unhide O5) (by rw [List.length_map, List.length_drop]; simp) (fun j u hj => (by rw [addr_add]; exact unhide NW2' j u hj)) (fun u hu => (by obtain ⟨_, _, rfl⟩ := List.mem_map.1 hu; rfl)) (by omega) hz5 ?_; intro v6 w6 o6 f6 sh6; rw [Nat.add_zero] at o6 sh6; obtain ⟨a6, c6, rfl⟩ := sh6; have f46 : Fr (fun _ => False) wr w6 (fun _ => False) := Fr.more (unhide F5) f6 (fun q hq => (World.ownsRow.lt (unhide O5) q hq).1); have o6' : OwnI w6 wr.heap.size (.slice a6 0 c6) ([z].eraseIdx 0) := (by unfold OwnI; exact o6); have h6 := (unhide H4).fr L f46; have kw6 := (h6.cell (17 + z.toNat) (by omega)).trans (by rw [limg_wat _ _ _ _ _ _ (by omega)]); change w6.cell? _ = some (.bool (s'.wat z.toNat)) at kw6; rw [unhide HWZ] at kw6; have k26 := (h6.cell 26 (by omega)).trans (by rw [limg_trace]); change w6.cell? _ = some (.slice ua s'.trace.length uc) at k26; have nb := heap_alloc_new w6 (.cells #[.int .i64 2, .int .i64 z, .int .i64 0] 72); have h6a := h6.alloc L (.cells #[.int .i64 2, .int .i64 z, .int .i64 0] 72); have hB6 := h6a.below; have hb6 := h6.blt; have O6 := hide o6'; have F46 := hide f46; have NB := hide nb; have H6A := hide h6a; clear nb h6a; clear o6 o6' f6 f46 h6) | (refine wpList_grown elemE (by omega) (by omega) (B := B) (v := .slice ua s'.trace.length uc) (n := s'.trace.length) (m := 1) (xs := flatE s'.trace) (news := [.int .i64 2, .int .i64 z, .int .i64 0]) rfl (.tmp 96) (.tmp 99) rfl (ad := ⟨w6.heap.size, 0, none⟩) (cap := 1) rfl rfl (by exact (unhide H6A).row) rfl (World.news_of_block (unhide NB)) (by simp [Value.oneCell']) (by omega) (by omega) hB6 ?_; intro v7 w7 o7 f7 sh7; obtain ⟨av, cv, rfl⟩ := sh7; have c7 := (unhide H6A).cells.block (f7.same b (unhide H6A).blt (fun e => ((unhide H6A).inV b e).2.1 rfl)); have k26' := (c7 26 (by omega)).1.trans (by rw [limg_trace]); have z26 := (c7 26 (by omega)).2; have FIN := hide ((unhide H6A).setTrace L (o := (2, z, 0)) o7 f7); have kf2 := ((unhide FIN).1.cell 2 (by omega)).trans (by rw [limg_pv _ _ _ _ _ _ (by omega), unhide P4 2 (by omega), hfv]); have hbel7 : Below w0.heap.size w0 (w7.setCell ⟨b, 26, none⟩ (.slice av (s'.trace.length + 1) cv)) := (unhide HBEL).trans (unhide HBE ▸ ((unhide FQ).trans (((unhide F46).alloc (.cells #[.int .i64 2, .int .i64 z, .int .i64 0] 72)).wide _ |>.trans (unhide FIN).2)).below (unhide HSB) (unhide HBW)); have kvi := (bcel hbel7 tb (toff + z.toNat) htbl).trans (unhide HVI); have htw7 : tb < (w7.setCell ⟨b, 26, none⟩ (.slice av (s'.trace.length + 1) cv)).heap.size := Nat.lt_of_lt_of_le htbl hbel7.size; have HBEL7 := hide hbel7; clear o7 f7 c7 hbel7))
                      go_at_call 125
                      refine (handlerQ_any L K hm hm4 hs.clock (unhide HBE) (unhide HBEL7) (unhide FIN).1 (unhide HOPS) (ok.fl z.toNat (by omega)) ok.tn ok.fn (ok.fr z.toNat (by omega)) (unhide HQ6).1 (by omega)).mono ?_
                      rintro e w8 ⟨rfl, S8, pv8, vt8, va8, T8, A8, h8, p8, f8⟩
                      have f68 := ((unhide FIN).2.trans f8)
                      have hap : ∀ q, own (.slice a6 0 c6) q → ¬ S' q := fun q hq hS => by have h1 := (World.ownsRow.lt (unhide O6) q hq).1; have h2 := ((unhide H4).bound q hS).2; omega
                      have hf6s := ((Fr.refl S' w6).alloc (.cells #[.int .i64 2, .int .i64 z, .int .i64 0] 72)).trans f68
                      have o8 : OwnI w8 wr.heap.size (.slice a6 0 c6) ([z].eraseIdx 0) := ownsRow_of_block (unhide O6) (fun q hq => hf6s.same q (World.ownsRow.lt (unhide O6) q hq).2 (hap q hq))
                      have d8 : ∀ q, own (.slice a6 0 c6) q → ¬ S8 q := fun q hq hS => hap q hq (hf6s.old q (World.ownsRow.lt (unhide O6) q hq).2 hS)
                      have H8 := hide h8
                      have P8 := hide p8
                      have O8 := hide o8
                      have D8 := hide d8
                      have F8 := hide ((unhide FQ).trans (((unhide F46).wide _).trans hf6s))
                      clear h8 p8 f8 f68 hap hf6s o8 d8 kvi kf2 k26' z26 htw7
                      go_wp2
                      go_roundg k'
                      case rel =>
                        have e9 := unhide E
                        rw [show wk1 (gF ask p) z s' x2 = gF ask p z { s' with trace := s'.trace ++ [(2, z, 0)] } x2 from by unfold wk1; rw [if_pos (by exact unhide HWZ)]] at e9
                        exact ⟨S8, pv8, vt8, va8, T8, A8, _, _, N' + 1, [], unhide H8, fun i hi => (unhide P8 i hi).trans (unhide P4 i hi), unhide F8, rowLow (unhide O8) (unhide FQ).size, unhide D8, e9.symm, unhide HQ7, by simp at q6 ⊢; omega, fun y hy => absurd hy (by simp), by simp, by simp⟩
                      case measure => omega
                  · have hwf : s'.wat z.toNat = false := by simpa using hwz
                    have HWZ := hide hwf
                    clear hwz hwf
                    as_aux_lemma =>
                      go_wp2_with (at_builtin; first | (refine wpList_grow0 elemI (by omega) (by omega) (B := wr.heap.size) (v := .slice none 0 0) (n := 0) (m := 0) (xs := []) (news := ([z].take 0).map fun z => Value.int .i64 z) rfl (.tmp 75) (.tmp 78) rfl (ad := ⟨g, 0, none⟩) (cap := lc') rfl rfl (World.ownsRow_nil _ _ _ _) (by rw [List.length_map, List.length_take]; simp; try omega) (unhide NW1) (fun u hu => (by obtain ⟨_, _, rfl⟩ := List.mem_map.1 hu; rfl)) (by omega) (Nat.le_refl _) ?_; intro v5 w5 o5 f5 sh5; rw [Nat.zero_add, List.nil_append] at o5; rw [Nat.zero_add] at sh5; obtain ⟨a5, c5, rfl⟩ := sh5; have f5' : Fr (fun _ => False) wr w5 (fun _ => False) := ⟨f5.os, f5.tape, f5.output, f5.size, fun k hk _ => f5.same k hk (by simp [own, Value.ownBlock]), fun _ _ h => h⟩; have O5 := hide o5; have F5 := hide f5'; have hz5 := f5.size; have NW2' := hide (fun j u hj => (f5'.cell g _ (unhide HGL) (fun h => h)).trans (unhide NW2 j u hj)); clear o5 f5 f5') | (refine wpList_grow0 elemI (by omega) (by omega) (B := wr.heap.size) (v := .slice a5 0 c5) (n := 0) (m := 0) (xs := ([z].take 0).map fun z => Value.int .i64 z) (news := ([z].drop (0 + 1)).map fun z => Value.int .i64 z) rfl (.tmp 80) (.tmp 84) rfl (ad := ⟨g, 1, none⟩) (cap := (lc' - 1)) rfl rfl (unhide O5) (by rw [List.length_map, List.length_drop]; simp) (fun j u hj => (by rw [addr_add]; exact unhide NW2' j u hj)) (fun u hu => (by obtain ⟨_, _, rfl⟩ := List.mem_map.1 hu; rfl)) (by omega) hz5 ?_; intro v6 w6 o6 f6 sh6; rw [Nat.add_zero] at o6 sh6; obtain ⟨a6, c6, rfl⟩ := sh6; have f46 : Fr (fun _ => False) wr w6 (fun _ => False) := Fr.more (unhide F5) f6 (fun q hq => (World.ownsRow.lt (unhide O5) q hq).1); have o6' : OwnI w6 wr.heap.size (.slice a6 0 c6) ([z].eraseIdx 0) := (by unfold OwnI; exact o6); have h6 := (unhide H4).fr L f46; have kw6 := (h6.cell (17 + z.toNat) (by omega)).trans (by rw [limg_wat _ _ _ _ _ _ (by omega)]); change w6.cell? _ = some (.bool (s'.wat z.toNat)) at kw6; rw [unhide HWZ] at kw6;  have O6 := hide o6'; have F46 := hide f46; have H6 := hide h6; clear o6 o6' f6 f46 h6))
                      have hap : ∀ q, own (.slice a6 0 c6) q → ¬ S' q := fun q hq hS => by have h1 := (World.ownsRow.lt (unhide O6) q hq).1; have h2 := ((unhide H4).bound q hS).2; omega
                      go_roundg k'
                      case rel =>
                        have e9 := unhide E
                        rw [show wk1 (gF ask p) z s' x2 = (s', x2) from by unfold wk1; rw [if_neg (by rw [show PS.wat s' z.toNat = false from unhide HWZ]; simp)]] at e9
                        exact ⟨S', pv', vt', va', T', A', _, _, N', [], unhide H6, unhide P4, (unhide FQ).trans ((unhide F46).wide _), rowLow (unhide O6) (unhide FQ).size, hap, e9.symm, unhide Q5, by simp at q6 ⊢; omega, fun y hy => absurd hy (by simp), by simp, by simp⟩
                      case measure => omega
              · have h2 : 2 ≤ l.length := by omega
                have h2' : (1 : Int) < (l.length : Int) := by omega
                have hc3 := K.calls q1 hfi (hm3 l.length h2 q9)
                have hpk : pk ask l.length s' x2 = (if (ask x2 3 l.length).1.e = 0 then (ask x2 3 l.length).1.n else 0, decide ((ask x2 3 l.length).1.e = 0), hdS s' (ask x2 3 l.length).1, (ask x2 3 l.length).2) := by unfold pk; rw [if_neg h1]
                have hpl := hs.pick x2 l.length h2 q9
                have hst := wkM_step (ask := ask) (gF ask p) k' l s' x2 hl0 hfi hpk
                generalize ask x2 3 l.length = R3 at *
                obtain ⟨⟨r3k, r3o, r3n, r3f, r3e⟩, x4⟩ := R3
                dsimp only at hc3 hpl hst
                by_cases h3e : r3e = 0
                · have e3 : hearS s' ⟨r3k, r3o, r3n, r3f, r3e⟩ = { s' with heard := wrap64 (s'.heard + 1) } := by unfold hearS; rw [if_pos h3e]
                  have e4 : hdS s' ⟨r3k, r3o, r3n, r3f, r3e⟩ = { s' with heard := wrap64 (s'.heard + 1) } := by unfold hdS; rw [if_pos h3e]
                  obtain ⟨kk, hkk⟩ : ∃ kk : Nat, r3n = kk := ⟨r3n.toNat, by have := (hpl h3e).1; omega⟩
                  subst hkk
                  have hkl : kk < l.length := by have := (hpl h3e).2; omega
                  rw [e3] at hc3
                  rw [e4, decide_eq_true h3e, if_pos rfl, if_pos h3e, show ((kk : Int)).toNat = kk by omega] at hst
                  have E := hide (q3.symm.trans hst)
                  have HC3 := hide hc3
                  have Q0 := hide q0
                  have Q2 := hide q2
                  have QO := hide qo
                  have QD := hide qd
                  have Q5 := hide q5
                  have Q8 := hide q8
                  have HE3 := hide h3e
                  have hfield := field49
                  clear hc3 hst hpk hpl e3 e4 q1 q2 q0 q3 q5 qo qd q8 h1 h3e
                  go_wp2_with fail
                  go_at_call 141
                  refine (unhide HC3).mono ?_
                  rintro e w4 ⟨kd4, of4, n4, fa4, fl4, fc4, rfl, ⟨S4, pv4, T4, h4, p4, f4⟩, hn4⟩
                  obtain ⟨hn4, _⟩ := hn4 (unhide HE3)
                  subst hn4
                  have k27 : w4.cell? ⟨b, 27, none⟩ = some (.int .i64 0) := (h4.cell 27 (by omega)).trans (by rw [limg_fin]; exact congrArg (fun z => some (Value.int .i64 z)) hfi)
                  have o4 : OwnI w4 w.heap.size (.slice la' l.length lc') l := ownsRow_of_block (unhide QO) (fun q hq => f4.same q (World.ownsRow.lt (unhide QO) q hq).2 (unhide QD q hq))
                  have hcp : l.length ≤ lc' := by
                    rcases o4.2 with ⟨e1, e2⟩ | ⟨g, cp, cur, e1, _, _, e2, _⟩
                    · have e2' : l.length = 0 := e2; omega
                    · injection e1 with _ _ e1; rw [e1]; exact e2
                  obtain ⟨g, cg, hv, hg1, hg2, hcell⟩ := row_cell o4 hlp
                  injection hv with hv hv2 hv3
                  subst hv hv3
                  clear hv2
                  obtain ⟨z, hz⟩ : ∃ z, l[kk]? = some z := ⟨_, List.getElem?_eq_getElem hkl⟩
                  have kz : w4.cell? ⟨g, kk, none⟩ = some (.int .i64 z) := hcell kk _ (by rw [List.getElem?_map, hz]; rfl)
                  have nw1 : ∀ j u, ((l.take kk).map fun z => Value.int .i64 z)[j]? = some u → w4.cell? (Addr.add ⟨g, 0, none⟩ j) = some u := fun j u hj => by
                    rw [addr_add, Nat.zero_add]
                    refine hcell j u ?_
                    rw [List.getElem?_map] at hj ⊢
                    rw [List.getElem?_take] at hj
                    split at hj
                    · exact hj
                    · cases hj
                  have nw2 : ∀ j u, ((l.drop (kk + 1)).map fun z => Value.int .i64 z)[j]? = some u → w4.cell? ⟨g, kk + 1 + j, none⟩ = some u := fun j u hj => by
                    refine hcell _ u ?_
                    rw [List.getElem?_map, List.getElem?_drop] at hj
                    rw [List.getElem?_map]
                    exact hj
                  have H4 := hide h4
                  have P4 := hide (show ∀ i, i < 3 → pv4 i = pv i from fun i hi => (p4 i hi).trans (unhide Q0 i hi))
                  have F4 := hide f4
                  have NW1 := hide nw1
                  have NW2 := hide nw2
                  have HGL := hide hg2
                  have HZ := hide hz
                  have hk0 : (0 : Int) ≤ (kk : Int) := by omega
                  have hk1 : (kk : Int) < (l.length : Int) := by omega
                  have hk2 : (kk : Int) ≤ (lc' : Int) := by omega
                  have hk3 : (l.length : Int) ≤ (lc' : Int) := by omega
                  have hk4 : (kk : Int) + 1 ≤ (l.length : Int) := by omega
                  have hk5 : (0 : Int) ≤ (kk : Int) + 1 := by omega
                  have hgd : l.getD kk 0 = z := by rw [List.getD_eq_getElem?_getD, hz]; rfl
                  have E := hide (show tot = wkM ask (gF ask p) k' (l.eraseIdx kk) (wk1 (gF ask p) z { s' with heard := wrap64 (s'.heard + 1) } x4).1 (wk1 (gF ask p) z { s' with heard := wrap64 (s'.heard + 1) } x4).2 from by rw [← hgd]; exact unhide E)
                  obtain ⟨hz0, hz8⟩ := unhide Q8 z (List.mem_of_getElem? hz)
                  have FQ := hide ((unhide Q2).trans f4)
                  clear h4 p4 f4 HC3 o4 hcell nw1 nw2 hz hgd
                  by_cases hlc : lc' = kk + 1
                  · subst hlc
                    by_cases hwz : s'.wat z.toNat = true
                    · have HWZ := hide hwz
                      clear hwz
                      as_aux_lemma =>
                        have hzf : z < (p.fn : Int) := by have := (unhide Q5).2.wat z.toNat (unhide HWZ); omega
                        obtain ⟨ua, uc, hut⟩ := row_shape (unhide H4).row
                        subst hut
                        rcases unhide HFF with hz00 | ⟨tb, toff, rfl, htb⟩
                        · omega
                        obtain ⟨vi, hvi, hops⟩ := htb z.toNat (by omega)
                        have htbl : tb < w0.heap.size := World.block_lt_of_cell? _ _ hvi
                        have hln : s'.trace.length ≤ 100000000 := by have := (unhide Q5).1.trace; omega
                        have hq6 : RInv p (N' + 1) { { s' with heard := wrap64 (s'.heard + 1) } with trace := s'.trace ++ [(2, z, 0)] } := told_rinv (s := { s' with heard := wrap64 (s'.heard + 1) }) ⟨(unhide Q5).1.of rfl rfl rfl rfl, (unhide Q5).2.of rfl rfl rfl⟩
                        have hq7 := hM_rinv hs (ok.fr z.toNat (by omega)) { s' with heard := wrap64 (s'.heard + 1), trace := s'.trace ++ [(2, z, 0)] } x4 hq6
                        have HQ6 := hide hq6
                        have HQ7 := hide hq7
                        have HOPS := hide hops
                        have HVI := hide hvi
                        clear hq6 hq7 hops hvi htb
                        go_wp2_with (at_builtin; first | (refine wpList_grow0 elemI (by omega) (by omega) (B := w4.heap.size) (v := .slice none 0 0) (n := 0) (m := kk) (xs := []) (news := (l.take kk).map fun z => Value.int .i64 z) rfl (.tmp 75) (.tmp 78) rfl (ad := ⟨g, 0, none⟩) (cap := (kk + 1)) rfl rfl (World.ownsRow_nil _ _ _ _) (by rw [List.length_map, List.length_take]; simp; try omega) (unhide NW1) (fun u hu => (by obtain ⟨_, _, rfl⟩ := List.mem_map.1 hu; rfl)) (by omega) (Nat.le_refl _) ?_; intro v5 w5 o5 f5 sh5; rw [Nat.zero_add, List.nil_append] at o5; rw [Nat.zero_add] at sh5; obtain ⟨a5, c5, rfl⟩ := sh5; have f5' : Fr (fun _ => False) w4 w5 (fun _ => False) := ⟨f5.os, f5.tape, f5.output, f5.size, fun k hk _ => f5.same k hk (by simp [own, Value.ownBlock]), fun _ _ h => h⟩; have O5 := hide o5; have F5 := hide f5'; have hz5 := f5.size; have NW2' := hide (fun j u hj => (f5'.cell g _ (unhide HGL) (fun h => h)).trans (unhide NW2 j u hj)); clear o5 f5 f5') | (refine wpList_grow0 elemI (by omega) (by omega) (B := w4.heap.size) (v := .slice a5 kk c5) (n := kk) (m := 0) (xs := (l.take kk).map fun z => Value.int .i64 z) (news := (l.drop (kk + 1)).map fun z => Value.int .i64 z) rfl (.tmp 80) (.tmp 84) rfl (ad := ⟨g, 0, none⟩) (cap := 0) rfl rfl (unhide O5) (by rw [List.length_map, List.length_drop]; simp; try omega) (fun j u hj => absurd hj (by rw [List.drop_eq_nil_of_le (by omega)]; simp)) (fun u hu => (by obtain ⟨_, _, rfl⟩ := List.mem_map.1 hu; rfl)) (by omega) hz5 ?_; intro v6 w6 o6 f6 sh6; rw [Nat.add_zero] at o6 sh6; obtain ⟨a6, c6, rfl⟩ := sh6; have f46 : Fr (fun _ => False) w4 w6 (fun _ => False) := Fr.more (unhide F5) f6 (fun q hq => (World.ownsRow.lt (unhide O5) q hq).1); have o6' : OwnI w6 w4.heap.size (.slice a6 kk c6) (l.eraseIdx kk) := (by unfold OwnI; rw [List.eraseIdx_eq_take_drop_succ, List.map_append, show (l.take kk ++ l.drop (kk + 1)).length = kk by rw [List.length_append, List.length_take, List.length_drop]; omega]; exact o6); have h6 := (unhide H4).fr L f46; have kw6 := (h6.cell (17 + z.toNat) (by omega)).trans (by rw [limg_wat _ _ _ _ _ _ (by omega)]); change w6.cell? _ = some (.bool (s'.wat z.toNat)) at kw6; rw [unhide HWZ] at kw6; have k26 := (h6.cell 26 (by omega)).trans (by rw [limg_trace]); change w6.cell? _ = some (.slice ua s'.trace.length uc) at k26; have nb := heap_alloc_new w6 (.cells #[.int .i64 2, .int .i64 z, .int .i64 0] 72); have h6a := h6.alloc L (.cells #[.int .i64 2, .int .i64 z, .int .i64 0] 72); have hB6 := h6a.below; have hb6 := h6.blt; have O6 := hide o6'; have F46 := hide f46; have NB := hide nb; have H6A := hide h6a; clear nb h6a; clear o6 o6' f6 f46 h6) | (refine wpList_grown elemE (by omega) (by omega) (B := B) (v := .slice ua s'.trace.length uc) (n := s'.trace.length) (m := 1) (xs := flatE s'.trace) (news := [.int .i64 2, .int .i64 z, .int .i64 0]) rfl (.tmp 96) (.tmp 99) rfl (ad := ⟨w6.heap.size, 0, none⟩) (cap := 1) rfl rfl (by exact (unhide H6A).row) rfl (World.news_of_block (unhide NB)) (by simp [Value.oneCell']) (by omega) (by omega) hB6 ?_; intro v7 w7 o7 f7 sh7; obtain ⟨av, cv, rfl⟩ := sh7; have c7 := (unhide H6A).cells.block (f7.same b (unhide H6A).blt (fun e => ((unhide H6A).inV b e).2.1 rfl)); have k26' := (c7 26 (by omega)).1.trans (by rw [limg_trace]); have z26 := (c7 26 (by omega)).2; have FIN := hide ((unhide H6A).setTrace L (o := (2, z, 0)) o7 f7); have kf2 := ((unhide FIN).1.cell 2 (by omega)).trans (by rw [limg_pv _ _ _ _ _ _ (by omega), unhide P4 2 (by omega), hfv]); have hbel7 : Below w0.heap.size w0 (w7.setCell ⟨b, 26, none⟩ (.slice av (s'.trace.length + 1) cv)) := (unhide HBEL).trans (unhide HBE ▸ ((unhide FQ).trans (((unhide F46).alloc (.cells #[.int .i64 2, .int .i64 z, .int .i64 0] 72)).wide _ |>.trans (unhide FIN).2)).below (unhide HSB) (unhide HBW)); have kvi := (bcel hbel7 tb (toff + z.toNat) htbl).trans (unhide HVI); have htw7 : tb < (w7.setCell ⟨b, 26, none⟩ (.slice av (s'.trace.length + 1) cv)).heap.size := Nat.lt_of_lt_of_le htbl hbel7.size; have HBEL7 := hide hbel7; clear o7 f7 c7 hbel7))
                        go_at_call 125
                        refine (handlerQ_any L K hm hm4 hs.clock (unhide HBE) (unhide HBEL7) (unhide FIN).1 (unhide HOPS) (ok.fl z.toNat (by omega)) ok.tn ok.fn (ok.fr z.toNat (by omega)) (unhide HQ6).1 (by omega)).mono ?_
                        rintro e w8 ⟨rfl, S8, pv8, vt8, va8, T8, A8, h8, p8, f8⟩
                        have f68 := ((unhide FIN).2.trans f8)
                        have hap : ∀ q, own (.slice a6 kk c6) q → ¬ S4 q := fun q hq hS => by have h1 := (World.ownsRow.lt (unhide O6) q hq).1; have h2 := ((unhide H4).bound q hS).2; omega
                        have hf6s := ((Fr.refl S4 w6).alloc (.cells #[.int .i64 2, .int .i64 z, .int .i64 0] 72)).trans f68
                        have o8 : OwnI w8 w4.heap.size (.slice a6 kk c6) (l.eraseIdx kk) := ownsRow_of_block (unhide O6) (fun q hq => hf6s.same q (World.ownsRow.lt (unhide O6) q hq).2 (hap q hq))
                        have d8 : ∀ q, own (.slice a6 kk c6) q → ¬ S8 q := fun q hq hS => hap q hq (hf6s.old q (World.ownsRow.lt (unhide O6) q hq).2 hS)
                        have H8 := hide h8
                        have P8 := hide p8
                        have O8 := hide o8
                        have D8 := hide d8
                        have F8 := hide ((unhide FQ).trans (((unhide F46).wide _).trans hf6s))
                        clear h8 p8 f8 f68 hap hf6s o8 d8 kvi kf2 k26' z26 htw7
                        go_wp2
                        go_roundg k'
                        case rel =>
                          have e9 := unhide E
                          rw [show wk1 (gF ask p) z { s' with heard := wrap64 (s'.heard + 1) } x4 = gF ask p z { { s' with heard := wrap64 (s'.heard + 1) } with trace := s'.trace ++ [(2, z, 0)] } x4 from by unfold wk1; rw [if_pos (by exact unhide HWZ)]] at e9
                          exact ⟨S8, pv8, vt8, va8, T8, A8, _, _, N' + 1, (l.eraseIdx kk), unhide H8, fun i hi => (unhide P8 i hi).trans (unhide P4 i hi), unhide F8, rowLow (unhide O8) (unhide FQ).size, unhide D8, e9.symm, unhide HQ7, by rw [List.length_eraseIdx_of_lt hkl]; omega, fun y hy => unhide Q8 y (List.mem_of_mem_eraseIdx hy), by rw [List.length_eraseIdx_of_lt hkl]; omega, by rw [List.length_eraseIdx_of_lt hkl]; omega⟩
                        case measure => omega
                    · have hwf : s'.wat z.toNat = false := by simpa using hwz
                      have HWZ := hide hwf
                      clear hwz hwf
                      as_aux_lemma =>
                        go_wp2_with (at_builtin; first | (refine wpList_grow0 elemI (by omega) (by omega) (B := w4.heap.size) (v := .slice none 0 0) (n := 0) (m := kk) (xs := []) (news := (l.take kk).map fun z => Value.int .i64 z) rfl (.tmp 75) (.tmp 78) rfl (ad := ⟨g, 0, none⟩) (cap := (kk + 1)) rfl rfl (World.ownsRow_nil _ _ _ _) (by rw [List.length_map, List.length_take]; simp; try omega) (unhide NW1) (fun u hu => (by obtain ⟨_, _, rfl⟩ := List.mem_map.1 hu; rfl)) (by omega) (Nat.le_refl _) ?_; intro v5 w5 o5 f5 sh5; rw [Nat.zero_add, List.nil_append] at o5; rw [Nat.zero_add] at sh5; obtain ⟨a5, c5, rfl⟩ := sh5; have f5' : Fr (fun _ => False) w4 w5 (fun _ => False) := ⟨f5.os, f5.tape, f5.output, f5.size, fun k hk _ => f5.same k hk (by simp [own, Value.ownBlock]), fun _ _ h => h⟩; have O5 := hide o5; have F5 := hide f5'; have hz5 := f5.size; have NW2' := hide (fun j u hj => (f5'.cell g _ (unhide HGL) (fun h => h)).trans (unhide NW2 j u hj)); clear o5 f5 f5') | (refine wpList_grow0 elemI (by omega) (by omega) (B := w4.heap.size) (v := .slice a5 kk c5) (n := kk) (m := 0) (xs := (l.take kk).map fun z => Value.int .i64 z) (news := (l.drop (kk + 1)).map fun z => Value.int .i64 z) rfl (.tmp 80) (.tmp 84) rfl (ad := ⟨g, 0, none⟩) (cap := 0) rfl rfl (unhide O5) (by rw [List.length_map, List.length_drop]; simp; try omega) (fun j u hj => absurd hj (by rw [List.drop_eq_nil_of_le (by omega)]; simp)) (fun u hu => (by obtain ⟨_, _, rfl⟩ := List.mem_map.1 hu; rfl)) (by omega) hz5 ?_; intro v6 w6 o6 f6 sh6; rw [Nat.add_zero] at o6 sh6; obtain ⟨a6, c6, rfl⟩ := sh6; have f46 : Fr (fun _ => False) w4 w6 (fun _ => False) := Fr.more (unhide F5) f6 (fun q hq => (World.ownsRow.lt (unhide O5) q hq).1); have o6' : OwnI w6 w4.heap.size (.slice a6 kk c6) (l.eraseIdx kk) := (by unfold OwnI; rw [List.eraseIdx_eq_take_drop_succ, List.map_append, show (l.take kk ++ l.drop (kk + 1)).length = kk by rw [List.length_append, List.length_take, List.length_drop]; omega]; exact o6); have h6 := (unhide H4).fr L f46; have kw6 := (h6.cell (17 + z.toNat) (by omega)).trans (by rw [limg_wat _ _ _ _ _ _ (by omega)]); change w6.cell? _ = some (.bool (s'.wat z.toNat)) at kw6; rw [unhide HWZ] at kw6;  have O6 := hide o6'; have F46 := hide f46; have H6 := hide h6; clear o6 o6' f6 f46 h6))
                        have hap : ∀ q, own (.slice a6 kk c6) q → ¬ S4 q := fun q hq hS => by have h1 := (World.ownsRow.lt (unhide O6) q hq).1; have h2 := ((unhide H4).bound q hS).2; omega
                        go_roundg k'
                        case rel =>
                          have e9 := unhide E
                          rw [show wk1 (gF ask p) z { s' with heard := wrap64 (s'.heard + 1) } x4 = ({ s' with heard := wrap64 (s'.heard + 1) }, x4) from by unfold wk1; rw [if_neg (by rw [show PS.wat { s' with heard := wrap64 (s'.heard + 1) } z.toNat = false from unhide HWZ]; simp)]] at e9
                          exact ⟨S4, pv4, vt', va', T4, A', _, _, N', (l.eraseIdx kk), unhide H6, unhide P4, (unhide FQ).trans ((unhide F46).wide _), rowLow (unhide O6) (unhide FQ).size, hap, e9.symm, ⟨(unhide Q5).1.of rfl rfl rfl rfl, (unhide Q5).2.of rfl rfl rfl⟩, by rw [List.length_eraseIdx_of_lt hkl]; omega, fun y hy => unhide Q8 y (List.mem_of_mem_eraseIdx hy), by rw [List.length_eraseIdx_of_lt hkl]; omega, by rw [List.length_eraseIdx_of_lt hkl]; omega⟩
                        case measure => omega
                  · skip
                    by_cases hwz : s'.wat z.toNat = true
                    · have HWZ := hide hwz
                      clear hwz
                      as_aux_lemma =>
                        have hzf : z < (p.fn : Int) := by have := (unhide Q5).2.wat z.toNat (unhide HWZ); omega
                        obtain ⟨ua, uc, hut⟩ := row_shape (unhide H4).row
                        subst hut
                        rcases unhide HFF with hz00 | ⟨tb, toff, rfl, htb⟩
                        · omega
                        obtain ⟨vi, hvi, hops⟩ := htb z.toNat (by omega)
                        have htbl : tb < w0.heap.size := World.block_lt_of_cell? _ _ hvi
                        have hln : s'.trace.length ≤ 100000000 := by have := (unhide Q5).1.trace; omega
                        have hq6 : RInv p (N' + 1) { { s' with heard := wrap64 (s'.heard + 1) } with trace := s'.trace ++ [(2, z, 0)] } := told_rinv (s := { s' with heard := wrap64 (s'.heard + 1) }) ⟨(unhide Q5).1.of rfl rfl rfl rfl, (unhide Q5).2.of rfl rfl rfl⟩
                        have hq7 := hM_rinv hs (ok.fr z.toNat (by omega)) { s' with heard := wrap64 (s'.heard + 1), trace := s'.trace ++ [(2, z, 0)] } x4 hq6
                        have HQ6 := hide hq6
                        have HQ7 := hide hq7
                        have HOPS := hide hops
                        have HVI := hide hvi
                        clear hq6 hq7 hops hvi htb
                        go_wp2_with (at_builtin; first | (refine wpList_grow0 elemI (by omega) (by omega) (B := w4.heap.size) (v := .slice none 0 0) (n := 0) (m := kk) (xs := []) (news := (l.take kk).map fun z => Value.int .i64 z) rfl (.tmp 75) (.tmp 78) rfl (ad := ⟨g, 0, none⟩) (cap := lc') rfl rfl (World.ownsRow_nil _ _ _ _) (by rw [List.length_map, List.length_take]; simp; try omega) (unhide NW1) (fun u hu => (by obtain ⟨_, _, rfl⟩ := List.mem_map.1 hu; rfl)) (by omega) (Nat.le_refl _) ?_; intro v5 w5 o5 f5 sh5; rw [Nat.zero_add, List.nil_append] at o5; rw [Nat.zero_add] at sh5; obtain ⟨a5, c5, rfl⟩ := sh5; have f5' : Fr (fun _ => False) w4 w5 (fun _ => False) := ⟨f5.os, f5.tape, f5.output, f5.size, fun k hk _ => f5.same k hk (by simp [own, Value.ownBlock]), fun _ _ h => h⟩; have O5 := hide o5; have F5 := hide f5'; have hz5 := f5.size; have NW2' := hide (fun j u hj => (f5'.cell g _ (unhide HGL) (fun h => h)).trans (unhide NW2 j u hj)); clear o5 f5 f5') | (refine wpList_grow0 elemI (by omega) (by omega) (B := w4.heap.size) (v := .slice a5 kk c5) (n := kk) (m := (l.length - (kk + 1))) (xs := (l.take kk).map fun z => Value.int .i64 z) (news := (l.drop (kk + 1)).map fun z => Value.int .i64 z) rfl (.tmp 80) (.tmp 84) rfl (ad := ⟨g, kk + 1, none⟩) (cap := (lc' - (kk + 1))) rfl rfl (unhide O5) (by rw [List.length_map, List.length_drop]; simp) (fun j u hj => (by rw [addr_add]; exact unhide NW2' j u hj)) (fun u hu => (by obtain ⟨_, _, rfl⟩ := List.mem_map.1 hu; rfl)) (by omega) hz5 ?_; intro v6 w6 o6 f6 sh6;  obtain ⟨a6, c6, rfl⟩ := sh6; have f46 : Fr (fun _ => False) w4 w6 (fun _ => False) := Fr.more (unhide F5) f6 (fun q hq => (World.ownsRow.lt (unhide O5) q hq).1); have o6' : OwnI w6 w4.heap.size (.slice a6 (kk + (l.length - (kk + 1))) c6) (l.eraseIdx kk) := (by unfold OwnI; rw [List.eraseIdx_eq_take_drop_succ, List.map_append, show (l.take kk ++ l.drop (kk + 1)).length = kk + (l.length - (kk + 1)) by rw [List.length_append, List.length_take, List.length_drop]; omega]; exact o6); have h6 := (unhide H4).fr L f46; have kw6 := (h6.cell (17 + z.toNat) (by omega)).trans (by rw [limg_wat _ _ _ _ _ _ (by omega)]); change w6.cell? _ = some (.bool (s'.wat z.toNat)) at kw6; rw [unhide HWZ] at kw6; have k26 := (h6.cell 26 (by omega)).trans (by rw [limg_trace]); change w6.cell? _ = some (.slice ua s'.trace.length uc) at k26; have nb := heap_alloc_new w6 (.cells #[.int .i64 2, .int .i64 z, .int .i64 0] 72); have h6a := h6.alloc L (.cells #[.int .i64 2, .int .i64 z, .int .i64 0] 72); have hB6 := h6a.below; have hb6 := h6.blt; have O6 := hide o6'; have F46 := hide f46; have NB := hide nb; have H6A := hide h6a; clear nb h6a; clear o6 o6' f6 f46 h6) | (refine wpList_grown elemE (by omega) (by omega) (B := B) (v := .slice ua s'.trace.length uc) (n := s'.trace.length) (m := 1) (xs := flatE s'.trace) (news := [.int .i64 2, .int .i64 z, .int .i64 0]) rfl (.tmp 96) (.tmp 99) rfl (ad := ⟨w6.heap.size, 0, none⟩) (cap := 1) rfl rfl (by exact (unhide H6A).row) rfl (World.news_of_block (unhide NB)) (by simp [Value.oneCell']) (by omega) (by omega) hB6 ?_; intro v7 w7 o7 f7 sh7; obtain ⟨av, cv, rfl⟩ := sh7; have c7 := (unhide H6A).cells.block (f7.same b (unhide H6A).blt (fun e => ((unhide H6A).inV b e).2.1 rfl)); have k26' := (c7 26 (by omega)).1.trans (by rw [limg_trace]); have z26 := (c7 26 (by omega)).2; have FIN := hide ((unhide H6A).setTrace L (o := (2, z, 0)) o7 f7); have kf2 := ((unhide FIN).1.cell 2 (by omega)).trans (by rw [limg_pv _ _ _ _ _ _ (by omega), unhide P4 2 (by omega), hfv]); have hbel7 : Below w0.heap.size w0 (w7.setCell ⟨b, 26, none⟩ (.slice av (s'.trace.length + 1) cv)) := (unhide HBEL).trans (unhide HBE ▸ ((unhide FQ).trans (((unhide F46).alloc (.cells #[.int .i64 2, .int .i64 z, .int .i64 0] 72)).wide _ |>.trans (unhide FIN).2)).below (unhide HSB) (unhide HBW)); have kvi := (bcel hbel7 tb (toff + z.toNat) htbl).trans (unhide HVI); have htw7 : tb < (w7.setCell ⟨b, 26, none⟩ (.slice av (s'.trace.length + 1) cv)).heap.size := Nat.lt_of_lt_of_le htbl hbel7.size; have HBEL7 := hide hbel7; clear o7 f7 c7 hbel7))
                        go_at_call 125
                        refine (handlerQ_any L K hm hm4 hs.clock (unhide HBE) (unhide HBEL7) (unhide FIN).1 (unhide HOPS) (ok.fl z.toNat (by omega)) ok.tn ok.fn (ok.fr z.toNat (by omega)) (unhide HQ6).1 (by omega)).mono ?_
                        rintro e w8 ⟨rfl, S8, pv8, vt8, va8, T8, A8, h8, p8, f8⟩
                        have f68 := ((unhide FIN).2.trans f8)
                        have hap : ∀ q, own (.slice a6 (kk + (l.length - (kk + 1))) c6) q → ¬ S4 q := fun q hq hS => by have h1 := (World.ownsRow.lt (unhide O6) q hq).1; have h2 := ((unhide H4).bound q hS).2; omega
                        have hf6s := ((Fr.refl S4 w6).alloc (.cells #[.int .i64 2, .int .i64 z, .int .i64 0] 72)).trans f68
                        have o8 : OwnI w8 w4.heap.size (.slice a6 (kk + (l.length - (kk + 1))) c6) (l.eraseIdx kk) := ownsRow_of_block (unhide O6) (fun q hq => hf6s.same q (World.ownsRow.lt (unhide O6) q hq).2 (hap q hq))
                        have d8 : ∀ q, own (.slice a6 (kk + (l.length - (kk + 1))) c6) q → ¬ S8 q := fun q hq hS => hap q hq (hf6s.old q (World.ownsRow.lt (unhide O6) q hq).2 hS)
                        have H8 := hide h8
                        have P8 := hide p8
                        have O8 := hide o8
                        have D8 := hide d8
                        have F8 := hide ((unhide FQ).trans (((unhide F46).wide _).trans hf6s))
                        clear h8 p8 f8 f68 hap hf6s o8 d8 kvi kf2 k26' z26 htw7
                        go_wp2
                        go_roundg k'
                        case rel =>
                          have e9 := unhide E
                          rw [show wk1 (gF ask p) z { s' with heard := wrap64 (s'.heard + 1) } x4 = gF ask p z { { s' with heard := wrap64 (s'.heard + 1) } with trace := s'.trace ++ [(2, z, 0)] } x4 from by unfold wk1; rw [if_pos (by exact unhide HWZ)]] at e9
                          exact ⟨S8, pv8, vt8, va8, T8, A8, _, _, N' + 1, (l.eraseIdx kk), unhide H8, fun i hi => (unhide P8 i hi).trans (unhide P4 i hi), unhide F8, rowLow (unhide O8) (unhide FQ).size, unhide D8, e9.symm, unhide HQ7, by rw [List.length_eraseIdx_of_lt hkl]; omega, fun y hy => unhide Q8 y (List.mem_of_mem_eraseIdx hy), by rw [List.length_eraseIdx_of_lt hkl]; omega, by rw [List.length_eraseIdx_of_lt hkl]; omega⟩
                        case measure => omega
                    · have hwf : s'.wat z.toNat = false := by simpa using hwz
                      have HWZ := hide hwf
                      clear hwz hwf
                      as_aux_lemma =>
                        go_wp2_with (at_builtin; first | (refine wpList_grow0 elemI (by omega) (by omega) (B := w4.heap.size) (v := .slice none 0 0) (n := 0) (m := kk) (xs := []) (news := (l.take kk).map fun z => Value.int .i64 z) rfl (.tmp 75) (.tmp 78) rfl (ad := ⟨g, 0, none⟩) (cap := lc') rfl rfl (World.ownsRow_nil _ _ _ _) (by rw [List.length_map, List.length_take]; simp; try omega) (unhide NW1) (fun u hu => (by obtain ⟨_, _, rfl⟩ := List.mem_map.1 hu; rfl)) (by omega) (Nat.le_refl _) ?_; intro v5 w5 o5 f5 sh5; rw [Nat.zero_add, List.nil_append] at o5; rw [Nat.zero_add] at sh5; obtain ⟨a5, c5, rfl⟩ := sh5; have f5' : Fr (fun _ => False) w4 w5 (fun _ => False) := ⟨f5.os, f5.tape, f5.output, f5.size, fun k hk _ => f5.same k hk (by simp [own, Value.ownBlock]), fun _ _ h => h⟩; have O5 := hide o5; have F5 := hide f5'; have hz5 := f5.size; have NW2' := hide (fun j u hj => (f5'.cell g _ (unhide HGL) (fun h => h)).trans (unhide NW2 j u hj)); clear o5 f5 f5') | (refine wpList_grow0 elemI (by omega) (by omega) (B := w4.heap.size) (v := .slice a5 kk c5) (n := kk) (m := (l.length - (kk + 1))) (xs := (l.take kk).map fun z => Value.int .i64 z) (news := (l.drop (kk + 1)).map fun z => Value.int .i64 z) rfl (.tmp 80) (.tmp 84) rfl (ad := ⟨g, kk + 1, none⟩) (cap := (lc' - (kk + 1))) rfl rfl (unhide O5) (by rw [List.length_map, List.length_drop]; simp) (fun j u hj => (by rw [addr_add]; exact unhide NW2' j u hj)) (fun u hu => (by obtain ⟨_, _, rfl⟩ := List.mem_map.1 hu; rfl)) (by omega) hz5 ?_; intro v6 w6 o6 f6 sh6;  obtain ⟨a6, c6, rfl⟩ := sh6; have f46 : Fr (fun _ => False) w4 w6 (fun _ => False) := Fr.more (unhide F5) f6 (fun q hq => (World.ownsRow.lt (unhide O5) q hq).1); have o6' : OwnI w6 w4.heap.size (.slice a6 (kk + (l.length - (kk + 1))) c6) (l.eraseIdx kk) := (by unfold OwnI; rw [List.eraseIdx_eq_take_drop_succ, List.map_append, show (l.take kk ++ l.drop (kk + 1)).length = kk + (l.length - (kk + 1)) by rw [List.length_append, List.length_take, List.length_drop]; omega]; exact o6); have h6 := (unhide H4).fr L f46; have kw6 := (h6.cell (17 + z.toNat) (by omega)).trans (by rw [limg_wat _ _ _ _ _ _ (by omega)]); change w6.cell? _ = some (.bool (s'.wat z.toNat)) at kw6; rw [unhide HWZ] at kw6;  have O6 := hide o6'; have F46 := hide f46; have H6 := hide h6; clear o6 o6' f6 f46 h6))
                        have hap : ∀ q, own (.slice a6 (kk + (l.length - (kk + 1))) c6) q → ¬ S4 q := fun q hq hS => by have h1 := (World.ownsRow.lt (unhide O6) q hq).1; have h2 := ((unhide H4).bound q hS).2; omega
                        go_roundg k'
                        case rel =>
                          have e9 := unhide E
                          rw [show wk1 (gF ask p) z { s' with heard := wrap64 (s'.heard + 1) } x4 = ({ s' with heard := wrap64 (s'.heard + 1) }, x4) from by unfold wk1; rw [if_neg (by rw [show PS.wat { s' with heard := wrap64 (s'.heard + 1) } z.toNat = false from unhide HWZ]; simp)]] at e9
                          exact ⟨S4, pv4, vt', va', T4, A', _, _, N', (l.eraseIdx kk), unhide H6, unhide P4, (unhide FQ).trans ((unhide F46).wide _), rowLow (unhide O6) (unhide FQ).size, hap, e9.symm, ⟨(unhide Q5).1.of rfl rfl rfl rfl, (unhide Q5).2.of rfl rfl rfl⟩, by rw [List.length_eraseIdx_of_lt hkl]; omega, fun y hy => unhide Q8 y (List.mem_of_mem_eraseIdx hy), by rw [List.length_eraseIdx_of_lt hkl]; omega, by rw [List.length_eraseIdx_of_lt hkl]; omega⟩
                        case measure => omega
                · have e3 : hearS s' ⟨r3k, r3o, r3n, r3f, r3e⟩ = { s' with fin := r3e } := by unfold hearS; rw [if_neg h3e]
                  have e4 : hdS s' ⟨r3k, r3o, r3n, r3f, r3e⟩ = { s' with fin := r3e } := by unfold hdS; rw [if_neg h3e]
                  rw [e3] at hc3
                  rw [e4] at hst
                  rw [decide_eq_false h3e] at hst
                  have E := hide (q3.symm.trans hst)
                  have HC3 := hide hc3
                  have Q0 := hide q0
                  have Q2 := hide q2
                  have h3b : (r3e == 0) = false := by simpa using h3e
                  have hfield := field49
                  clear hc3 hst hpk hpl e3 e4 q1 q2 q0 q3 q5 qo qd q8 h1
                  go_wp2_with fail
                  go_at_call 141
                  refine (unhide HC3).mono ?_
                  rintro e w4 ⟨kd4, of4, n4, fa4, fl4, fc4, rfl, ⟨S4, pv4, T4, h4, p4, f4⟩, _⟩
                  have k27 := (h4.cell 27 (by omega)).trans (by rw [limg_fin])
                  change w4.cell? _ = some (.int .i64 r3e) at k27
                  have H4 := hide h4
                  have P4 := hide (show ∀ i, i < 3 → pv4 i = pv i from fun i hi => (p4 i hi).trans (unhide Q0 i hi))
                  have F4 := hide f4
                  clear h4 p4 f4 HC3
                  go_wp2
                  refine bodyPost_ret (v := .tuple #[]) (by simp [results, Tryz.results129, go_sem]) rfl ?_
                  rw [unhide E]
                  exact ⟨rfl, S4, pv4, vt', va', T4, A', unhide H4, unhide P4, (unhide Q2).trans (unhide F4)⟩
            · have e := q3.symm.trans (wkM_stop _ gk l s' x2 (.inr hfi))
              have hfb : (s'.fin == 0) = false := by simpa using hfi
              have Q1 := hide q1
              have Q2 := hide q2
              have Q0 := hide q0
              have E := hide e
              clear q1 q2 q3 q5 q0 qo qd q8 e
              go_wp2
              go_end0
              rw [unhide E]
              exact ⟨rfl, S', pv', vt', va', T', A', unhide Q1, unhide Q0, unhide Q2⟩
  · rw [if_neg hre]
    have e0 : hearS s ⟨rk, ro, rn, rf, re⟩ = { s with fin := re } := by unfold hearS; rw [if_neg hre]
    rw [e0] at HC
    have hrb : (re == 0) = false := by simpa using hre
    clear e0
    go_enter Tryz.func129, Tryz.ntmps129
    go_wp2_with fail
    go_at_call 141
    refine (unhide HC).mono ?_
    rintro e w1 ⟨kd, of_, n, fa, fl, fc, rfl, ⟨S1, pv1, T1, h1, p1, f1⟩, _⟩
    have k27 := (h1.cell 27 (by omega)).trans (by rw [limg_fin])
    change w1.cell? _ = some (.int .i64 re) at k27
    have hb1 := h1.blt
    have hn6 : ¬ b = w1.heap.size := by omega
    have hn5 : ¬ w1.heap.size = b := by omega
    have HA := hide (h1.alloc L (.cells #[.int .i64 kd, .int .i64 of_, .int .i64 n, .slice fa fl fc] 49))
    have FA := hide (f1.alloc (.cells #[.int .i64 kd, .int .i64 of_, .int .i64 n, .slice fa fl fc] 49))
    have P1 := hide p1
    clear h1 f1 p1 HC
    go_wp2
    refine bodyPost_ret (v := .tuple #[]) (by simp [results, Tryz.results129, go_sem]) rfl ⟨rfl, ?_⟩
    exact ⟨S1, pv1, vt, va, T1, A, unhide HA, unhide P1, unhide FA⟩
end
end Go.Proofs.YtfmbebofllgmoaaGreatDoor
namespace Go.Proofs.YtfmbebofllgmoaaGreatDoor
open Go.RowKit
attribute [local go_sem ↓] Go.wp_at_zero Go.wp_at_succ

section
variable {σ : Type} {SQ : (Nat → Value) → (Nat → Prop) → World → σ → Prop} {B : Nat} {S T : Nat → Prop} {w : World} {b : Nat} {pv : Nat → Value} {vt va : Value} {s : PS} {A : List AT} {tn sq : Int} {x : σ}
theorem idle_rel (h : ARel s A tn sq) (hw : anyB s.wat 8 = false) : idleB s = (A.length == 0) := by
  unfold idleB
  rw [hw]
  cases A with
  | nil =>
    rw [anyB_false (fun i => (s.tim i).1) 8 (fun i _ => by
      cases e : (s.tim i).1
      · rfl
      · obtain ⟨_, _, u, hu⟩ := h.all i e
        cases hu)]
    rfl
  | cons p r =>
    obtain ⟨a1, a2, a3, a4⟩ := h.mem p (List.mem_cons_self ..)
    rw [anyB_true (fun i => (s.tim i).1) 8 p.1.2.2.2.toNat (by omega) (by show (s.tim _).1 = true; rw [a4]; exact a1)]
    rfl
set_option maxHeartbeats 1000000 in
theorem idleQ_any (h : LQ SQ B S w b pv vt va T s A tn sq x) :
    Calls Tryz.prog 126 #[.pointer (some ⟨b, 0, none⟩)] w fun e w' => e = .returned (.bool (idleB s)) ∧ w' = w := by
  obtain ⟨aa, ca, rfl⟩ := row_shape h.arow
  have hidl := idle_rel h.rel
  have c16 := (h.cell 16 (by omega)).trans (by rw [limg_armed])
  have cw : ∀ i, i < 8 → w.cell? ⟨b, 17 + i, none⟩ = some (.bool (s.wat i)) := fun i hi => (h.cell (17 + i) (by omega)).trans (by rw [limg_wat _ _ _ _ _ _ hi])
  have CW := hide cw
  have HI := hide hidl
  clear h cw hidl
  go_enter Tryz.func126, Tryz.ntmps126
  go_wp2
  go_loopw [3] (fun i wr => ∃ k : Nat, k ≤ 8 ∧ i = .int .i64 k ∧ wr = w ∧ Hid (∀ j, j < k → s.wat j = false)) (fun i _ => 8 - (intOf i).toNat)
  case atStart => exact ⟨0, Nat.zero_le _, rfl, rfl, fun j hj => absurd hj (Nat.not_lt_zero j)⟩
  case round =>
    obtain ⟨k, hk, rfl, rfl, hall⟩ := hrel
    by_cases hlt : k < 8
    · have hc := unhide CW k hlt
      have hk0 : (0 : Int) ≤ (k : Int) := by omega
      have hk1 : (k : Int) < 8 := by omega
      cases hw : s.wat k
      · rw [hw] at hc
        go_wp2
        go_roundw
        case rel =>
          refine ⟨k + 1, by omega, by go_num, by trivial, fun j hj => ?_⟩
          by_cases e : j = k
          · rw [e]; exact hw
          · exact unhide hall j (by omega)
        case measure => simp [intOf]; omega
      · rw [hw] at hc
        have hid : idleB s = false := by unfold idleB; rw [anyB_true s.wat 8 k hlt hw]; simp
        have HID := hide hid
        clear hid
        go_wp2
        go_ret
        refine ⟨?_, rfl⟩
        rw [unhide HID]
        rfl
    · have hkl : k = 8 := by omega
      subst hkl
      have hid := unhide HI (anyB_false s.wat 8 (unhide hall))
      have HID := hide hid
      clear hid
      go_wp2
      go_ret
      refine ⟨?_, rfl⟩
      rw [unhide HID]
      show Ending.returned (Value.bool ((A.length : Int) == 0)) = Ending.returned (Value.bool (A.length == 0))
      have e : ((A.length : Int) == 0) = (A.length == 0) := by rw [Bool.eq_iff_iff, beq_iff_eq, beq_iff_eq]; omega
      rw [e]
end
end Go.Proofs.YtfmbebofllgmoaaGreatDoor
namespace Go.Proofs.YtfmbebofllgmoaaGreatDoor
open Go.RowKit
attribute [local go_sem ↓] Go.wp_at_zero Go.wp_at_succ

section
variable {σ : Type} {SQ : (Nat → Value) → (Nat → Prop) → World → σ → Prop} {ask : σ → Int → Int → Rep × σ} {may : Int → Int → Prop} {mes : σ → Nat} {B : Nat} {S T : Nat → Prop} {w : World} {b : Nat} {pv : Nat → Value} {vt va : Value} {s : PS} {A : List AT} {tn sq : Int} {x : σ}
/-- How far the turns have come. -/
def URel (SQ : (Nat → Value) → (Nat → Prop) → World → σ → Prop) (ask : σ → Int → Int → Rep × σ) (mes : σ → Nat) (B : Nat) (S : Nat → Prop) (w : World) (b : Nat) (pv : Nat → Value) (p : Pg) (fin : PS × σ) (k : Nat) (wr : World) : Prop :=
  ∃ S' pv' vt' va' T' A' s' x' N tn sq, LQ SQ B S' wr b pv' vt' va' T' s' A' tn sq x' ∧ (∀ i, i < 3 → pv' i = pv i) ∧ Fr S w wr S' ∧ turnsM ask p k s' x' = fin ∧ RInv p N s' ∧ N + 16 * k ≤ 100000000 ∧ (s'.fin ≠ 0 ∨ mes x' < k) ∧ 0 ≤ tn ∧ tn + k ≤ 100000000
/-- What comes of a run. -/
def URun (SQ : (Nat → Value) → (Nat → Prop) → World → σ → Prop) (B : Nat) (S : Nat → Prop) (w : World) (b : Nat) (pv : Nat → Value) (s : PS) (x : σ) (w' : World) : Prop := ∃ tn sq, LPost SQ B S w b pv tn sq s x w'
theorem urel_next {w2 : World} {S2 T2 : Nat → Prop} {pv2 : Nat → Value} {vt2 va2 : Value} {A2 : List AT} {s2 : PS} {x2 : σ} {N k' : Nat} {p : Pg} {fin : PS × σ} (p1 : LQ SQ B S2 w2 b pv2 vt2 va2 T2 s2 A2 tn sq x2) (p0 : ∀ i, i < 3 → pv2 i = pv i) (p2 : Fr S w w2 S2) (e : fin = turnsM ask p k' s2 x2) (q : RInv p N s2) (hN : N + 16 * k' ≤ 100000000) (hm : s2.fin ≠ 0 ∨ mes x2 < k') (ht : 0 ≤ tn) (ht2 : tn + k' ≤ 100000000) : URel SQ ask mes B S w b pv p fin k' w2 :=
  ⟨S2, pv2, vt2, va2, T2, A2, s2, x2, N, tn, sq, p1, p0, p2, e.symm, q, hN, hm, ht, ht2⟩

set_option maxHeartbeats 4000000 in
set_option maxRecDepth 20000 in
theorem runQ_any (L : SQLaw SQ B) (K : HearQ SQ ask may B) (hm : MayOk may) (hs : SrcOk ask mes) {w0 : World} (hB : B = w0.heap.size) (hbel : Below w0.heap.size w0 w) {p : Pg} (pg : PgAt w0 pv p) (ok : PgOk p) (f : Int) (h : LQ SQ B S w b pv vt va T (s0 (min (max f 0) 5000)) A tn sq x) (h0 : tn = 0) (hM0 : mes x ≤ 5000000) :
    Calls Tryz.prog 107 #[.pointer (some ⟨b, 0, none⟩)] w fun e w' => e = .returned (.tuple #[]) ∧ URun SQ B S w b pv (runM ask p (mes x + 1) f x).1 (runM ask p (mes x + 1) f x).2 w' := by
  subst h0
  have hq0 : RInv p 5000 (s0 (min (max f 0) 5000)) := ⟨⟨⟨by show 0 ≤ min (max f 0) 5000; omega, by show min (max f 0) 5000 ≤ 5000; omega⟩, ⟨Int.le_refl 0, by show (0 : Int) ≤ 1099511627776; omega⟩, ⟨Int.le_refl 0, by show 0 + min (max f 0) 5000 ≤ 5000; omega⟩, by show 0 + (min (max f 0) 5000).toNat ≤ 5000; omega⟩, ⟨fun i hi => (by cases hi), fun i hi => (by cases hi), fun i hi => (by cases hi), fun i j hi => (by cases hi)⟩⟩
  have hq1 := hM_rinv hs ok.sr (s0 (min (max f 0) 5000)) x hq0
  have hmes := hM_mes hs (f := p.sf) (n := p.sn) p.sn { s0 (min (max f 0) 5000) with next := 0 } x
  have hcall := handlerQ_any L K hm.clock hm.lot hs.clock hB hbel h pg.s ok.sl ok.tn ok.fn ok.sr hq0.1 (by omega)
  have hSB : ∀ k, S k → B ≤ k := fun k hk => (h.bound k hk).1
  have hBw : B ≤ w.heap.size := h.below
  have hc0 := (h.cell 0 (by omega)).trans (by rw [limg_pv _ _ _ _ _ _ (by omega)])
  have hsv := pg.s
  obtain ⟨sa, sc, hpv0, _, _⟩ := hsv
  rw [hpv0] at hc0 hcall
  change Calls _ _ _ _ (fun e w' => e = Ending.returned (.tuple #[]) ∧ LPost SQ B S w b pv 0 sq (hM ask p.sf p.sn p.sn (s0 (min (max f 0) 5000)) x).1 (hM ask p.sf p.sn p.sn (s0 (min (max f 0) 5000)) x).2 w') at hcall
  change RInv p 5000 (hM ask p.sf p.sn p.sn (s0 (min (max f 0) 5000)) x).1 at hq1
  change mes (hM ask p.sf p.sn p.sn (s0 (min (max f 0) 5000)) x).2 ≤ mes x at hmes
  unfold runM
  generalize hH : hM ask p.sf p.sn p.sn (s0 (min (max f 0) 5000)) x = Hh at *
  obtain ⟨s1, x1⟩ := Hh
  dsimp only at hcall hq1 hmes ⊢
  have r0 : ∀ w1, LPost SQ B S w b pv 0 sq s1 x1 w1 → URel SQ ask mes B S w b pv p (turnsM ask p (mes x + 1) s1 x1) (mes x + 1) w1 := fun w1 ⟨S1, pv1, vt1, va1, T1, A1, l1, p1, f1⟩ =>
    urel_next l1 p1 f1 rfl hq1 (by omega) (.inr (by omega)) (Int.le_refl 0) (by omega)
  generalize turnsM ask p (mes x + 1) s1 x1 = fin at *
  generalize mes x + 1 = K0 at *
  have R0 := hide r0
  have HC := hide hcall
  have HSB := hide hSB
  have HBW := hide hBw
  have HBEL := hide hbel
  have HBE := hide hB
  have HPG := hide pg
  clear h r0 hcall hSB hBw hbel hB pg hq0 hq1 hmes hH
  go_enter Tryz.func107, Tryz.ntmps107
  go_wp2_with fail
  go_at_call 125
  refine (unhide HC).mono ?_
  rintro e w1 ⟨rfl, l1⟩
  have R1 := hide (unhide R0 w1 l1)
  clear l1 R0 HC hc0
  go_wp2
  go_loopg [] K0 (fun k wr => URel SQ ask mes B S w b pv p fin k wr)
  case atStart => exact unhide R1
  case round =>
    obtain ⟨S', pv', vt', va', T', A', s', x', N', tn', sq', q1, q0, q2, q3, q5, q6, q7, q8, q9⟩ := hrel
    have c27 := (q1.cell 27 (by omega)).trans (by rw [limg_fin])
    by_cases hfi : s'.fin = 0
    · obtain ⟨k', rfl⟩ : ∃ k', gk = k' + 1 := ⟨gk - 1, by have := q7.resolve_left (fun h => h hfi); omega⟩
      have hfb : (s'.fin == 0) = true := by simpa using hfi
      have hu : fin = turnsM ask p k' (turnM ask p s' x').1 (turnM ask p s' x').2 := by rw [← q3]; simp only [turnsM]; rw [if_pos hfi]
      have hmt : (turnM ask p s' x').1.fin ≠ 0 ∨ mes (turnM ask p s' x').2 < k' := by
        rcases turnM_mes hs p s' x' with h1 | h1
        · exact .inl h1
        · have := q7.resolve_left (fun h => h hfi); exact .inr (by omega)
      have htr := turnM_rinv hs ok x' q5
      have c15 := (q1.cell 15 (by omega)).trans (by rw [limg_turn])
      have f15 := q1.free 15 (by omega)
      have hw15 : wrap64 (tn' + 1) = tn' + 1 := by unfold wrap64; omega
      have hSb : S b ∨ w.heap.size ≤ b := by
        by_cases hS : S b
        · exact .inl hS
        · exact .inr (Nat.le_of_not_lt fun hl => hS (q2.old b hl q1.inB))
      have hS2 : ∀ k, S' k → B ≤ k := fun k hk => (q1.bound k hk).1
      have l2 := q1.set L 15 (.int .i64 (tn' + 1)) s' (tn' := tn' + 1) (sq' := s'.armings) (by omega) (lset_turn (tn' + 1)) rfl q1.rel.turn rfl
      have f2 := q2.setCell ⟨b, 15, none⟩ (.int .i64 (tn' + 1)) hSb
      have c27' := (l2.cell 27 (by omega)).trans (by rw [limg_fin])
      have f27' := l2.free 27 (by omega)
      have HI := hide (idleQ_any l2)
      have HCK := hide (clockQ_any L K l2 hfi hm.clock)
      have hq5c := ckS_rinv hs x' q5
      have L2 := hide l2
      have F2 := hide f2
      have HU := hide hu
      have HMT := hide hmt
      have HTR := hide htr
      have Q0 := hide q0
      have HQC := hide hq5c
      have HSb := hide hSb
      have HFI := hide hfi
      clear q1 q2 q3 q5 q7 q0 hu hmt htr l2 f2 hSb hS2 hq5c hfi
      cases hid : idleB s'
      · have e0 : turnM ask p s' x' = if ckB s' (ask x' 1 0).1 then
            (if (frM (gT ask p) (dueS (ckS s' (ask x' 1 0).1)) (ckS s' (ask x' 1 0).1) (ask x' 1 0).2).1.fin = 0 then wakeM ask p (frM (gT ask p) (dueS (ckS s' (ask x' 1 0).1)) (ckS s' (ask x' 1 0).1) (ask x' 1 0).2).1 (frM (gT ask p) (dueS (ckS s' (ask x' 1 0).1)) (ckS s' (ask x' 1 0).1) (ask x' 1 0).2).2
             else frM (gT ask p) (dueS (ckS s' (ask x' 1 0).1)) (ckS s' (ask x' 1 0).1) (ask x' 1 0).2)
          else (ckS s' (ask x' 1 0).1, (ask x' 1 0).2) := by unfold turnM; rw [if_neg (by rw [hid]; simp)]
        rw [e0] at HU HMT HTR
        rw [hid] at HI
        have hca := ckS_tim s' (ask x' 1 0).1
        have hcf : (ckB s' (ask x' 1 0).1 = true → (ckS s' (ask x' 1 0).1).fin = 0) ∧ (ckB s' (ask x' 1 0).1 = false → (ckS s' (ask x' 1 0).1).fin ≠ 0) := by
          unfold ckB ckS
          by_cases he : (ask x' 1 0).1.e = 0
          · by_cases hl : (ask x' 1 0).1.n < s'.clock
            · simp [he, hl]
            · simp [he, hl]; exact unhide HFI
          · simp [he]
        clear e0 hid
        generalize ckS s' (ask x' 1 0).1 = s2 at *
        generalize (ask x' 1 0).2 = x2 at *
        cases hcb : ckB s' (ask x' 1 0).1
        · rw [hcb] at HU HMT HTR hcf
          rw [if_neg (by simp)] at HU HMT HTR
          have hnf := hcf.2 rfl
          have hnb : (s2.fin == 0) = false := by simpa using hnf
          clear hcf hcb
          go_wp2_with (first | (go_at_call 126; refine (unhide HI).mono ?_; rintro e w3 ⟨rfl, hw3⟩; rw [hw3]; clear hw3 HI w3) | (go_at_call 127; refine (unhide HCK).mono ?_; rintro e w4 ⟨rfl, S4, pv4, T4, l4, p4, f4⟩; have k27 := (l4.cell 27 (by omega)).trans (by rw [limg_fin]); have L4 := hide l4; have P4 := hide p4; have F4 := hide f4; clear l4 p4 f4 HCK))
          go_roundg k'
          case rel => exact urel_next (unhide L4) (fun i hi => (unhide P4 i hi).trans (unhide Q0 i hi)) ((unhide F2).trans (unhide F4)) (unhide HU) (unhide HTR) (by omega) (unhide HMT) (by omega) (by omega)
          case measure => omega
        · rw [hcb] at HU HMT HTR hcf
          rw [if_pos rfl] at HU HMT HTR
          have h20 := hcf.1 rfl
          have h2b : (s2.fin == 0) = true := by simpa using h20
          have hdl := due_length s2
          have hfr := frM_rinv hs ok (dueS s2) N' s2 x2 (fun t ht => mem_due (unhide HQC).2 ht) (unhide HQC)
          have hT4 : ∀ (w4 : World) {S4 : Nat → Prop} {pv4 : Nat → Value} {T4 : Nat → Prop}, LQ SQ B S4 w4 b pv4 vt' va' T4 s2 A' (tn' + 1) s'.armings x2 → (∀ i, i < 3 → pv4 i = pv i) → Fr S w w4 S4 → Calls Tryz.prog 128 #[.pointer (some ⟨b, 0, none⟩)] w4 fun e w' => e = .returned (.tuple #[]) ∧ LPost SQ B S4 w4 b pv4 (tn' + 1) s'.armings (frM (gT ask p) (dueS s2) s2 x2).1 (frM (gT ask p) (dueS s2) s2 x2).2 w' := fun w4 S4 pv4 T4 l4 p4 f4 =>
            timersQ_any L K hm.clock hm.lot hs (unhide HBE) ((unhide HBEL).trans (unhide HBE ▸ f4.below (unhide HSB) (unhide HBW))) ⟨by rw [p4 0 (by omega)]; exact (unhide HPG).s, by rw [p4 1 (by omega)]; exact (unhide HPG).t, by rw [p4 2 (by omega)]; exact (unhide HPG).f⟩ ok l4 (unhide HQC) (by omega) (by rw [hca.2]; exact Int.le_refl _)
          generalize frM (gT ask p) (dueS s2) s2 x2 = F at *
          obtain ⟨s3, x3⟩ := F
          dsimp only at hfr hT4 HU HMT HTR
          have HT4 := hide @hT4
          have HFR := hide hfr
          clear hcf hcb hT4 hfr h20 hca
          by_cases h30 : s3.fin = 0
          · rw [if_pos h30] at HU HMT HTR
            have h3b : (s3.fin == 0) = true := by simpa using h30
            have H30 := hide h30
            clear h30
            go_wp2_with (first | (go_at_call 126; refine (unhide HI).mono ?_; rintro e w3 ⟨rfl, hw3⟩; rw [hw3]; clear hw3 HI w3) | (go_at_call 127; refine (unhide HCK).mono ?_; rintro e w4 ⟨rfl, S4, pv4, T4, l4, p4, f4⟩; have k27 := (l4.cell 27 (by omega)).trans (by rw [limg_fin]); have L4 := hide l4; have P4 := hide (show ∀ i, i < 3 → pv4 i = pv i from fun i hi => (p4 i hi).trans (unhide Q0 i hi)); have F4 := hide ((unhide F2).trans f4); clear l4 p4 f4 HCK) | (go_at_call 128; refine (unhide HT4 w4 (unhide L4) (unhide P4) (unhide F4)).mono ?_; rintro e w5 ⟨rfl, S5, pv5, vt5, va5, T5, A5, l5, p5, f5⟩; have k27b := (l5.cell 27 (by omega)).trans (by rw [limg_fin]); have L5 := hide l5; have P5 := hide (show ∀ i, i < 3 → pv5 i = pv i from fun i hi => (p5 i hi).trans (unhide P4 i hi)); have F5 := hide ((unhide F4).trans f5); clear l5 p5 f5 HT4 k27))
            go_at_call 129
            refine (batchQ_any L K hm.clock hm.batch hm.pick hm.lot hs (unhide HBE) ((unhide HBEL).trans (unhide HBE ▸ (unhide F5).below (unhide HSB) (unhide HBW))) ⟨by rw [unhide P5 0 (by omega)]; exact (unhide HPG).s, by rw [unhide P5 1 (by omega)]; exact (unhide HPG).t, by rw [unhide P5 2 (by omega)]; exact (unhide HPG).f⟩ ok (unhide L5) (unhide H30) (unhide HFR) (by omega)).mono ?_
            rintro e w6 ⟨rfl, S6, pv6, vt6, va6, T6, A6, l6, p6, f6⟩
            have L6 := hide l6
            have P6 := hide p6
            have F6 := hide f6
            clear l6 p6 f6
            go_wp2
            go_roundg k'
            case rel => exact urel_next (unhide L6) (fun i hi => (unhide P6 i hi).trans (unhide P5 i hi)) ((unhide F5).trans (unhide F6)) (unhide HU) (unhide HTR) (by omega) (unhide HMT) (by omega) (by omega)
            case measure => omega
          · rw [if_neg h30] at HU HMT HTR
            have h3b : (s3.fin == 0) = false := by simpa using h30
            clear h30
            go_wp2_with (first | (go_at_call 126; refine (unhide HI).mono ?_; rintro e w3 ⟨rfl, hw3⟩; rw [hw3]; clear hw3 HI w3) | (go_at_call 127; refine (unhide HCK).mono ?_; rintro e w4 ⟨rfl, S4, pv4, T4, l4, p4, f4⟩; have k27 := (l4.cell 27 (by omega)).trans (by rw [limg_fin]); have L4 := hide l4; have P4 := hide (show ∀ i, i < 3 → pv4 i = pv i from fun i hi => (p4 i hi).trans (unhide Q0 i hi)); have F4 := hide ((unhide F2).trans f4); clear l4 p4 f4 HCK) | (go_at_call 128; refine (unhide HT4 w4 (unhide L4) (unhide P4) (unhide F4)).mono ?_; rintro e w5 ⟨rfl, S5, pv5, vt5, va5, T5, A5, l5, p5, f5⟩; have k27b := (l5.cell 27 (by omega)).trans (by rw [limg_fin]); have L5 := hide l5; have P5 := hide (show ∀ i, i < 3 → pv5 i = pv i from fun i hi => (p5 i hi).trans (unhide P4 i hi)); have F5 := hide ((unhide F4).trans f5); clear l5 p5 f5 HT4 k27))
            go_roundg k'
            case rel => exact urel_next (unhide L5) (unhide P5) (unhide F5) (unhide HU) (unhide HTR) (by omega) (unhide HMT) (by omega) (by omega)
            case measure => omega
      · have e0 : turnM ask p s' x' = ({ s' with fin := 2 }, x') := by unfold turnM; rw [if_pos hid]
        rw [hid] at HI
        rw [e0, turnsM_stop p k' _ _ (by show (2 : Int) ≠ 0; omega)] at HU
        clear e0 hid
        go_wp2_with (first | (go_at_call 126; refine (unhide HI).mono ?_; rintro e w3 ⟨rfl, hw3⟩; rw [hw3]; clear hw3 HI w3))
        refine bodyPost_ret (v := .tuple #[]) (by simp [results, Tryz.results107, go_sem]) rfl ?_
        rw [unhide HU]
        exact ⟨rfl, tn' + 1, s'.armings, S', pv', vt', va', T', A', (unhide L2).set L 27 _ _ (by omega) (lset_fin 2) rfl ((unhide L2).rel.of rfl rfl) rfl, unhide Q0, (unhide F2).setCell _ _ (unhide HSb)⟩
    · have e := q3.symm.trans (turnsM_stop p gk s' x' hfi)
      have hfb : (s'.fin == 0) = false := by simpa using hfi
      have Q1 := hide q1
      have Q2 := hide q2
      have Q0 := hide q0
      have E := hide e
      clear q1 q2 q3 q5 q0 e q7 hfi
      go_wp2
      go_end0
      rw [unhide E]
      exact ⟨rfl, tn', sq', S', pv', vt', va', T', A', unhide Q1, unhide Q0, unhide Q2⟩
end
end Go.Proofs.YtfmbebofllgmoaaGreatDoor
namespace Go.Proofs.YtfmbebofllgmoaaGreatDoor
open Go.RowKit
attribute [local go_sem ↓] Go.wp_at_zero Go.wp_at_succ

/-- The body of an input. -/
def inpS (i : Inp) : ByteArray := if i.1 = 2 then batchS (zs i.2.2.2) else bodyS i.1 i.2.1 i.2.2.1
/-- The log of what was heard. -/
def heardS : List (Inp × Value) → ByteArray
  | [] => headS
  | l => l.foldl (fun r p => r ++ frameS (inpS p.1)) headS
theorem heardS_snoc (l : List (Inp × Value)) (p : Inp × Value) : heardS (l ++ [p]) = heardS l ++ frameS (inpS p.1) := by
  have e : ∀ l : List (Inp × Value), heardS l = l.foldl (fun r p => r ++ frameS (inpS p.1)) headS := fun l => by cases l <;> rfl
  rw [e, e, List.foldl_append]
  rfl
/-- The document's source in memory: a world, and what was heard. -/
structure SQR (B : Nat) (pv : Nat → Value) (T : Nat → Prop) (w : World) (x : RS) : Prop where
  rep : pv 7 = .bool false
  c : IntsC w (pv 3) x.clocks (fun q => q < B)
  b : BatsC w (pv 4) (x.batches.map (·.2)) (fun q => q < B)
  p : IntsC w (pv 5) x.picks (fun q => q < B)
  l : IntsC w (pv 6) x.lots (fun q => q < B)
  bl : ∀ y, y ∈ x.batches → y.2.length ≤ 100000000
  hd : ∃ H : List (Inp × Value), w.ownsRow B 49 4 (pv 9) H.length (flatP H) ∧ (∀ q, own (pv 9) q → T q) ∧ (∀ y, y ∈ H → IntsIn w y.2 (zs y.1.2.2.2) (fun q => T q ∧ ¬ own (pv 9) q)) ∧ x.log = heardS H ∧ (∀ y, y ∈ H → Fit y.1) ∧ H.length + x.left ≤ 20000000
theorem SQR.law (B : Nat) : SQLaw (SQR B) B := ⟨fun h hk hb _ =>
  ⟨h.rep, h.c.keep hb, h.b.keep hb, h.p.keep hb, h.l.keep hb, h.bl, by
    obtain ⟨H, h1, h2, h3, h4, h5, h6⟩ := h.hd
    exact ⟨H, ownsRow_of_block h1 (fun q hq => hk q (h2 q hq)), h2, fun y hy => intsIn_kept (h3 y hy) (fun q hq => hk q hq.1) (fun _ h => h), h4, h5, h6⟩⟩⟩
section
variable {σ : Type} {SQ : (Nat → Value) → (Nat → Prop) → World → σ → Prop} {B : Nat} {S T T' : Nat → Prop} {w w' : World} {b : Nat} {pv pv' : Nat → Value} {vt va : Value} {s s' : PS} {A : List AT} {tn sq : Int} {x x' : σ}
/-- The source has turned, and the struct's cells with it. -/
theorem LQ.rebuild (h : LQ SQ B S w b pv vt va T s A tn sq x) (hf : Fr (fun q => q = b ∨ T q) w w' (fun q => q = b ∨ T' q)) (hcells : LAt w' b (limg pv' vt va s' tn)) (hsrc : SQ pv' T' w' x') (hT : ∀ q, T' q → q < w'.heap.size ∧ q ≠ b) (ht : s'.trace = s.trace) (hr : ARel s' A tn sq) (hc : ∃ a n c, pv' 9 = .slice a n c ∧ (n : Int) = s'.heard) :
    LQ SQ B (fun q => (S q ∧ ¬ T q) ∨ T' q) w' b pv' vt va T' s' A tn sq x' ∧ Fr S w w' (fun q => (S q ∧ ¬ T q) ∨ T' q) := by
  have hbT : ¬ T b := fun e => (h.inT b e).2 rfl
  have hold : ∀ q, T' q → q < w.heap.size → T q := fun q hq hl => by
    rcases hf.old q hl (.inr hq) with e | e
    · exact absurd e (hT q hq).2
    · exact e
  have hBw := h.below
  refine ⟨⟨fun k hk => ?_, hcells, ?_, ?_, hr, hsrc, hc, .inl ⟨h.inB, hbT⟩, fun q hq => ?_, fun q hq => ?_, fun k hk => ⟨.inr hk, (hT k hk).2⟩⟩, ?_⟩
  · rcases hk with ⟨hk, _⟩ | hk
    · exact ⟨(h.bound k hk).1, Nat.lt_of_lt_of_le (h.bound k hk).2 hf.size⟩
    · refine ⟨?_, (hT k hk).1⟩
      by_cases hl : k < w.heap.size
      · exact (h.bound k (h.inT k (hold k hk hl)).1).1
      · omega
  · rw [ht]
    exact ownsRow_of_block h.row (fun q hq => hf.same q (h.bound q (h.inV q hq).1).2 (fun e => e.elim (h.inV q hq).2.1 (h.inV q hq).2.2))
  · exact ownsRow_of_block h.arow (fun q hq => hf.same q (h.bound q (h.inA q hq).1).2 (fun e => e.elim (h.inA q hq).2.1 (h.inA q hq).2.2))
  · obtain ⟨h1, h2, h3⟩ := h.inV q hq
    exact ⟨.inl ⟨h1, h3⟩, h2, fun e => h3 (hold q e (h.bound q h1).2)⟩
  · obtain ⟨h1, h2, h3⟩ := h.inA q hq
    exact ⟨.inl ⟨h1, h3⟩, h2, fun e => h3 (hold q e (h.bound q h1).2)⟩
  · refine ⟨hf.os, hf.tape, hf.output, hf.size, fun k hk hn => hf.same k hk (fun e => hn (e.elim (fun e => e ▸ h.inB) (fun e => (h.inT k e).1))), fun k hk hs => ?_⟩
    rcases hs with ⟨hs, _⟩ | hs
    · exact hs
    · exact (h.inT k (hold k hs hk)).1
end
section
variable {B : Nat} {S T : Nat → Prop} {w : World} {b : Nat} {pv : Nat → Value} {vt va : Value} {s : PS} {A : List AT} {tn sq : Int} {x : RS}
set_option maxHeartbeats 4000000 in
set_option maxRecDepth 20000 in
/-- A question that the world does not answer. -/
theorem hearR_no (h : LQ (SQR B) B S w b pv vt va T s A tn sq x) (k o : Int) (a0 a1 a2 : Int)
    (hcall : ∀ W, Fr (fun _ => False) w W (fun _ => False) → Calls Tryz.prog 146 #[.pointer (some ⟨b, 0, none⟩), .int .i64 k, .int .i64 o] W fun e w' => e = .returned (.tuple #[.agg #[.int .i64 a0, .int .i64 a1, .int .i64 a2, .slice none 0 0], .bool false]) ∧ Fr (fun _ => False) W w' (fun _ => False)) :
    Calls Tryz.prog 141 #[.pointer (some ⟨b, 0, none⟩), .int .i64 k, .int .i64 o] w fun e w' => e = .returned (.agg #[.int .i64 0, .int .i64 0, .int .i64 0, .slice none 0 0]) ∧ LPostS (SQR B) B S w b pv vt va A tn sq { s with fin := 5 } x w' := by
  have hb := h.blt
  have k7 := (h.cell 7 (by omega)).trans (by rw [limg_pv _ _ _ _ _ _ (by omega), h.src.rep])
  have f0 : Fr (fun _ => False) w ((w.alloc (.cells #[.int .i64 0, .int .i64 0, .int .i64 0, .slice none 0 0] 49)).alloc (.cells #[.int .i64 0, .int .i64 0, .int .i64 0, .slice none 0 0] 49)) (fun _ => False) := ((Fr.refl _ _).alloc _).alloc _
  have H := hide h
  have HC := hide (hcall _ f0)
  have hinB := h.inB
  have HIN := hide hinB
  clear h hcall hinB
  go_enter Tryz.func141, Tryz.ntmps141
  go_wp2_with fail
  go_at_call 146
  refine (unhide HC).mono ?_
  rintro e w2 ⟨rfl, f2⟩
  have f02 := f0.trans f2
  have x6 : w2.heap[w.heap.size]? = some (.cells #[.int .i64 0, .int .i64 0, .int .i64 0, .slice none 0 0] 49) := (f2.same _ (by simp; omega) (fun h => h)).trans ((Below.heap_alloc _ _ _ (by simp)).trans (heap_alloc_new _ _))
  have x7 : w2.heap[w.heap.size + 1]? = some (.cells #[.int .i64 0, .int .i64 0, .int .i64 0, .slice none 0 0] 49) := (f2.same _ (by simp) (fun h => h)).trans (by
    have h := heap_alloc_new (w.alloc (.cells #[.int .i64 0, .int .i64 0, .int .i64 0, .slice none 0 0] 49)) (.cells #[.int .i64 0, .int .i64 0, .int .i64 0, .slice none 0 0] 49)
    rwa [show (w.alloc (.cells #[.int .i64 0, .int .i64 0, .int .i64 0, .slice none 0 0] 49)).heap.size = w.heap.size + 1 by simp] at h)
  have h2 := (unhide H).fr (SQR.law B) f02
  have c27 := h2.cell 27 (by omega)
  have z27 := h2.free 27 (by omega)
  generalize limg pv vt va s tn 27 = o27 at c27
  have k6 := fun j => cell_of_row w2 _ j _ 49 (0, 0) x6
  have t6 := fun j => frozen_rowE x6 j
  have k8 := fun j => cell_of_row w2 _ j _ 49 (0, 0) x7
  have t8 := fun j => frozen_rowE x7 j
  have l6 := (Array.getElem?_eq_some_iff.1 x6).1
  have l8 := (Array.getElem?_eq_some_iff.1 x7).1
  have hb2 := h2.blt
  have n1 : ¬ b = w.heap.size := by omega
  have n2 : ¬ w.heap.size = b := by omega
  have n3 : ¬ b = w.heap.size + 1 := by omega
  have n4 : ¬ w.heap.size + 1 = b := by omega
  have n5 : ¬ w2.heap.size = b := by omega
  have n6 : ¬ w2.heap.size = w.heap.size := by omega
  have n7 : ¬ w2.heap.size = w.heap.size + 1 := by omega
  have n8 : ¬ b = w2.heap.size := by omega
  have n9 : ¬ w.heap.size = w2.heap.size := by omega
  have n10 : ¬ w.heap.size + 1 = w2.heap.size := by omega
  have H2 := hide h2
  have F02 := hide f02
  have X6 := hide x6
  clear h2 f02 x6 x7 f0 f2 HC k7
  have hP6 : ¬ S w.heap.size := fun hs => by have := ((unhide H).bound _ hs).2; omega
  have hB6 : B ≤ w.heap.size := (unhide H).below
  have HP6 := hide hP6
  clear hP6
  go_wp2
  have y6 : ((((((w2.setCell ⟨b, 27, none⟩ (.int .i64 5)).setCell ⟨w.heap.size, 0, none⟩ (.int .i64 0)).setCell ⟨w.heap.size, 1, none⟩ (.int .i64 0)).setCell ⟨w.heap.size, 2, none⟩ (.int .i64 0)).setCell ⟨w.heap.size, 3, none⟩ (.slice none 0 0)).alloc (.cells #[.int .i64 a0, .int .i64 a1, .int .i64 a2, .slice none 0 0] 49)).heap[w.heap.size]? = some (.cells #[.int .i64 0, .int .i64 0, .int .i64 0, .slice none 0 0] 49) := (Below.heap_alloc _ _ _ (by simp [World.setCell]; exact l6)).trans (setCell_row _ _ 3 _ 49 _ (setCell_row _ _ 2 _ 49 _ (setCell_row _ _ 1 _ 49 _ (setCell_row _ _ 0 _ 49 _ ((Below.heap_setCell _ _ _ _ n2).trans (unhide X6))))))
  have ky := fun j => cell_of_row _ _ j _ 49 (0, 0) y6
  refine bodyPost_ret (v := .agg #[.int .i64 0, .int .i64 0, .int .i64 0, .slice none 0 0]) (by simp [results, Tryz.results141, go_sem, ky]) rfl ⟨rfl, ?_⟩
  refine ⟨S, pv, T, ?_, fun _ _ => rfl, ?_⟩
  · exact ((((((unhide H2).set (SQR.law B) 27 (.int .i64 5) { s with fin := 5 } (by omega) (lset_fin 5) rfl ((unhide H2).rel.of rfl rfl) rfl).setNew (SQR.law B) ⟨w.heap.size, 0, none⟩ _ (unhide HP6) hB6).setNew (SQR.law B) ⟨w.heap.size, 1, none⟩ _ (unhide HP6) hB6).setNew (SQR.law B) ⟨w.heap.size, 2, none⟩ _ (unhide HP6) hB6).setNew (SQR.law B) ⟨w.heap.size, 3, none⟩ _ (unhide HP6) hB6).alloc (SQR.law B) _
  · exact (((((((unhide F02).wide S).setCell ⟨b, 27, none⟩ _ (.inl (unhide HIN))).setCell ⟨w.heap.size, 0, none⟩ _ (.inr (Nat.le_refl _))).setCell ⟨w.heap.size, 1, none⟩ _ (.inr (Nat.le_refl _))).setCell ⟨w.heap.size, 2, none⟩ _ (.inr (Nat.le_refl _))).setCell ⟨w.heap.size, 3, none⟩ _ (.inr (Nat.le_refl _))).alloc _
theorem limg_setpv {pv : Nat → Value} {vt va : Value} {s : PS} {tn : Int} {j : Nat} {v : Value} (hj : j < 10) (k : Nat) : limg (setC pv j v) vt va s tn k = setC (limg pv vt va s tn) j v k := by
  unfold setC
  by_cases e : k = j
  · subst e
    rw [if_pos rfl, limg_pv _ _ _ _ _ _ hj, if_pos rfl]
  · rw [if_neg e]
    unfold limg
    by_cases h1 : k < 10
    · rw [if_pos h1, if_pos h1]; show (if k = j then v else pv k) = pv k; rw [if_neg e]
    · rw [if_neg h1, if_neg h1]
set_option maxHeartbeats 4000000 in
/-- What was heard is laid behind the rest. -/
theorem hear_fin {W4 w5 : World} {ob : Obj} {v9 fv vh : Value} {H : List (Inp × Value)} {i : Inp} {j : Nat} {v' : Value} {x' : RS} (h : LQ (SQR B) B S w b pv vt va T s A tn sq x) (hfit : Fit i) (hj3 : 3 ≤ j) (hj7 : j < 7) (hleft : x'.left + 1 = x.left)
    (hsc : IntsC w (setC pv j v' 3) x'.clocks (fun q => q < B)) (hsb : BatsC w (setC pv j v' 4) (x'.batches.map (·.2)) (fun q => q < B)) (hsp : IntsC w (setC pv j v' 5) x'.picks (fun q => q < B)) (hsl : IntsC w (setC pv j v' 6) x'.lots (fun q => q < B)) (hbl : ∀ y, y ∈ x'.batches → y.2.length ≤ 100000000)
    (hrow : w.ownsRow B 49 4 vh H.length (flatP H)) (hown : ∀ q, own vh q → T q) (hfl : ∀ y, y ∈ H → IntsIn w y.2 (zs y.1.2.2.2) (fun q => T q ∧ ¬ own vh q)) (hlog : x'.log = heardS H ++ frameS (inpS i)) (hfits : ∀ y, y ∈ H → Fit y.1) (hcnt : H.length + x.left ≤ 20000000) (hnh : (H.length : Int) = s.heard)
    (c4 : LAt W4 b (setC (limg pv vt va s tn) j v')) (f04 : Fr (fun q => q = b) w W4 (fun q => q = b)) (o4 : OwnI W4 (w.heap.size + 2) fv (zs i.2.2.2)) (hz4 : w.heap.size + 2 ≤ W4.heap.size) (o5 : w5.ownsRow B 49 4 v9 (H.length + 1) (flatP H ++ [.int .i64 (i.1 : Nat), .int .i64 (i.2.1 : Nat), .int .i64 (i.2.2.1 : Nat), fv])) (hv9 : ∃ a c, v9 = .slice a (H.length + 1) c) (f5 : Fr (own vh) (W4.alloc ob).drew w5 (own v9)) (u0 u1 u2 u3 : Value) :
    LPostS (SQR B) B S w b pv vt va A tn sq { s with heard := wrap64 (s.heard + 1) } x' (((((w5.setCell ⟨b, 9, none⟩ v9).setCell ⟨w.heap.size, 0, none⟩ u0).setCell ⟨w.heap.size, 1, none⟩ u1).setCell ⟨w.heap.size, 2, none⟩ u2).setCell ⟨w.heap.size, 3, none⟩ u3) ∧
      IntsIn (((((w5.setCell ⟨b, 9, none⟩ v9).setCell ⟨w.heap.size, 0, none⟩ u0).setCell ⟨w.heap.size, 1, none⟩ u1).setCell ⟨w.heap.size, 2, none⟩ u2).setCell ⟨w.heap.size, 3, none⟩ u3) fv (zs i.2.2.2) (fun q => q < (((((w5.setCell ⟨b, 9, none⟩ v9).setCell ⟨w.heap.size, 0, none⟩ u0).setCell ⟨w.heap.size, 1, none⟩ u1).setCell ⟨w.heap.size, 2, none⟩ u2).setCell ⟨w.heap.size, 3, none⟩ u3).heap.size) := by
  have hb := h.blt
  have hBw := h.below
  have hbB := (h.bound b h.inB).1
  have hbT : ¬ T b := fun e => (h.inT b e).2 rfl
  have hTl : ∀ q, T q → B ≤ q ∧ q < w.heap.size := fun q hq => h.bound q (h.inT q hq).1
  generalize hW : ((((w5.setCell ⟨b, 9, none⟩ v9).setCell ⟨w.heap.size, 0, none⟩ u0).setCell ⟨w.heap.size, 1, none⟩ u1).setCell ⟨w.heap.size, 2, none⟩ u2).setCell ⟨w.heap.size, 3, none⟩ u3 = W
  have hWz : W.heap.size = w5.heap.size := by subst hW; simp [World.setCell]
  have hz4a : (W4.alloc ob).drew.heap.size = W4.heap.size + 1 := by show (W4.alloc ob).heap.size = _; simp
  have hz5 : W4.heap.size + 1 ≤ w5.heap.size := by have h1 := f5.size; omega
  have keep5 : ∀ q, q ≠ b → q ≠ w.heap.size → W.heap[q]? = w5.heap[q]? := fun q h1 h2 => by
    subst hW
    exact (Below.heap_setCell _ _ _ _ h2).trans ((Below.heap_setCell _ _ _ _ h2).trans ((Below.heap_setCell _ _ _ _ h2).trans ((Below.heap_setCell _ _ _ _ h2).trans (Below.heap_setCell _ _ _ _ h1))))
  have keep45 : ∀ q, q < W4.heap.size → ¬ own vh q → w5.heap[q]? = W4.heap[q]? := fun q h1 h2 => (f5.same q (by show q < (W4.alloc ob).heap.size; simp; omega) h2).trans (Below.heap_alloc W4 ob q h1)
  have keepw : ∀ q, q < w.heap.size → q ≠ b → ¬ own vh q → W.heap[q]? = w.heap[q]? := fun q h1 h2 h3 => (keep5 q h2 (by omega)).trans ((keep45 q (by omega) h3).trans (f04.same q h1 h2))
  have hvb : ¬ own vh b := fun e => hbT (hown b e)
  have hvl : ∀ q, own vh q → q < w.heap.size := fun q e => (World.ownsRow.lt hrow q e).2
  have hv9o : ∀ q, own v9 q → own vh q ∨ W4.heap.size ≤ q := fun q hq => by
    by_cases hl : q < W4.heap.size
    · exact .inl (f5.old q (by show q < (W4.alloc ob).heap.size; simp; omega) hq)
    · exact .inr (by omega)
  have hfv : ∀ q, own fv q → w.heap.size + 2 ≤ q ∧ q < W4.heap.size := fun q hq => World.ownsRow.lt o4 q hq
  have hcells : LAt W b (limg (setC (setC pv j v') 9 v9) vt va { s with heard := wrap64 (s.heard + 1) } tn) := by
    have e5 : LAt w5 b (setC (limg pv vt va s tn) j v') := c4.block (keep45 b (by omega) hvb)
    have e6 := e5.set 9 v9 (by omega)
    have e7 : LAt W b (setC (setC (limg pv vt va s tn) j v') 9 v9) := by
      subst hW
      exact (((e6.other (show ¬ b = w.heap.size by omega)).other (show ¬ b = w.heap.size by omega)).other (show ¬ b = w.heap.size by omega)).other (show ¬ b = w.heap.size by omega)
    refine e7.congr (fun k _ => ?_)
    rw [limg_setpv (by omega)]
    unfold setC
    by_cases e9 : k = 9
    · rw [if_pos e9, if_pos e9]
    · rw [if_neg e9, if_neg e9]
      have := limg_setpv (pv := pv) (vt := vt) (va := va) (s := { s with heard := wrap64 (s.heard + 1) }) (tn := tn) (j := j) (v := v') (by omega) k
      unfold setC at this
      rw [this]
      rfl
  have hrow' : W.ownsRow B 49 4 v9 (H ++ [(i, fv)]).length (flatP (H ++ [(i, fv)])) := by
    rw [List.length_append, flatP_append]
    refine ownsRow_of_block o5 (fun q hq => keep5 q (fun e => ?_) (fun e => ?_))
    · rcases hv9o q hq with h1 | h1
      · exact hvb (e ▸ h1)
      · omega
    · rcases hv9o q hq with h1 | h1
      · have := hvl q h1; omega
      · omega
  have hT' : ∀ q, (own v9 q ∨ (T q ∧ ¬ own vh q) ∨ own fv q) → q < W.heap.size ∧ q ≠ b := fun q hq => by
    rw [hWz]
    rcases hq with h1 | ⟨h1, _⟩ | h1
    · refine ⟨(World.ownsRow.lt o5 q h1).2, fun e => ?_⟩
      rcases hv9o q h1 with h2 | h2
      · exact hvb (e ▸ h2)
      · omega
    · have := hTl q h1
      exact ⟨by omega, fun e => hbT (e ▸ h1)⟩
    · have := hfv q h1
      exact ⟨by omega, by omega⟩
  have hf : Fr (fun q => q = b ∨ T q) w W (fun q => q = b ∨ (own v9 q ∨ (T q ∧ ¬ own vh q) ∨ own fv q)) := by
    have g1 : W.os = w.os ∧ W.tape = w.tape ∧ W.output = w.output := by
      have g0 := (((((Fr.refl (fun _ => True) w5).setCell ⟨b, 9, none⟩ v9 (.inl trivial)).setCell ⟨w.heap.size, 0, none⟩ u0 (.inl trivial)).setCell ⟨w.heap.size, 1, none⟩ u1 (.inl trivial)).setCell ⟨w.heap.size, 2, none⟩ u2 (.inl trivial)).setCell ⟨w.heap.size, 3, none⟩ u3 (.inl trivial)
      rw [hW] at g0
      exact ⟨g0.os.trans (f5.os.trans f04.os), g0.tape.trans (f5.tape.trans f04.tape), g0.output.trans (f5.output.trans f04.output)⟩
    refine ⟨g1.1, g1.2.1, g1.2.2, by rw [hWz]; omega, fun k hk hn => keepw k hk (fun e => hn (.inl e)) (fun e => hn (.inr (hown k e))), fun k hk hq => ?_⟩
    rcases hq with h1 | h1 | ⟨h1, _⟩ | h1
    · exact .inl h1
    · rcases hv9o k h1 with h2 | h2
      · exact .inr (hown k h2)
      · omega
    · exact .inr h1
    · have := hfv k h1; omega
  have hbelow : ∀ q, q < B → W.heap[q]? = w.heap[q]? := fun q hq => keepw q (by omega) (by omega) (fun e => by have := (World.ownsRow.lt hrow q e).1; omega)
  have hpv : ∀ k, k ≠ 9 → setC (setC pv j v') 9 v9 k = setC pv j v' k := fun k hk => by show (if k = 9 then v9 else setC pv j v' k) = _; rw [if_neg hk]
  have h9 : setC (setC pv j v') 9 v9 9 = v9 := by show (if 9 = 9 then v9 else setC pv j v' 9) = v9; rw [if_pos rfl]
  have hnew : IntsIn W fv (zs i.2.2.2) (fun q => (own v9 q ∨ (T q ∧ ¬ own vh q) ∨ own fv q) ∧ ¬ own v9 q) := by
    obtain ⟨a1, c1, e1, hc1⟩ := ownI_ints o4
    refine ⟨a1, c1, e1, hc1.imp id ?_⟩
    rintro ⟨q, off, e2, hq, hcc⟩
    have hoq : own fv q := by rw [e1, e2]; rfl
    have hg := hfv q hoq
    have hnv : ¬ own v9 q := fun e => by
      rcases hv9o q e with h1 | h1
      · have := hvl q h1; omega
      · omega
    exact ⟨q, off, e2, ⟨.inr (.inr hoq), hnv⟩, fun k hk => (World.cell?_of_block (w := W4) (a := ⟨q, off + k, none⟩) ((keep5 q (by omega) (by omega)).trans (keep45 q hg.2 (fun e => by have := hvl q e; omega)))).trans (hcc k hk)⟩
  have hsrc : SQR B (setC (setC pv j v') 9 v9) (fun q => own v9 q ∨ (T q ∧ ¬ own vh q) ∨ own fv q) W x' := by
    refine ⟨?_, by rw [hpv 3 (by omega)]; exact hsc.keep hbelow, by rw [hpv 4 (by omega)]; exact hsb.keep hbelow, by rw [hpv 5 (by omega)]; exact hsp.keep hbelow, by rw [hpv 6 (by omega)]; exact hsl.keep hbelow, hbl, H ++ [(i, fv)], ?_, ?_, ?_, ?_, ?_, ?_⟩
    · rw [hpv 7 (by omega)]
      show (if 7 = j then v' else pv 7) = _
      rw [if_neg (by omega)]
      exact h.src.rep
    · rw [h9]; exact hrow'
    · rw [h9]; exact fun q hq => .inl hq
    · intro y hy
      rw [h9]
      rcases List.mem_append.1 hy with hy | hy
      · refine intsIn_kept (hfl y hy) (fun q hq => keepw q (hTl q hq.1).2 (fun e => hbT (e ▸ hq.1)) hq.2) (fun q hq => ⟨.inr (.inl hq), fun e => ?_⟩)
        rcases hv9o q e with h1 | h1
        · exact hq.2 h1
        · have := (hTl q hq.1).2; omega
      · rw [List.mem_singleton] at hy
        subst hy
        exact hnew
    · rw [heardS_snoc]; exact hlog
    · intro y hy
      rcases List.mem_append.1 hy with hy | hy
      · exact hfits y hy
      · rw [List.mem_singleton] at hy; subst hy; exact hfit
    · rw [List.length_append]; simp only [List.length_cons, List.length_nil]; omega
  obtain ⟨a9, c9, e9⟩ := hv9
  have hreb := h.rebuild (s' := { s with heard := wrap64 (s.heard + 1) }) hf hcells hsrc hT' rfl (h.rel.of rfl rfl) ⟨a9, H.length + 1, c9, by rw [h9]; exact e9, by show _ = wrap64 (s.heard + 1); rw [← hnh]; unfold wrap64; omega⟩
  refine ⟨⟨_, _, _, hreb.1, fun k hk => ?_, hreb.2⟩, ?_⟩
  · rw [hpv k (by omega)]
    show (if k = j then v' else pv k) = _
    rw [if_neg (by omega)]
  · obtain ⟨a1, c1, e1, hc1⟩ := hnew
    exact ⟨a1, c1, e1, hc1.imp id fun ⟨q, off, e2, hq, hcc⟩ => ⟨q, off, e2, (hT' q hq.1).1, hcc⟩⟩
set_option maxHeartbeats 4000000 in
set_option maxRecDepth 20000 in
/-- A question that the world answers. -/
theorem hearR_ok (h : LQ (SQR B) B S w b pv vt va T s A tn sq x) (i : Inp) (hfit : Fit i) (j : Nat) (hj3 : 3 ≤ j) (hj7 : j < 7) (v' : Value) (x' : RS) (hlog : x'.log = x.log ++ frameS (inpS i)) (hleft : x'.left + 1 = x.left)
    (hsc : IntsC w (setC pv j v' 3) x'.clocks (fun q => q < B)) (hsb : BatsC w (setC pv j v' 4) (x'.batches.map (·.2)) (fun q => q < B)) (hsp : IntsC w (setC pv j v' 5) x'.picks (fun q => q < B)) (hsl : IntsC w (setC pv j v' 6) x'.lots (fun q => q < B)) (hbl : ∀ y, y ∈ x'.batches → y.2.length ≤ 100000000) {k o n : Int} {fl : List Int} (ek : ((i.1 : Nat) : Int) = k) (eo : ((i.2.1 : Nat) : Int) = o) (en : ((i.2.2.1 : Nat) : Int) = n) (ef : zs i.2.2.2 = fl)
    (hcall : Calls Tryz.prog 146 #[.pointer (some ⟨b, 0, none⟩), .int .i64 k, .int .i64 o] ((w.alloc (.cells #[.int .i64 0, .int .i64 0, .int .i64 0, .slice none 0 0] 49)).alloc (.cells #[.int .i64 0, .int .i64 0, .int .i64 0, .slice none 0 0] 49)) (WAns ((w.alloc (.cells #[.int .i64 0, .int .i64 0, .int .i64 0, .slice none 0 0] 49)).alloc (.cells #[.int .i64 0, .int .i64 0, .int .i64 0, .slice none 0 0] 49)) b (limg pv vt va s tn) k o n fl j v')) :
    Calls Tryz.prog 141 #[.pointer (some ⟨b, 0, none⟩), .int .i64 k, .int .i64 o] w fun e w' => ∃ fa fc, e = .returned (.agg #[.int .i64 k, .int .i64 o, .int .i64 n, .slice fa fl.length fc]) ∧ LPostS (SQR B) B S w b pv vt va A tn sq { s with heard := wrap64 (s.heard + 1) } x' w' ∧ IntsIn w' (.slice fa fl.length fc) fl (fun q => q < w'.heap.size) := by
  subst ek eo en ef
  have hb := h.blt
  have k7 := (h.cell 7 (by omega)).trans (by rw [limg_pv _ _ _ _ _ _ (by omega), h.src.rep])
  have f0 : Fr (fun _ => False) w ((w.alloc (.cells #[.int .i64 0, .int .i64 0, .int .i64 0, .slice none 0 0] 49)).alloc (.cells #[.int .i64 0, .int .i64 0, .int .i64 0, .slice none 0 0] 49)) (fun _ => False) := ((Fr.refl _ _).alloc _).alloc _
  have HC := hide hcall
  have hB6 : B ≤ w.heap.size := h.below
  obtain ⟨hB, hbB⟩ := h.bound b h.inB
  obtain ⟨H, hrow, hown, hfl, hlogH, hfits, hcnt⟩ := h.src.hd
  obtain ⟨ha, hn, hcp, hp9, hnh⟩ := h.hc
  have hHn : H.length = hn := by
    obtain ⟨a1, c1, e1⟩ := row_shape hrow
    rw [hp9] at e1
    injection e1 with _ e1
    exact e1.symm
  subst hHn
  rw [hp9] at hrow hown hfl
  have HH := hide h
  have HSC := hide hsc
  have HSB := hide hsb
  have HSP := hide hsp
  have HSL := hide hsl
  have HBL := hide hbl
  have HFL := hide hfl
  have HOWN := hide hown
  have HROW := hide hrow
  have HFITS := hide hfits
  have HLOG := hide (hlog.trans (by rw [hlogH]))
  have HFIT := hide hfit
  have HCNT := hide hcnt
  clear h hcall hsc hsb hsp hsl hbl hfl hown hrow hfits hlog hlogH hfit
  go_enter Tryz.func141, Tryz.ntmps141
  go_wp2_with fail
  go_at_call 146
  refine (unhide HC).mono ?_
  rintro e w3 ⟨fv, rfl, hc3, f3, o3⟩
  obtain ⟨fa, fc, hfv⟩ := ownI_slice o3
  subst hfv
  have hz3 : w.heap.size + 2 ≤ w3.heap.size := by have := f3.size; simp at this; omega
  have hbz : ¬ w.heap.size = b := by omega
  have hbz1 : ¬ w.heap.size + 1 = b := by omega
  have x6 : w3.heap[w.heap.size]? = some (.cells #[.int .i64 0, .int .i64 0, .int .i64 0, .slice none 0 0] 49) := (f3.same _ (by simp; omega) hbz).trans ((Below.heap_alloc _ _ _ (by simp)).trans (heap_alloc_new _ _))
  have x7 : w3.heap[w.heap.size + 1]? = some (.cells #[.int .i64 0, .int .i64 0, .int .i64 0, .slice none 0 0] 49) := (f3.same _ (by simp) hbz1).trans (by
    have h := heap_alloc_new (w.alloc (.cells #[.int .i64 0, .int .i64 0, .int .i64 0, .slice none 0 0] 49)) (.cells #[.int .i64 0, .int .i64 0, .int .i64 0, .slice none 0 0] 49)
    rwa [show (w.alloc (.cells #[.int .i64 0, .int .i64 0, .int .i64 0, .slice none 0 0] 49)).heap.size = w.heap.size + 1 by simp] at h)
  have f03 := (f0.widen (T := fun q => q = b) (fun q h => h.elim)).trans f3
  have k6 := fun j => cell_of_row w3 _ j _ 49 (0, 0) x6
  have t6 := fun j => frozen_rowE x6 j
  have k8 := fun j => cell_of_row w3 _ j _ 49 (0, 0) x7
  have t8 := fun j => frozen_rowE x7 j
  have l6 := (Array.getElem?_eq_some_iff.1 x6).1
  have l8 := (Array.getElem?_eq_some_iff.1 x7).1
  have hb3 : b < w3.heap.size := by omega
  have n1 : ¬ b = w.heap.size := by omega
  have n3 : ¬ b = w.heap.size + 1 := by omega
  have n5 : ¬ w3.heap.size = b := by omega
  have n6 : ¬ w3.heap.size = w.heap.size := by omega
  have n7 : ¬ w3.heap.size = w.heap.size + 1 := by omega
  have n8 : ¬ b = w3.heap.size := by omega
  have n9 : ¬ w.heap.size = w3.heap.size := by omega
  have n10 : ¬ w.heap.size + 1 = w3.heap.size := by omega
  have C3 := hide hc3
  have F03 := hide f03
  have O3 := hide o3
  have X6 := hide x6
  clear f03 f3 f0 HC k7 hc3 o3
  go_wp2
  have zW : (((w3.setCell ⟨w.heap.size + 1, 0, none⟩ (.int .i64 (i.1 : Nat))).setCell ⟨w.heap.size + 1, 1, none⟩ (.int .i64 (i.2.1 : Nat))).setCell ⟨w.heap.size + 1, 2, none⟩ (.int .i64 (i.2.2.1 : Nat))).heap.size = w3.heap.size := by simp [World.setCell]
  have zW' : ((((w3.setCell ⟨w.heap.size + 1, 0, none⟩ (.int .i64 (i.1 : Nat))).setCell ⟨w.heap.size + 1, 1, none⟩ (.int .i64 (i.2.1 : Nat))).setCell ⟨w.heap.size + 1, 2, none⟩ (.int .i64 (i.2.2.1 : Nat))).setCell ⟨w.heap.size + 1, 3, none⟩ (.slice fa (zs i.2.2.2).length fc)).heap.size = w3.heap.size := by simp [World.setCell]
  have y7 : (((((w3.setCell ⟨w.heap.size + 1, 0, none⟩ (.int .i64 (i.1 : Nat))).setCell ⟨w.heap.size + 1, 1, none⟩ (.int .i64 (i.2.1 : Nat))).setCell ⟨w.heap.size + 1, 2, none⟩ (.int .i64 (i.2.2.1 : Nat))).setCell ⟨w.heap.size + 1, 3, none⟩ (.slice fa (zs i.2.2.2).length fc)).alloc (.cells #[.int .i64 (i.1 : Nat), .int .i64 (i.2.1 : Nat), .int .i64 (i.2.2.1 : Nat), .slice fa (zs i.2.2.2).length fc] 49)).heap[w.heap.size + 1]? = some (.cells #[.int .i64 (i.1 : Nat), .int .i64 (i.2.1 : Nat), .int .i64 (i.2.2.1 : Nat), .slice fa (zs i.2.2.2).length fc] 49) := (Below.heap_alloc _ _ _ (by rw [zW']; exact l8)).trans (setCell_row _ _ 3 _ 49 _ (setCell_row _ _ 2 _ 49 _ (setCell_row _ _ 1 _ 49 _ (setCell_row _ _ 0 _ 49 _ x7))))
  have keep4 : ∀ q, q < w3.heap.size → q ≠ w.heap.size + 1 → (((((w3.setCell ⟨w.heap.size + 1, 0, none⟩ (.int .i64 (i.1 : Nat))).setCell ⟨w.heap.size + 1, 1, none⟩ (.int .i64 (i.2.1 : Nat))).setCell ⟨w.heap.size + 1, 2, none⟩ (.int .i64 (i.2.2.1 : Nat))).setCell ⟨w.heap.size + 1, 3, none⟩ (.slice fa (zs i.2.2.2).length fc)).alloc (.cells #[.int .i64 (i.1 : Nat), .int .i64 (i.2.1 : Nat), .int .i64 (i.2.2.1 : Nat), .slice fa (zs i.2.2.2).length fc] 49)).heap[q]? = w3.heap[q]? := fun q hq hne => (Below.heap_alloc _ _ _ (by rw [zW']; exact hq)).trans ((Below.heap_setCell _ _ _ _ hne).trans ((Below.heap_setCell _ _ _ _ hne).trans ((Below.heap_setCell _ _ _ _ hne).trans (Below.heap_setCell _ _ _ _ hne))))
  have y6 := (keep4 w.heap.size l6 (by omega)).trans x6
  have cells4 : LAt (((((w3.setCell ⟨w.heap.size + 1, 0, none⟩ (.int .i64 (i.1 : Nat))).setCell ⟨w.heap.size + 1, 1, none⟩ (.int .i64 (i.2.1 : Nat))).setCell ⟨w.heap.size + 1, 2, none⟩ (.int .i64 (i.2.2.1 : Nat))).setCell ⟨w.heap.size + 1, 3, none⟩ (.slice fa (zs i.2.2.2).length fc)).alloc (.cells #[.int .i64 (i.1 : Nat), .int .i64 (i.2.1 : Nat), .int .i64 (i.2.2.1 : Nat), .slice fa (zs i.2.2.2).length fc] 49)) b (setC (limg pv vt va s tn) j v') := (unhide C3).block (keep4 b hb3 n3)
  have f04 : Fr (fun q => q = b) w (((((w3.setCell ⟨w.heap.size + 1, 0, none⟩ (.int .i64 (i.1 : Nat))).setCell ⟨w.heap.size + 1, 1, none⟩ (.int .i64 (i.2.1 : Nat))).setCell ⟨w.heap.size + 1, 2, none⟩ (.int .i64 (i.2.2.1 : Nat))).setCell ⟨w.heap.size + 1, 3, none⟩ (.slice fa (zs i.2.2.2).length fc)).alloc (.cells #[.int .i64 (i.1 : Nat), .int .i64 (i.2.1 : Nat), .int .i64 (i.2.2.1 : Nat), .slice fa (zs i.2.2.2).length fc] 49)) (fun q => q = b) := (((((unhide F03).setCell ⟨w.heap.size + 1, 0, none⟩ _ (.inr (by show w.heap.size ≤ w.heap.size + 1; omega))).setCell ⟨w.heap.size + 1, 1, none⟩ _ (.inr (by show w.heap.size ≤ w.heap.size + 1; omega))).setCell ⟨w.heap.size + 1, 2, none⟩ _ (.inr (by show w.heap.size ≤ w.heap.size + 1; omega))).setCell ⟨w.heap.size + 1, 3, none⟩ _ (.inr (by show w.heap.size ≤ w.heap.size + 1; omega))).alloc _
  have hge2 : ∀ q, own (.slice fa (zs i.2.2.2).length fc) q → w.heap.size + 2 ≤ q := fun q hq => by have := (World.ownsRow.lt (unhide O3) q hq).1; simpa using this
  have o4 : OwnI (((((w3.setCell ⟨w.heap.size + 1, 0, none⟩ (.int .i64 (i.1 : Nat))).setCell ⟨w.heap.size + 1, 1, none⟩ (.int .i64 (i.2.1 : Nat))).setCell ⟨w.heap.size + 1, 2, none⟩ (.int .i64 (i.2.2.1 : Nat))).setCell ⟨w.heap.size + 1, 3, none⟩ (.slice fa (zs i.2.2.2).length fc)).alloc (.cells #[.int .i64 (i.1 : Nat), .int .i64 (i.2.1 : Nat), .int .i64 (i.2.2.1 : Nat), .slice fa (zs i.2.2.2).length fc] 49)) (w.heap.size + 2) (.slice fa (zs i.2.2.2).length fc) (zs i.2.2.2) := by
    have h1 : OwnI w3 (w.heap.size + 2) (.slice fa (zs i.2.2.2).length fc) (zs i.2.2.2) := by have := unhide O3; simpa using this
    exact ownsRow_of_block h1 (fun q hq => keep4 q (World.ownsRow.lt h1 q hq).2 (by have := hge2 q hq; omega))
  have hz4 : w.heap.size + 2 ≤ (((((w3.setCell ⟨w.heap.size + 1, 0, none⟩ (.int .i64 (i.1 : Nat))).setCell ⟨w.heap.size + 1, 1, none⟩ (.int .i64 (i.2.1 : Nat))).setCell ⟨w.heap.size + 1, 2, none⟩ (.int .i64 (i.2.2.1 : Nat))).setCell ⟨w.heap.size + 1, 3, none⟩ (.slice fa (zs i.2.2.2).length fc)).alloc (.cells #[.int .i64 (i.1 : Nat), .int .i64 (i.2.1 : Nat), .int .i64 (i.2.2.1 : Nat), .slice fa (zs i.2.2.2).length fc] 49)).heap.size := by have := f04.size; simp [World.setCell]; omega
  clear keep4 zW zW' C3 F03 O3 X6 k6 t6 k8 t8 x6 x7 l6 l8
  generalize hW4 : ((((w3.setCell ⟨w.heap.size + 1, 0, none⟩ (.int .i64 (i.1 : Nat))).setCell ⟨w.heap.size + 1, 1, none⟩ (.int .i64 (i.2.1 : Nat))).setCell ⟨w.heap.size + 1, 2, none⟩ (.int .i64 (i.2.2.1 : Nat))).setCell ⟨w.heap.size + 1, 3, none⟩ (.slice fa (zs i.2.2.2).length fc)).alloc (.cells #[.int .i64 (i.1 : Nat), .int .i64 (i.2.1 : Nat), .int .i64 (i.2.2.1 : Nat), .slice fa (zs i.2.2.2).length fc] 49) = W4 at *
  clear hW4
  have hrow4 : W4.ownsRow B 49 4 (.slice ha H.length hcp) H.length (flatP H) := ownsRow_of_block (unhide HROW) (fun q hq => f04.same q (World.ownsRow.lt (unhide HROW) q hq).2 (fun e => ((unhide HH).inT q (unhide HOWN q hq)).2 e))
  have cb := fun i hi => (cells4 i hi).1
  have c9 := (cells4 9 (by omega)).1
  have e9 : setC (limg pv vt va s tn) j v' 9 = .slice ha H.length hcp := by unfold setC; rw [if_neg (by omega), limg_pv _ _ _ _ _ _ (by omega), hp9]
  rw [e9] at c9
  have z9 := (cells4 9 (by omega)).2
  have l6 := (Array.getElem?_eq_some_iff.1 y6).1
  have l7 := (Array.getElem?_eq_some_iff.1 y7).1
  have Y7 := hide y7
  have Y6 := hide y6
  have R4 := hide hrow4
  have C4 := hide cells4
  have F04 := hide f04
  have O4 := hide o4
  have HGE2 := hide hge2
  have hBW4 : B ≤ W4.heap.size := by omega
  have hb4 : b < W4.heap.size := by omega
  clear hrow4 cells4 f04 o4 y6 y7 e9 cb hge2
  have hq7 : ∀ o, (W4.alloc o).drew.heap[w.heap.size + 1]? = some (.cells #[.int .i64 (i.1 : Nat), .int .i64 (i.2.1 : Nat), .int .i64 (i.2.2.1 : Nat), .slice fa (zs i.2.2.2).length fc] 49) := fun o => (Below.heap_alloc W4 o _ l7).trans (unhide Y7)
  have cq9 : ∀ o, (W4.alloc o).drew.cell? ⟨b, 9, none⟩ = some (.slice ha H.length hcp) := fun o => (World.cell?_of_block (w := W4) (a := ⟨b, 9, none⟩) (Below.heap_alloc W4 o _ hb4)).trans c9
  refine wp_region_held_drew (S := fun w' => w'.heap[w.heap.size + 1]? = some (.cells #[.int .i64 (i.1 : Nat), .int .i64 (i.2.1 : Nat), .int .i64 (i.2.2.1 : Nat), .slice fa (zs i.2.2.2).length fc] 49)) (by kernel_rfl) ?_ (fun hHeld => ?_)
  · exact unhide Y7
  refine wpAnyH_take (i := 0) (oi := { dst := some 87, op := Op.move (Operand.tmp 0), type := 177, pos := "run.go:167", after := #[], guard := none }) (v := ?_) rfl (by kernel_rfl) (by kernel_rfl) (by kernel_rfl) (fun _ _ _ h => h) (Or.inl ⟨by rfl, ?_⟩) (by assumption) ?_
  rotate_left
  · intro w hSw; have c7 := fun j => cell_of_row w _ j _ 49 (0, 0) hSw; go_simp; try with_reducible rfl
  simp only [Act.put, List.setIfInBounds_toArray, List.set_cons_zero, List.set_cons_succ]
  refine wpAnyH_take (i := 1) (oi := { dst := some 88, op := Op.move (Operand.tmp 0), type := 177, pos := "run.go:167", after := #[], guard := none }) (v := ?_) rfl (by kernel_rfl) (by kernel_rfl) (by kernel_rfl) (fun _ _ _ h => h) (Or.inl ⟨by rfl, ?_⟩) (by assumption) ?_
  rotate_left
  · intro w hSw; have c7 := fun j => cell_of_row w _ j _ 49 (0, 0) hSw; go_simp; try with_reducible rfl
  simp only [Act.put, List.setIfInBounds_toArray, List.set_cons_zero, List.set_cons_succ]
  refine wpAnyH_take (i := 2) (oi := { dst := some 89, op := Op.nilCheck (Operand.tmp 88), type := 0, pos := "run.go:167", after := #[{ on := 1, ground := Ground.data }], guard := none }) (v := ?_) rfl (by kernel_rfl) (by kernel_rfl) (by kernel_rfl) (fun _ _ _ h => h) (Or.inl ⟨by rfl, ?_⟩) (by assumption) ?_
  rotate_left
  · intro w hSw; have c7 := fun j => cell_of_row w _ j _ 49 (0, 0) hSw; go_simp; try with_reducible rfl
  simp only [Act.put, List.setIfInBounds_toArray, List.set_cons_zero, List.set_cons_succ]
  refine wpAnyH_take (i := 3) (oi := { dst := some 90, op := Op.fieldAddr 180 (Operand.tmp 89) 4, type := 0, pos := "run.go:167", after := #[{ on := 2, ground := Ground.data }], guard := none }) (v := ?_) rfl (by kernel_rfl) (by kernel_rfl) (by kernel_rfl) (fun _ _ _ h => h) (Or.inl ⟨by rfl, ?_⟩) (by assumption) ?_
  rotate_left
  · intro w hSw; have c7 := fun j => cell_of_row w _ j _ 49 (0, 0) hSw; go_simp; try with_reducible rfl
  simp only [Act.put, List.setIfInBounds_toArray, List.set_cons_zero, List.set_cons_succ]
  refine wpAnyH_take (i := 5) (oi := { dst := some 92, op := Op.load 49 (Operand.tmp 7), type := 49, pos := "run.go:167", after := #[], guard := none }) (v := ?_) rfl (by kernel_rfl) (by kernel_rfl) (by kernel_rfl) (fun _ _ _ h => h) (Or.inl ⟨by rfl, ?_⟩) (by assumption) ?_
  rotate_left
  · intro w hSw; have c7 := fun j => cell_of_row w _ j _ 49 (0, 0) hSw; go_simp; try with_reducible rfl
  simp only [Act.put, List.setIfInBounds_toArray, List.set_cons_zero, List.set_cons_succ]
  refine wpAnyH_ready (rs := [4, 6]) (by kernel_rfl) (by simp) ?_
  refine AllReadyH.cons (o := { dst := some 91, op := Op.load 44 (Operand.tmp 90), type := 44, pos := "run.go:167", after := #[{ on := 3, ground := Ground.data }], guard := none }) rfl (fun K' hK' => ?_) (AllReadyH.cons (o := { dst := some 93, op := Op.buildSlice 44 1 #[(0, Operand.tmp 92)], type := 44, pos := "run.go:167", after := #[{ on := 5, ground := Ground.data }], guard := none }) rfl (fun K' hK' => ?_) AllReadyH.nil)
  · go_simp
    refine hK'.out _ _ ?_ (fun hHeld => ?_)
    · exact unhide Y7
    clear hK' K'
    try simp only [Act.put, List.setIfInBounds_toArray, List.set_cons_zero, List.set_cons_succ]
    refine wpAnyH_ready (rs := [6]) (by kernel_rfl) (by simp) ?_
    refine AllReadyH.cons (o := { dst := some 93, op := Op.buildSlice 44 1 #[(0, Operand.tmp 92)], type := 44, pos := "run.go:167", after := #[{ on := 5, ground := Ground.data }], guard := none }) rfl (fun K' hK' => ?_) AllReadyH.nil
    go_simp
    refine hK'.out _ _ ?_ (fun hHeld => ?_)
    · exact hq7 _
    clear hK' K'
    try simp only [Act.put, List.setIfInBounds_toArray, List.set_cons_zero, List.set_cons_succ]
    refine wpAnyH_ready (rs := [7]) (by kernel_rfl) (by simp) ?_
    refine AllReadyH.cons (o := { dst := some 94, op := Op.call { callee := Callee.builtin Builtin.append, args := #[Operand.tmp 91, Operand.tmp 93], argTypes := #[44, 44] }, type := 44, pos := "run.go:167", after := #[{ on := 4, ground := Ground.data }, { on := 6, ground := Ground.data }], guard := none }) rfl (fun K' hK' => ?_) AllReadyH.nil
    refine step_grown (d := 94) rfl elemIn (by decide) (by decide) (v := .slice ha H.length hcp) (n := H.length) (m := 1) (xs := flatP H) (news := [.int .i64 (i.1 : Nat), .int .i64 (i.2.1 : Nat), .int .i64 (i.2.2.1 : Nat), .slice fa (zs i.2.2.2).length fc]) (B := B) (ad := ⟨W4.heap.size, 0, none⟩) (cap := 1) rfl (.tmp 91) (.tmp 93) rfl rfl rfl (World.ownsRow.alloc (unhide R4) (.cells #[.int .i64 (i.1 : Nat), .int .i64 (i.2.1 : Nat), .int .i64 (i.2.2.1 : Nat), .slice fa (zs i.2.2.2).length fc] 49)) rfl (World.news_of_block (heap_alloc_new W4 _)) (by simp [Value.oneCell']) (by omega) (by omega) (by show B ≤ (W4.alloc _).heap.size; simp; omega) ?_
    intro v5 w5 o5 f5 sh5
    obtain ⟨av, cv, rfl⟩ := sh5
    have hb5 : w5.heap[b]? = W4.heap[b]? := (f5.same b (by show b < (W4.alloc _).heap.size; simp; omega) (fun e => ((unhide HH).inT b (unhide HOWN b e)).2 rfl)).trans (Below.heap_alloc W4 _ _ hb4)
    have p9 := (World.cell?_of_block (w := W4) (a := ⟨b, 9, none⟩) hb5).trans c9
    have pz9 := (World.frozen?_of_block (w := W4) (a := ⟨b, 9, none⟩) hb5).trans z9
    have nown : ∀ q, w.heap.size ≤ q → ¬ own (.slice ha H.length hcp) q := fun q hq e => by have := (World.ownsRow.lt (unhide HROW) q e).2; omega
    have g7 : w5.heap[w.heap.size + 1]? = some (.cells #[.int .i64 (i.1 : Nat), .int .i64 (i.2.1 : Nat), .int .i64 (i.2.2.1 : Nat), .slice fa (zs i.2.2.2).length fc] 49) := (f5.same _ (by show _ < (W4.alloc _).heap.size; simp; omega) (nown _ (by omega))).trans (hq7 _)
    have g6 : w5.heap[w.heap.size]? = _ := (f5.same _ (by show _ < (W4.alloc _).heap.size; simp; omega) (nown _ (Nat.le_refl _))).trans ((Below.heap_alloc W4 _ _ l6).trans (unhide Y6))
    have O5 := hide o5
    have F5 := hide f5
    have NOWN := hide nown
    have HB5 := hide hb5
    have G6 := hide g6
    have G7 := hide g7
    have k6 := fun j => cell_of_row w5 _ j _ 49 (0, 0) g6
    have t6 := fun j => frozen_rowE g6 j
    have k7 := fun j => cell_of_row w5 _ j _ 49 (0, 0) g7
    have l6' := (Array.getElem?_eq_some_iff.1 g6).1
    have l7' := (Array.getElem?_eq_some_iff.1 g7).1
    clear o5 f5 nown hb5
    refine hK'.out _ _ g7 (fun hHeld => ?_)
    clear hK' K'
    simp only [List.setIfInBounds_toArray, List.set_cons_zero, List.set_cons_succ]
    refine wpAnyH_take (i := 8) (oi := { dst := some 95, op := Op.nilCheck (Operand.tmp 87), type := 0, pos := "run.go:167", after := #[{ on := 0, ground := Ground.data }, { on := 0, ground := Ground.phase }, { on := 1, ground := Ground.phase }, { on := 2, ground := Ground.phase }, { on := 3, ground := Ground.phase }, { on := 4, ground := Ground.phase }, { on := 5, ground := Ground.phase }, { on := 6, ground := Ground.phase }, { on := 7, ground := Ground.phase }], guard := none }) (v := ?_) rfl (by kernel_rfl) (by kernel_rfl) (by kernel_rfl) (fun _ _ _ h => h) (Or.inl ⟨by rfl, ?_⟩) (by assumption) ?_
    rotate_left
    · intro w hSw; have c7 := fun j => cell_of_row w _ j _ 49 (0, 0) hSw; go_simp; try with_reducible rfl
    simp only [Act.put, List.setIfInBounds_toArray, List.set_cons_zero, List.set_cons_succ]
    refine wpAnyH_take (i := 9) (oi := { dst := some 96, op := Op.fieldAddr 180 (Operand.tmp 95) 4, type := 0, pos := "run.go:167", after := #[{ on := 8, ground := Ground.data }, { on := 0, ground := Ground.phase }, { on := 1, ground := Ground.phase }, { on := 2, ground := Ground.phase }, { on := 3, ground := Ground.phase }, { on := 4, ground := Ground.phase }, { on := 5, ground := Ground.phase }, { on := 6, ground := Ground.phase }, { on := 7, ground := Ground.phase }], guard := none }) (v := ?_) rfl (by kernel_rfl) (by kernel_rfl) (by kernel_rfl) (fun _ _ _ h => h) (Or.inl ⟨by rfl, ?_⟩) (by assumption) ?_
    rotate_left
    · intro w hSw; have c7 := fun j => cell_of_row w _ j _ 49 (0, 0) hSw; go_simp; try with_reducible rfl
    simp only [Act.put, List.setIfInBounds_toArray, List.set_cons_zero, List.set_cons_succ]
    refine wpAnyH_ready (rs := [10]) (by kernel_rfl) (by simp) ?_
    refine AllReadyH.cons (o := { dst := none, op := Op.store 44 (Operand.tmp 96) (Operand.tmp 94), type := 0, pos := "run.go:167", after := #[{ on := 9, ground := Ground.data }, { on := 7, ground := Ground.data }, { on := 7, ground := Ground.chain }, { on := 0, ground := Ground.phase }, { on := 1, ground := Ground.phase }, { on := 2, ground := Ground.phase }, { on := 3, ground := Ground.phase }, { on := 4, ground := Ground.phase }, { on := 5, ground := Ground.phase }, { on := 6, ground := Ground.phase }, { on := 7, ground := Ground.phase }], guard := none }) rfl (fun K' hK' => ?_) AllReadyH.nil
    go_simp
    refine hK'.out _ _ ?_ (fun hHeld => ?_)
    · exact (Below.heap_setCell _ _ _ _ hbz1).trans g7
    clear hK' K'
    try simp only [Act.put, List.setIfInBounds_toArray, List.set_cons_zero, List.set_cons_succ]
    refine wpAnyH_done (by kernel_rfl) ?_ _
    clear g6 g7
    go_wp2
    have y6 : (((((w5.setCell ⟨b, 9, none⟩ (.slice av (H.length + 1) cv)).setCell ⟨w.heap.size, 0, none⟩ (.int .i64 (i.1 : Nat))).setCell ⟨w.heap.size, 1, none⟩ (.int .i64 (i.2.1 : Nat))).setCell ⟨w.heap.size, 2, none⟩ (.int .i64 (i.2.2.1 : Nat))).setCell ⟨w.heap.size, 3, none⟩ (.slice fa (zs i.2.2.2).length fc)).heap[w.heap.size]? = some (.cells #[.int .i64 (i.1 : Nat), .int .i64 (i.2.1 : Nat), .int .i64 (i.2.2.1 : Nat), .slice fa (zs i.2.2.2).length fc] 49) := setCell_row _ _ 3 _ 49 _ (setCell_row _ _ 2 _ 49 _ (setCell_row _ _ 1 _ 49 _ (setCell_row _ _ 0 _ 49 _ ((Below.heap_setCell _ _ _ _ hbz).trans (unhide G6)))))
    have ky := fun j => cell_of_row _ _ j _ 49 (0, 0) y6
    have hfin := hear_fin (ob := (.cells #[.int .i64 (i.1 : Nat), .int .i64 (i.2.1 : Nat), .int .i64 (i.2.2.1 : Nat), .slice fa (zs i.2.2.2).length fc] 49)) (unhide HH) (unhide HFIT) hj3 hj7 hleft (unhide HSC) (unhide HSB) (unhide HSP) (unhide HSL) (unhide HBL) (unhide HROW) (unhide HOWN) (unhide HFL) (unhide HLOG) (unhide HFITS) (unhide HCNT) hnh (unhide C4) (unhide F04) (unhide O4) hz4 (unhide O5) ⟨av, cv, rfl⟩ (unhide F5) (.int .i64 (i.1 : Nat)) (.int .i64 (i.2.1 : Nat)) (.int .i64 (i.2.2.1 : Nat)) (.slice fa (zs i.2.2.2).length fc)
    have HFIN := hide hfin
    clear hfin
    refine bodyPost_ret (v := .agg #[.int .i64 (i.1 : Nat), .int .i64 (i.2.1 : Nat), .int .i64 (i.2.2.1 : Nat), .slice fa (zs i.2.2.2).length fc]) (by simp [results, Tryz.results141, go_sem, ky]) rfl ?_
    exact ⟨fa, fc, rfl, (unhide HFIN).1, (unhide HFIN).2⟩
  · go_simp
    refine hK'.out _ _ ?_ (fun hHeld => ?_)
    · exact hq7 _
    clear hK' K'
    try simp only [Act.put, List.setIfInBounds_toArray, List.set_cons_zero, List.set_cons_succ]
    refine wpAnyH_ready (rs := [4]) (by kernel_rfl) (by simp) ?_
    refine AllReadyH.cons (o := { dst := some 91, op := Op.load 44 (Operand.tmp 90), type := 44, pos := "run.go:167", after := #[{ on := 3, ground := Ground.data }], guard := none }) rfl (fun K' hK' => ?_) AllReadyH.nil
    go_simp
    refine hK'.out _ _ ?_ (fun hHeld => ?_)
    · exact hq7 _
    clear hK' K'
    try simp only [Act.put, List.setIfInBounds_toArray, List.set_cons_zero, List.set_cons_succ]
    refine wpAnyH_ready (rs := [7]) (by kernel_rfl) (by simp) ?_
    refine AllReadyH.cons (o := { dst := some 94, op := Op.call { callee := Callee.builtin Builtin.append, args := #[Operand.tmp 91, Operand.tmp 93], argTypes := #[44, 44] }, type := 44, pos := "run.go:167", after := #[{ on := 4, ground := Ground.data }, { on := 6, ground := Ground.data }], guard := none }) rfl (fun K' hK' => ?_) AllReadyH.nil
    refine step_grown (d := 94) rfl elemIn (by decide) (by decide) (v := .slice ha H.length hcp) (n := H.length) (m := 1) (xs := flatP H) (news := [.int .i64 (i.1 : Nat), .int .i64 (i.2.1 : Nat), .int .i64 (i.2.2.1 : Nat), .slice fa (zs i.2.2.2).length fc]) (B := B) (ad := ⟨W4.heap.size, 0, none⟩) (cap := 1) rfl (.tmp 91) (.tmp 93) rfl rfl rfl (World.ownsRow.alloc (unhide R4) (.cells #[.int .i64 (i.1 : Nat), .int .i64 (i.2.1 : Nat), .int .i64 (i.2.2.1 : Nat), .slice fa (zs i.2.2.2).length fc] 49)) rfl (World.news_of_block (heap_alloc_new W4 _)) (by simp [Value.oneCell']) (by omega) (by omega) (by show B ≤ (W4.alloc _).heap.size; simp; omega) ?_
    intro v5 w5 o5 f5 sh5
    obtain ⟨av, cv, rfl⟩ := sh5
    have hb5 : w5.heap[b]? = W4.heap[b]? := (f5.same b (by show b < (W4.alloc _).heap.size; simp; omega) (fun e => ((unhide HH).inT b (unhide HOWN b e)).2 rfl)).trans (Below.heap_alloc W4 _ _ hb4)
    have p9 := (World.cell?_of_block (w := W4) (a := ⟨b, 9, none⟩) hb5).trans c9
    have pz9 := (World.frozen?_of_block (w := W4) (a := ⟨b, 9, none⟩) hb5).trans z9
    have nown : ∀ q, w.heap.size ≤ q → ¬ own (.slice ha H.length hcp) q := fun q hq e => by have := (World.ownsRow.lt (unhide HROW) q e).2; omega
    have g7 : w5.heap[w.heap.size + 1]? = some (.cells #[.int .i64 (i.1 : Nat), .int .i64 (i.2.1 : Nat), .int .i64 (i.2.2.1 : Nat), .slice fa (zs i.2.2.2).length fc] 49) := (f5.same _ (by show _ < (W4.alloc _).heap.size; simp; omega) (nown _ (by omega))).trans (hq7 _)
    have g6 : w5.heap[w.heap.size]? = _ := (f5.same _ (by show _ < (W4.alloc _).heap.size; simp; omega) (nown _ (Nat.le_refl _))).trans ((Below.heap_alloc W4 _ _ l6).trans (unhide Y6))
    have O5 := hide o5
    have F5 := hide f5
    have NOWN := hide nown
    have HB5 := hide hb5
    have G6 := hide g6
    have G7 := hide g7
    have k6 := fun j => cell_of_row w5 _ j _ 49 (0, 0) g6
    have t6 := fun j => frozen_rowE g6 j
    have k7 := fun j => cell_of_row w5 _ j _ 49 (0, 0) g7
    have l6' := (Array.getElem?_eq_some_iff.1 g6).1
    have l7' := (Array.getElem?_eq_some_iff.1 g7).1
    clear o5 f5 nown hb5
    refine hK'.out _ _ g7 (fun hHeld => ?_)
    clear hK' K'
    simp only [List.setIfInBounds_toArray, List.set_cons_zero, List.set_cons_succ]
    refine wpAnyH_take (i := 8) (oi := { dst := some 95, op := Op.nilCheck (Operand.tmp 87), type := 0, pos := "run.go:167", after := #[{ on := 0, ground := Ground.data }, { on := 0, ground := Ground.phase }, { on := 1, ground := Ground.phase }, { on := 2, ground := Ground.phase }, { on := 3, ground := Ground.phase }, { on := 4, ground := Ground.phase }, { on := 5, ground := Ground.phase }, { on := 6, ground := Ground.phase }, { on := 7, ground := Ground.phase }], guard := none }) (v := ?_) rfl (by kernel_rfl) (by kernel_rfl) (by kernel_rfl) (fun _ _ _ h => h) (Or.inl ⟨by rfl, ?_⟩) (by assumption) ?_
    rotate_left
    · intro w hSw; have c7 := fun j => cell_of_row w _ j _ 49 (0, 0) hSw; go_simp; try with_reducible rfl
    simp only [Act.put, List.setIfInBounds_toArray, List.set_cons_zero, List.set_cons_succ]
    refine wpAnyH_take (i := 9) (oi := { dst := some 96, op := Op.fieldAddr 180 (Operand.tmp 95) 4, type := 0, pos := "run.go:167", after := #[{ on := 8, ground := Ground.data }, { on := 0, ground := Ground.phase }, { on := 1, ground := Ground.phase }, { on := 2, ground := Ground.phase }, { on := 3, ground := Ground.phase }, { on := 4, ground := Ground.phase }, { on := 5, ground := Ground.phase }, { on := 6, ground := Ground.phase }, { on := 7, ground := Ground.phase }], guard := none }) (v := ?_) rfl (by kernel_rfl) (by kernel_rfl) (by kernel_rfl) (fun _ _ _ h => h) (Or.inl ⟨by rfl, ?_⟩) (by assumption) ?_
    rotate_left
    · intro w hSw; have c7 := fun j => cell_of_row w _ j _ 49 (0, 0) hSw; go_simp; try with_reducible rfl
    simp only [Act.put, List.setIfInBounds_toArray, List.set_cons_zero, List.set_cons_succ]
    refine wpAnyH_ready (rs := [10]) (by kernel_rfl) (by simp) ?_
    refine AllReadyH.cons (o := { dst := none, op := Op.store 44 (Operand.tmp 96) (Operand.tmp 94), type := 0, pos := "run.go:167", after := #[{ on := 9, ground := Ground.data }, { on := 7, ground := Ground.data }, { on := 7, ground := Ground.chain }, { on := 0, ground := Ground.phase }, { on := 1, ground := Ground.phase }, { on := 2, ground := Ground.phase }, { on := 3, ground := Ground.phase }, { on := 4, ground := Ground.phase }, { on := 5, ground := Ground.phase }, { on := 6, ground := Ground.phase }, { on := 7, ground := Ground.phase }], guard := none }) rfl (fun K' hK' => ?_) AllReadyH.nil
    go_simp
    refine hK'.out _ _ ?_ (fun hHeld => ?_)
    · exact (Below.heap_setCell _ _ _ _ hbz1).trans g7
    clear hK' K'
    try simp only [Act.put, List.setIfInBounds_toArray, List.set_cons_zero, List.set_cons_succ]
    refine wpAnyH_done (by kernel_rfl) ?_ _
    clear g6 g7
    go_wp2
    have y6 : (((((w5.setCell ⟨b, 9, none⟩ (.slice av (H.length + 1) cv)).setCell ⟨w.heap.size, 0, none⟩ (.int .i64 (i.1 : Nat))).setCell ⟨w.heap.size, 1, none⟩ (.int .i64 (i.2.1 : Nat))).setCell ⟨w.heap.size, 2, none⟩ (.int .i64 (i.2.2.1 : Nat))).setCell ⟨w.heap.size, 3, none⟩ (.slice fa (zs i.2.2.2).length fc)).heap[w.heap.size]? = some (.cells #[.int .i64 (i.1 : Nat), .int .i64 (i.2.1 : Nat), .int .i64 (i.2.2.1 : Nat), .slice fa (zs i.2.2.2).length fc] 49) := setCell_row _ _ 3 _ 49 _ (setCell_row _ _ 2 _ 49 _ (setCell_row _ _ 1 _ 49 _ (setCell_row _ _ 0 _ 49 _ ((Below.heap_setCell _ _ _ _ hbz).trans (unhide G6)))))
    have ky := fun j => cell_of_row _ _ j _ 49 (0, 0) y6
    have hfin := hear_fin (ob := (.cells #[.int .i64 (i.1 : Nat), .int .i64 (i.2.1 : Nat), .int .i64 (i.2.2.1 : Nat), .slice fa (zs i.2.2.2).length fc] 49)) (unhide HH) (unhide HFIT) hj3 hj7 hleft (unhide HSC) (unhide HSB) (unhide HSP) (unhide HSL) (unhide HBL) (unhide HROW) (unhide HOWN) (unhide HFL) (unhide HLOG) (unhide HFITS) (unhide HCNT) hnh (unhide C4) (unhide F04) (unhide O4) hz4 (unhide O5) ⟨av, cv, rfl⟩ (unhide F5) (.int .i64 (i.1 : Nat)) (.int .i64 (i.2.1 : Nat)) (.int .i64 (i.2.2.1 : Nat)) (.slice fa (zs i.2.2.2).length fc)
    have HFIN := hide hfin
    clear hfin
    refine bodyPost_ret (v := .agg #[.int .i64 (i.1 : Nat), .int .i64 (i.2.1 : Nat), .int .i64 (i.2.2.1 : Nat), .slice fa (zs i.2.2.2).length fc]) (by simp [results, Tryz.results141, go_sem, ky]) rfl ?_
    exact ⟨fa, fc, rfl, (unhide HFIN).1, (unhide HFIN).2⟩
end
end Go.Proofs.YtfmbebofllgmoaaGreatDoor
namespace Go.Proofs.YtfmbebofllgmoaaGreatDoor
open Go.RowKit

section
variable {B : Nat} {S T : Nat → Prop} {w : World} {b : Nat} {pv : Nat → Value} {vt va : Value} {s : PS} {A : List AT} {tn sq : Int} {x : RS}
/-- What a question's answer is. -/
def HAns (B : Nat) (S : Nat → Prop) (w : World) (b : Nat) (pv : Nat → Value) (vt va : Value) (A : List AT) (tn sq : Int) (s : PS) (R : Rep) (x' : RS) (e : Ending) (w' : World) : Prop :=
  ∃ kd of_ n fa fl fc, e = .returned (.agg #[.int .i64 kd, .int .i64 of_, .int .i64 n, .slice fa fl fc]) ∧ LPostS (SQR B) B S w b pv vt va A tn sq (hearS s R) x' w' ∧ (R.e = 0 → n = R.n ∧ IntsIn w' (.slice fa fl fc) R.files (fun q => q < w'.heap.size))
theorem rec_no (h : LQ (SQR B) B S w b pv vt va T s A tn sq x) (k o : Int) (a0 a1 a2 : Int)
    (hcall : ∀ W, Fr (fun _ => False) w W (fun _ => False) → Calls Tryz.prog 146 #[.pointer (some ⟨b, 0, none⟩), .int .i64 k, .int .i64 o] W fun e w' => e = .returned (.tuple #[.agg #[.int .i64 a0, .int .i64 a1, .int .i64 a2, .slice none 0 0], .bool false]) ∧ Fr (fun _ => False) W w' (fun _ => False)) :
    Calls Tryz.prog 141 #[.pointer (some ⟨b, 0, none⟩), .int .i64 k, .int .i64 o] w (HAns B S w b pv vt va A tn sq s noRep x) := by
  refine (hearR_no h k o a0 a1 a2 hcall).mono ?_
  rintro e w' ⟨rfl, hl⟩
  exact ⟨0, 0, 0, none, 0, 0, rfl, hl, fun h => absurd h (by decide)⟩
theorem rec_yes (h : LQ (SQR B) B S w b pv vt va T s A tn sq x) {k o : Int} {R : Rep} {x' : RS} (hR : (recAsk x k o) = (R, x')) (he : R.e = 0) (hm : mayR k o) (hlog : x'.log = x.log ++ frameS (inpS (inpOf R))) (j : Nat) (hj3 : 3 ≤ j) (hj7 : j < 7) (v' : Value)
    (hsc : IntsC w (setC pv j v' 3) x'.clocks (fun q => q < B)) (hsb : BatsC w (setC pv j v' 4) (x'.batches.map (·.2)) (fun q => q < B)) (hsp : IntsC w (setC pv j v' 5) x'.picks (fun q => q < B)) (hsl : IntsC w (setC pv j v' 6) x'.lots (fun q => q < B)) (hbl : ∀ y, y ∈ x'.batches → y.2.length ≤ 100000000)
    (hcall : Calls Tryz.prog 146 #[.pointer (some ⟨b, 0, none⟩), .int .i64 k, .int .i64 o] ((w.alloc (.cells #[.int .i64 0, .int .i64 0, .int .i64 0, .slice none 0 0] 49)).alloc (.cells #[.int .i64 0, .int .i64 0, .int .i64 0, .slice none 0 0] 49)) (WAns ((w.alloc (.cells #[.int .i64 0, .int .i64 0, .int .i64 0, .slice none 0 0] 49)).alloc (.cells #[.int .i64 0, .int .i64 0, .int .i64 0, .slice none 0 0] 49)) b (limg pv vt va s tn) k o R.n R.files j v')) :
    Calls Tryz.prog 141 #[.pointer (some ⟨b, 0, none⟩), .int .i64 k, .int .i64 o] w (HAns B S w b pv vt va A tn sq s R x') := by
  have ha := rec_ans (x := x) hm (by rw [hR]; exact he)
  rw [hR] at ha
  obtain ⟨a1, a2, a3, a4, a5, _, a7⟩ := ha
  dsimp only at a1 a2 a3 a4 a5 a7
  have e1 := congrArg Rep.kind a5
  have e2 := congrArg Rep.of a5
  have e3 := congrArg Rep.n a5
  have e4 := congrArg Rep.files a5
  refine (hearR_ok h (inpOf R) a3 j hj3 hj7 v' x' hlog a7 hsc hsb hsp hsl hbl (k := k) (o := o) (n := R.n) (fl := R.files) (e1.trans a1) (e2.trans a2) e3 e4 hcall).mono ?_
  rintro e w' ⟨fa, fc, rfl, h1, h2⟩
  refine ⟨k, o, R.n, fa, R.files.length, fc, rfl, ?_, fun _ => ⟨rfl, h2⟩⟩
  have e5 : hearS s R = { s with heard := wrap64 (s.heard + 1) } := by unfold hearS; rw [if_pos he]
  rw [e5]
  exact h1
theorem setC_same (pv : Nat → Value) (j : Nat) (v : Value) : setC pv j v j = v := by unfold setC; rw [if_pos rfl]
theorem setC_ne (pv : Nat → Value) {j k : Nat} (v : Value) (h : k ≠ j) : setC pv j v k = pv k := by unfold setC; rw [if_neg h]
set_option maxHeartbeats 1000000 in
theorem recQ_hear (B : Nat) : HearQ (SQR B) recAsk mayR B := ⟨fun {S T w b pv vt va s A tn sq x k o} h hf hm => by
  have f0 : Fr (fun _ => False) w ((w.alloc (.cells #[.int .i64 0, .int .i64 0, .int .i64 0, .slice none 0 0] 49)).alloc (.cells #[.int .i64 0, .int .i64 0, .int .i64 0, .slice none 0 0] 49)) (fun _ => False) := ((Fr.refl _ _).alloc _).alloc _
  have hW := h.fr (SQR.law B) f0
  have hB := h.below
  have hbB := (h.bound b h.inB).1
  have hP : ∀ q, q < B → q < ((w.alloc (.cells #[.int .i64 0, .int .i64 0, .int .i64 0, .slice none 0 0] 49)).alloc (.cells #[.int .i64 0, .int .i64 0, .int .i64 0, .slice none 0 0] 49)).heap.size ∧ q ≠ b := fun q hq => ⟨by have := f0.size; omega, by omega⟩
  have hback : ∀ q, q < B → w.heap[q]? = ((w.alloc (.cells #[.int .i64 0, .int .i64 0, .int .i64 0, .slice none 0 0] 49)).alloc (.cells #[.int .i64 0, .int .i64 0, .int .i64 0, .slice none 0 0] 49)).heap[q]? := fun q hq => (f0.same q (by omega) (fun h => h)).symm
  have hno : ∀ {k o : Int}, recAsk x k o = (noRep, x) → (∀ W, Fr (fun _ => False) w W (fun _ => False) → Calls Tryz.prog 146 #[.pointer (some ⟨b, 0, none⟩), .int .i64 k, .int .i64 o] W fun e w' => e = .returned (.tuple #[.agg #[.int .i64 k, .int .i64 o, .int .i64 0, .slice none 0 0], .bool false]) ∧ Fr (fun _ => False) W w' (fun _ => False)) → Calls Tryz.prog 141 #[.pointer (some ⟨b, 0, none⟩), .int .i64 k, .int .i64 o] w (HAns B S w b pv vt va A tn sq s (recAsk x k o).1 (recAsk x k o).2) := fun e hc => by rw [e]; exact rec_no h _ _ _ _ _ hc
  show Calls Tryz.prog 141 _ w (HAns B S w b pv vt va A tn sq s (recAsk x k o).1 (recAsk x k o).2)
  have hmm := hm
  rcases hm with ⟨rfl, rfl⟩ | ⟨rfl, rfl⟩ | ⟨rfl, h2, h8⟩ | ⟨rfl, h1, hM⟩
  · cases hx : x.clocks with
    | nil =>
      exact hno (by simp [recAsk, hx]) (fun W hF => world1n (c := limg pv vt va s tn) (P := fun q => q < B) (h.fr (SQR.law B) hF).cells (by rw [limg_pv _ _ _ _ _ _ (by omega)]; have := (h.fr (SQR.law B) hF).src.c; rw [hx] at this; exact this))
    | cons z r =>
      have hR : recAsk x 1 0 = (⟨1, 0, clampC z, [], 0⟩, { x with clocks := r, log := x.log ++ frameS (bodyS 1 0 (clampC z).toNat) }) := by simp [recAsk, hx]
      have hsrc : IntsC ((w.alloc (.cells #[.int .i64 0, .int .i64 0, .int .i64 0, .slice none 0 0] 49)).alloc (.cells #[.int .i64 0, .int .i64 0, .int .i64 0, .slice none 0 0] 49)) (limg pv vt va s tn 3) (z :: r) (fun q => q < B) := by rw [limg_pv _ _ _ _ _ _ (by omega)]; have := hW.src.c; rw [hx] at this; exact this
      obtain ⟨v', hv', hcall⟩ := world1 hW.cells hP hsrc
      rw [hR]
      exact rec_yes h hR rfl hmm rfl 3 (by omega) (by omega) v' (by rw [setC_same]; exact hv'.keep hback) (by rw [setC_ne _ _ (by omega)]; exact h.src.b) (by rw [setC_ne _ _ (by omega)]; exact h.src.p) (by rw [setC_ne _ _ (by omega)]; exact h.src.l) h.src.bl hcall
  · cases hx : x.batches with
    | nil =>
      exact hno (by simp [recAsk, hx]) (fun W hF => world2n (c := limg pv vt va s tn) (P := fun q => q < B) (h.fr (SQR.law B) hF).cells (by rw [limg_pv _ _ _ _ _ _ (by omega)]; obtain ⟨vals, h1, h2, _⟩ := (h.fr (SQR.law B) hF).src.b; rw [hx] at h2; obtain rfl : vals = [] := List.eq_nil_of_length_eq_zero (by simpa using h2); exact h1))
    | cons z r =>
      have hR : recAsk x 2 0 = (⟨2, 0, 0, filesL z.2, 0⟩, { x with batches := r, log := x.log ++ frameS (batchS (filesL z.2)) }) := by simp [recAsk, hx]
      have hsrc : BatsC ((w.alloc (.cells #[.int .i64 0, .int .i64 0, .int .i64 0, .slice none 0 0] 49)).alloc (.cells #[.int .i64 0, .int .i64 0, .int .i64 0, .slice none 0 0] 49)) (limg pv vt va s tn 4) (z.2 :: r.map (·.2)) (fun q => q < B) := by rw [limg_pv _ _ _ _ _ _ (by omega)]; have := hW.src.b; rw [hx] at this; exact this
      obtain ⟨v', hv', hcall⟩ := world2 hW.cells hP (h.src.bl z (by rw [hx]; simp)) hsrc
      rw [hR]
      exact rec_yes h hR rfl hmm (by show x.log ++ _ = x.log ++ frameS (batchS (zs ((filesL z.2).map Int.toNat))); rw [zs_toNat _ (fun y hy => (filesL_mem z.2 y hy).1)]) 4 (by omega) (by omega) v' (by rw [setC_ne _ _ (by omega)]; exact h.src.c) (by rw [setC_same]; exact hv'.keep hback) (by rw [setC_ne _ _ (by omega)]; exact h.src.p) (by rw [setC_ne _ _ (by omega)]; exact h.src.l) (fun y hy => h.src.bl y (by rw [hx]; exact List.mem_cons_of_mem _ hy)) hcall
  · cases hx : x.picks with
    | nil =>
      exact hno (by simp [recAsk, hx]) (fun W hF => world3n (c := limg pv vt va s tn) (P := fun q => q < B) (h.fr (SQR.law B) hF).cells o (by rw [limg_pv _ _ _ _ _ _ (by omega)]; have := (h.fr (SQR.law B) hF).src.p; rw [hx] at this; exact this))
    | cons z r =>
      have hR : recAsk x 3 o = (⟨3, o, z % o, [], 0⟩, { x with picks := r, log := x.log ++ frameS (bodyS 3 o.toNat (z % o).toNat) }) := by simp [recAsk, hx]
      have hsrc : IntsC ((w.alloc (.cells #[.int .i64 0, .int .i64 0, .int .i64 0, .slice none 0 0] 49)).alloc (.cells #[.int .i64 0, .int .i64 0, .int .i64 0, .slice none 0 0] 49)) (limg pv vt va s tn 5) (z :: r) (fun q => q < B) := by rw [limg_pv _ _ _ _ _ _ (by omega)]; have := hW.src.p; rw [hx] at this; exact this
      obtain ⟨v', hv', hcall⟩ := world3 hW.cells hP o (by omega) (by omega) hsrc
      rw [hR]
      exact rec_yes h hR rfl hmm rfl 5 (by omega) (by omega) v' (by rw [setC_ne _ _ (by omega)]; exact h.src.c) (by rw [setC_ne _ _ (by omega)]; exact h.src.b) (by rw [setC_same]; exact hv'.keep hback) (by rw [setC_ne _ _ (by omega)]; exact h.src.l) h.src.bl hcall
  · cases hx : x.lots with
    | nil =>
      exact hno (by simp [recAsk, hx]) (fun W hF => world4n (c := limg pv vt va s tn) (P := fun q => q < B) (h.fr (SQR.law B) hF).cells o (by rw [limg_pv _ _ _ _ _ _ (by omega)]; have := (h.fr (SQR.law B) hF).src.l; rw [hx] at this; exact this))
    | cons z r =>
      have hR : recAsk x 4 o = (⟨4, o, z % o, [], 0⟩, { x with lots := r, log := x.log ++ frameS (bodyS 4 o.toNat (z % o).toNat) }) := by simp [recAsk, hx]
      have hsrc : IntsC ((w.alloc (.cells #[.int .i64 0, .int .i64 0, .int .i64 0, .slice none 0 0] 49)).alloc (.cells #[.int .i64 0, .int .i64 0, .int .i64 0, .slice none 0 0] 49)) (limg pv vt va s tn 6) (z :: r) (fun q => q < B) := by rw [limg_pv _ _ _ _ _ _ (by omega)]; have := hW.src.l; rw [hx] at this; exact this
      obtain ⟨v', hv', hcall⟩ := world4 hW.cells hP o (by omega) (by omega) hsrc
      rw [hR]
      exact rec_yes h hR rfl hmm rfl 6 (by omega) (by omega) v' (by rw [setC_ne _ _ (by omega)]; exact h.src.c) (by rw [setC_ne _ _ (by omega)]; exact h.src.b) (by rw [setC_ne _ _ (by omega)]; exact h.src.p) (by rw [setC_same]; exact hv'.keep hback) h.src.bl hcall⟩
end
end Go.Proofs.YtfmbebofllgmoaaGreatDoor
namespace Go.Proofs.YtfmbebofllgmoaaGreatDoor
open Go.RowKit

/-- The struct's first ten cells. -/
def pv10 (p1 p2 p3 v0 v1 v2 v3 r i h : Value) (k : Nat) : Value := if k = 0 then p1 else if k = 1 then p2 else if k = 2 then p3 else if k = 3 then v0 else if k = 4 then v1 else if k = 5 then v2 else if k = 6 then v3 else if k = 7 then r else if k = 8 then i else h
def cells28 (p1 p2 p3 v0 v1 v2 v3 r i h : Value) (fu : Int) : Array Value := #[p1, p2, p3, v0, v1, v2, v3, r, i, h, .int .i64 0, .int .i64 0, .int .i64 0, .int .i64 0, .int .i64 0, .int .i64 0, .slice none 0 0, .bool false, .bool false, .bool false, .bool false, .bool false, .bool false, .bool false, .bool false, .int .i64 fu, .slice none 0 0, .int .i64 0]
theorem cells28_get (p1 p2 p3 v0 v1 v2 v3 r i h : Value) (fu : Int) (k : Nat) (hk : k < 28) : (cells28 p1 p2 p3 v0 v1 v2 v3 r i h fu)[k]? = some (limg (pv10 p1 p2 p3 v0 v1 v2 v3 r i h) (.slice none 0 0) (.slice none 0 0) (s0 fu) 0 k) := by
  have hc : k = 0 ∨ k = 1 ∨ k = 2 ∨ k = 3 ∨ k = 4 ∨ k = 5 ∨ k = 6 ∨ k = 7 ∨ k = 8 ∨ k = 9 ∨ k = 10 ∨ k = 11 ∨ k = 12 ∨ k = 13 ∨ k = 14 ∨ k = 15 ∨ k = 16 ∨ k = 17 ∨ k = 18 ∨ k = 19 ∨ k = 20 ∨ k = 21 ∨ k = 22 ∨ k = 23 ∨ k = 24 ∨ k = 25 ∨ k = 26 ∨ k = 27 := by omega
  rcases hc with rfl | rfl | rfl | rfl | rfl | rfl | rfl | rfl | rfl | rfl | rfl | rfl | rfl | rfl | rfl | rfl | rfl | rfl | rfl | rfl | rfl | rfl | rfl | rfl | rfl | rfl | rfl | rfl <;> rfl
theorem arel_start (fu : Int) : ARel (s0 fu) [] 0 0 :=
  ⟨fun _ h => absurd h (by simp), fun i h => (by cases h), List.Pairwise.nil, fun _ h => absurd h (by simp), fun _ h => absurd h (by simp), Int.le_refl _, Int.le_refl _⟩
/-- The loop as it begins, over any source that holds there. -/
theorem loop_start {σ : Type} {SQ : (Nat → Value) → (Nat → Prop) → World → σ → Prop} {B : Nat} {w1 : World} {p1 p2 p3 v0 v1 v2 v3 r i : Value} {fu : Int} {x : σ} (hB : B ≤ w1.heap.size) {W : World} (hW : W = (w1.alloc (.cells (cells28 p1 p2 p3 v0 v1 v2 v3 r i (.slice none 0 0) fu) 180)).drew) (hs : SQ (pv10 p1 p2 p3 v0 v1 v2 v3 r i (.slice none 0 0)) (fun _ => False) W x) :
    LQ SQ B (fun q => q = w1.heap.size) W w1.heap.size (pv10 p1 p2 p3 v0 v1 v2 v3 r i (.slice none 0 0)) (.slice none 0 0) (.slice none 0 0) (fun _ => False) (s0 fu) [] 0 0 x := by
  have hb : W.heap[w1.heap.size]? = some (.cells (cells28 p1 p2 p3 v0 v1 v2 v3 r i (.slice none 0 0) fu) 180) := by rw [hW]; exact heap_alloc_new _ _
  have hl := (Array.getElem?_eq_some_iff.1 hb).1
  refine ⟨fun k hk => by subst hk; exact ⟨hB, hl⟩, fun k hk => ⟨(cell_of_row W _ k _ 180 (0, 0) hb).trans (cells28_get _ _ _ _ _ _ _ _ _ _ _ k hk), frozen_rowE hb k⟩, World.ownsRow_nil _ _ _ _, World.ownsRow_nil _ _ _ _, arel_start fu, hs, ⟨none, 0, 0, rfl, rfl⟩, rfl, fun q hq => ?_, fun q hq => ?_, fun k hk => hk.elim⟩
  · simp [own, Value.ownBlock] at hq
  · simp [own, Value.ownBlock] at hq
/-- The world's source as it begins. -/
theorem sqr_start {w W : World} {p1 p2 p3 v0 v1 v2 v3 : Value} {lc lp ll : List Int} {bs : List (Value × List Int)} (hW : Below w.heap.size w W) (h0 : IntsC w v0 lc (fun q => q < w.heap.size)) (h1 : BatsC w v1 (bs.map (·.2)) (fun q => q < w.heap.size)) (h2 : IntsC w v2 lp (fun q => q < w.heap.size)) (h3 : IntsC w v3 ll (fun q => q < w.heap.size)) (hbs : ∀ b, b ∈ bs → b.2.length ≤ 100000000)
    (n0 : lc.length ≤ 4000000) (n1 : bs.length ≤ 4000000) (n2 : lp.length ≤ 4000000) (n3 : ll.length ≤ 4000000) : SQR w.heap.size (pv10 p1 p2 p3 v0 v1 v2 v3 (.bool false) (.slice none 0 0) (.slice none 0 0)) (fun _ => False) W ⟨lc, bs, lp, ll, headS⟩ :=
  ⟨rfl, h0.keep hW.block, h1.keep hW.block, h2.keep hW.block, h3.keep hW.block, hbs, [], World.ownsRow_nil _ _ _ _, fun q hq => by simp [own, Value.ownBlock, pv10] at hq, fun _ h => absurd h (by simp), rfl, fun _ h => absurd h (by simp), by simp only [RS.left, List.length_nil]; omega⟩
end Go.Proofs.YtfmbebofllgmoaaGreatDoor
namespace Go.Proofs.YtfmbebofllgmoaaGreatDoor
open Go.RowKit
attribute [local go_sem ↓] Go.wp_at_zero Go.wp_at_succ
theorem flatP_get4 : ∀ (A : List (Inp × Value)) (i : Nat) (p : Inp × Value), A[i]? = some p → (flatP A)[i * 4]? = some (.int .i64 p.1.1) ∧ (flatP A)[i * 4 + 1]? = some (.int .i64 p.1.2.1) ∧ (flatP A)[i * 4 + 2]? = some (.int .i64 p.1.2.2.1) ∧ (flatP A)[i * 4 + 3]? = some p.2
  | [], i, p, h => by simp at h
  | x :: r, 0, p, h => by
    simp at h
    subst h
    exact ⟨rfl, rfl, rfl, rfl⟩
  | x :: r, i + 1, p, h => by
    have hr := flatP_get4 r i p (by simpa using h)
    have e : ∀ j, (flatP (x :: r))[(i + 1) * 4 + j]? = (flatP r)[i * 4 + j]? := fun j => by
      rw [show (i + 1) * 4 + j = (i * 4 + j) + 4 by omega]; rfl
    exact ⟨(e 0).trans hr.1, (e 1).trans hr.2.1, (e 2).trans hr.2.2.1, (e 3).trans hr.2.2.2⟩
theorem inpS_bs {i : Inp} (hf : Fit i) : bs (inpS i) = bodyL i := by
  obtain ⟨k, o, n, fs⟩ := i
  unfold inpS
  rcases hf with ⟨h1, h2, h3, h4⟩ | ⟨h1, h2, h3, h4⟩ | ⟨h1, h2, h3, h4, h5⟩ | ⟨h1, h2, h3, h4, h5⟩ | ⟨h1, h2, h3, h4, h5⟩
  · dsimp only at *
    subst h1 h2 h4
    rw [if_neg (by omega)]
    exact bs_body1 1 0 _ [] (.inl rfl)
  · dsimp only at *
    subst h1 h2
    have e : (zs fs).map Int.toNat = fs := by
      unfold zs
      rw [List.map_map]
      conv => rhs; rw [← List.map_id fs]
      apply List.map_congr_left
      intro z _
      simp
    rw [if_pos rfl, bs_batch (zs fs) 0 n, e]
  · dsimp only at *
    subst h1 h5
    rw [if_neg (by omega)]
    exact bs_body2 3 o n [] (.inl rfl)
  · dsimp only at *
    subst h1 h5
    rw [if_neg (by omega)]
    exact bs_body2 4 o n [] (.inr rfl)
  · dsimp only at *
    subst h1 h2 h5
    rw [if_neg (by omega)]
    exact bs_body1 5 0 _ [] (.inr rfl)
theorem inpS_size {i : Inp} (hf : Fit i) : (inpS i).size ≤ 10 := by
  have := bodyL_len hf
  rw [← inpS_bs hf, bs_len] at this
  omega
theorem inpBody_any {i : Inp} (hf : Fit i) {W : World} {fv : Value} {P : Nat → Prop} (hP : ∀ q, P q → q < W.heap.size) (hl : IntsIn W fv (zs i.2.2.2) P) : Calls Tryz.prog 112 #[.agg #[.int .i64 (i.1 : Nat), .int .i64 (i.2.1 : Nat), .int .i64 (i.2.2.1 : Nat), fv]] W fun e w' => e = .returned (.string (inpS i)) ∧ Fr (fun _ => False) W w' (fun _ => False) := by
  obtain ⟨a, c, hv, _⟩ := id hl
  have hfl := hf.files
  obtain ⟨k, o, n, fs⟩ := i
  unfold inpS
  rcases hf with ⟨h1, h2, h3, h4⟩ | ⟨h1, h2, h3, h4⟩ | ⟨h1, h2, h3, h4, h5⟩ | ⟨h1, h2, h3, h4, h5⟩ | ⟨h1, h2, h3, h4, h5⟩
  · dsimp only at *
    subst h1
    rw [if_neg (by omega)]
    exact body_one 1 o n fv a _ c hv (.inl rfl) (by omega) W
  · dsimp only at *
    subst h1
    rw [if_pos rfl]
    refine body_files o n fv (zs fs) W hP hl (by rw [zs_len]; exact hfl.1) (fun z hz => ?_)
    unfold zs at hz
    obtain ⟨y, hy, rfl⟩ := List.mem_map.1 hz
    have := hfl.2 y hy
    show (0 : Int) ≤ (y : Int) ∧ (y : Int) < 8
    exact ⟨by omega, by omega⟩
  · dsimp only at *
    subst h1
    rw [if_neg (by omega)]
    exact body_two 3 o n fv a _ c hv (.inl rfl) (by omega) (by omega) W
  · dsimp only at *
    subst h1
    rw [if_neg (by omega)]
    exact body_two 4 o n fv a _ c hv (.inr rfl) (by omega) (by omega) W
  · dsimp only at *
    subst h1
    rw [if_neg (by omega)]
    exact body_one 5 o n fv a _ c hv (.inr rfl) (by omega) W
set_option maxHeartbeats 2000000 in
theorem writeQ_any {w : World} {B : Nat} {vh : Value} {H : List (Inp × Value)} {P : Nat → Prop} (hrow : w.ownsRow B 49 4 vh H.length (flatP H)) (hcnt : H.length ≤ 20000000) (hfit : ∀ y, y ∈ H → Fit y.1) (hP : ∀ q, P q → q < w.heap.size) (hfl : ∀ y, y ∈ H → IntsIn w y.2 (zs y.1.2.2.2) P) (e : Int) (he1 : 1 ≤ e) (he5 : e ≤ 5) :
    Calls Tryz.prog 108 #[vh, .int .i64 e] w fun r w' => r = .returned (.string (heardS H ++ frameS (bodyS 5 0 e.toNat))) ∧ Fr (fun _ => False) w w' (fun _ => False) := by
  obtain ⟨ha, hc, rfl⟩ := row_shape hrow
  have hbody : ∀ y, y ∈ H → ∀ W, Fr (fun _ => False) w W (fun _ => False) → Calls Tryz.prog 112 #[.agg #[.int .i64 (y.1.1 : Nat), .int .i64 (y.1.2.1 : Nat), .int .i64 (y.1.2.2.1 : Nat), y.2]] W fun e w' => e = .returned (.string (inpS y.1)) ∧ Fr (fun _ => False) W w' (fun _ => False) := fun y hy W hW =>
    inpBody_any (hfit y hy) (fun q hq => Nat.lt_of_lt_of_le (hP q hq) hW.size) (intsIn_kept (hfl y hy) (fun q hq => hW.same q (hP q hq) (fun h => h)) (fun _ h => h))
  have HR := hide hrow
  have HB := hide hbody
  have HFIT := hide hfit
  have hend := fun W => body_one 5 0 e.toNat (.slice none 0 0) none 0 0 rfl (.inr rfl) (by omega) W
  have hee : ((e.toNat : Nat) : Int) = e := by omega
  rw [hee] at hend
  have hfe : (bodyS 5 0 e.toNat).size ≤ 10 := by
    have := inpS_size (i := (5, 0, e.toNat, [])) (fit_end e.toNat (by omega) (by omega))
    exact this
  have HE := hide hend
  clear hrow hbody hfit hfl hP hend hee
  go_enter Tryz.func108, Tryz.ntmps108
  go_wp2
  go_loopw [5, 6] (fun u i wr => ∃ k : Nat, k ≤ H.length ∧ i = .int .i64 k ∧ u = .string (heardS (H.take k)) ∧ (heardS (H.take k)).size ≤ 3 + 40 * k ∧ Fr (fun _ => False) w wr (fun _ => False)) (fun _ i _ => H.length - (intOf i).toNat)
  case atStart => exact ⟨0, Nat.zero_le _, rfl, rfl, (by decide : headS.size ≤ 3 + 40 * 0), Fr.refl _ _⟩
  case round =>
    obtain ⟨k, hk, rfl, rfl, hsz0, hf⟩ := hrel
    by_cases hlt : k < H.length
    · obtain ⟨y, hy⟩ : ∃ y, H[k]? = some y := ⟨_, List.getElem?_eq_getElem hlt⟩
      obtain ⟨g, cg, hv, _, hgl, hcell⟩ := row_cell (unhide HR) (by omega)
      injection hv with hv hv2 hv3
      subst hv
      clear hv2 hv3
      obtain ⟨g0, g1, g2, g3⟩ := flatP_get4 H k y hy
      have c0 := (hf.cell g _ hgl (fun h => h)).trans (hcell _ _ g0)
      have c1 := (hf.cell g _ hgl (fun h => h)).trans (hcell _ _ g1)
      have c2 := (hf.cell g _ hgl (fun h => h)).trans (hcell _ _ g2)
      have c3 := (hf.cell g _ hgl (fun h => h)).trans (hcell _ _ g3)
      have hk0 : (0 : Int) ≤ (k : Int) := by omega
      have hk1 : (k : Int) < (H.length : Int) := by omega
      have HB1 := hide (unhide HB y (List.mem_of_getElem? hy) wr hf)
      have hsn : heardS (H.take (k + 1)) = heardS (H.take k) ++ frameS (inpS y.1) := by rw [List.take_add_one, hy]; exact heardS_snoc _ _
      have HSN := hide hsn
      have HY := hide hy
      have HF := hide hf
      clear hf hcell g0 g1 g2 g3 hy hsn
      have hsz := inpS_size (unhide HFIT y (List.mem_of_getElem? (by exact unhide HY)))
      have hfs := frameS_size (inpS y.1) (by omega)
      have hsn2 : (heardS (H.take k) ++ frameS (inpS y.1)).size ≤ 3 + 40 * (k + 1) := by rw [ByteArray.size_append]; omega
      have HSN2 := hide hsn2
      clear hsn2
      go_wp2_with (first | (go_at_call 112; refine (unhide HB1).mono ?_; rintro e1 w2 ⟨rfl, f2⟩; have F2 := hide f2; clear f2 HB1) | (go_at_call 130; refine (frame_any _ (by omega) w2).mono ?_; rintro e1 w3 ⟨rfl, f3⟩; have F3 := hide f3; clear f3))
      go_roundw
      case rel => exact ⟨k + 1, by omega, by go_num, by rw [unhide HSN], by rw [unhide HSN]; exact unhide HSN2, (unhide HF).trans ((unhide F2).trans (unhide F3))⟩
      case measure => simp [intOf]; omega
    · have hkl : k = H.length := by omega
      subst hkl
      rw [List.take_length] at hsz0 ⊢
      have hfs := frameS_size (bodyS 5 0 e.toNat) (by omega)
      have hk1 : ¬ (H.length : Int) < (H.length : Int) := by omega
      have HF := hide hf
      clear hf
      go_wp2_with (first | (go_at_call 112; refine (unhide HE wr).mono ?_; rintro e1 w2 ⟨rfl, f2⟩; have F2 := hide f2; clear f2) | (go_at_call 130; refine (frame_any _ (by omega) w2).mono ?_; rintro e1 w3 ⟨rfl, f3⟩; have F3 := hide f3; clear f3))
      go_ret
      exact ⟨rfl, (unhide HF).trans ((unhide F2).trans (unhide F3))⟩
end Go.Proofs.YtfmbebofllgmoaaGreatDoor
namespace Go.Proofs.YtfmbebofllgmoaaGreatDoor
open Go.RowKit
attribute [local go_sem ↓] Go.wp_at_zero Go.wp_at_succ

theorem fuelledQ_any (f : Int) (w : World) : Calls Tryz.prog 106 #[.int .i64 f] w fun e w' => e = .returned (.int .i64 (min (max f 0) 5000)) ∧ w' = w := by
  go_enter Tryz.func106, Tryz.ntmps106
  go_wp2
  go_ret
  exact ⟨rfl, rfl⟩
section
variable {σ : Type} {SQ : (Nat → Value) → (Nat → Prop) → World → σ → Prop} {B : Nat} {S T : Nat → Prop} {w : World} {b : Nat} {pv : Nat → Value} {vt va : Value} {s : PS} {A : List AT} {tn sq : Int} {x : σ}
set_option maxHeartbeats 4000000 in
set_option maxRecDepth 20000 in
theorem finalQ_any (h : LQ SQ B S w b pv vt va T s A tn sq x) : Calls Tryz.prog 109 #[.pointer (some ⟨b, 0, none⟩)] w fun e w' => e = .returned (finV s) ∧ Fr (fun _ => False) w w' (fun _ => False) := by
  have hb := h.blt
  obtain ⟨ha, hn, hc, hp9, hnh⟩ := h.hc
  have c27 := (h.cell 27 (by omega)).trans (by rw [limg_fin])
  have c14 := (h.cell 14 (by omega)).trans (by rw [limg_clock])
  have c9 := (h.cell 9 (by omega)).trans (by rw [limg_pv _ _ _ _ _ _ (by omega), hp9])
  have cr : ∀ i, i < 4 → w.cell? ⟨b, 10 + i, none⟩ = some (.int .i64 (s.reg i)) := fun i hi => (h.cell (10 + i) (by omega)).trans (by rw [limg_reg _ _ _ _ _ _ hi])
  have c10 := cr 0 (by omega)
  have c11 := cr 1 (by omega)
  have c12 := cr 2 (by omega)
  have c13 := cr 3 (by omega)
  have nb := heap_alloc_new w (.cells #[.int .i64 0, .int .i64 0, .int .i64 0, .int .i64 0, .int .i64 0, .int .i64 0, .int .i64 0] 37)
  have kb := Below.heap_alloc w (.cells #[.int .i64 0, .int .i64 0, .int .i64 0, .int .i64 0, .int .i64 0, .int .i64 0, .int .i64 0] 37) b hb
  have fr := (Fr.refl (fun _ => False) w).alloc (.cells #[.int .i64 0, .int .i64 0, .int .i64 0, .int .i64 0, .int .i64 0, .int .i64 0, .int .i64 0] 37)
  have hne : b ≠ w.heap.size := by omega
  have hne' : ¬ w.heap.size = b := by omega
  have NB := hide nb
  have KB := hide kb
  have FR := hide fr
  clear h cr nb kb fr
  go_enter Tryz.func109, Tryz.ntmps109
  go_wp2
  generalize hW : w.alloc (.cells #[.int .i64 0, .int .i64 0, .int .i64 0, .int .i64 0, .int .i64 0, .int .i64 0, .int .i64 0] 37) = W at *
  clear hW
  have nz := fun j => frozen_rowE (unhide NB) j
  have nk := fun j => cell_of_row W _ j _ 37 (0, 0) (unhide NB)
  have hwl := (Array.getElem?_eq_some_iff.1 (unhide NB)).1
  have st : ∀ (V : World) (j : Nat) (u : Value), V.heap[b]? = w.heap[b]? → (V.setCell ⟨w.heap.size, j, none⟩ u).heap[b]? = w.heap[b]? := fun V j u hv => (Below.heap_setCell _ _ _ _ hne).trans hv
  have dr : ∀ (V : World), V.heap[b]? = w.heap[b]? → V.drew.heap[b]? = w.heap[b]? := fun V hv => hv
  have dy : ∀ (V : World) (o : Obj), V.heap[w.heap.size]? = some o → V.drew.heap[w.heap.size]? = some o := fun V o hv => hv
  have hs7 : (((((((W.setCell ⟨w.heap.size, 0, none⟩ (.int .i64 s.fin)).setCell ⟨w.heap.size, 1, none⟩ (.int .i64 (s.reg 0))).setCell ⟨w.heap.size, 2, none⟩ (.int .i64 (s.reg 1))).setCell ⟨w.heap.size, 3, none⟩ (.int .i64 (s.reg 2))).setCell ⟨w.heap.size, 4, none⟩ (.int .i64 (s.reg 3))).setCell ⟨w.heap.size, 5, none⟩ (.int .i64 s.clock)).setCell ⟨w.heap.size, 6, none⟩ (.int .i64 s.heard)).drew.heap[b]? = w.heap[b]? := dr _ (st _ _ _ (st _ _ _ (st _ _ _ (st _ _ _ (st _ _ _ (st _ _ _ (st _ _ _ (unhide KB))))))))
  have hy7 : (((((((W.setCell ⟨w.heap.size, 0, none⟩ (.int .i64 s.fin)).setCell ⟨w.heap.size, 1, none⟩ (.int .i64 (s.reg 0))).setCell ⟨w.heap.size, 2, none⟩ (.int .i64 (s.reg 1))).setCell ⟨w.heap.size, 3, none⟩ (.int .i64 (s.reg 2))).setCell ⟨w.heap.size, 4, none⟩ (.int .i64 (s.reg 3))).setCell ⟨w.heap.size, 5, none⟩ (.int .i64 s.clock)).setCell ⟨w.heap.size, 6, none⟩ (.int .i64 s.heard)).drew.heap[w.heap.size]? = some (.cells #[.int .i64 s.fin, .int .i64 (s.reg 0), .int .i64 (s.reg 1), .int .i64 (s.reg 2), .int .i64 (s.reg 3), .int .i64 s.clock, .int .i64 s.heard] 37) := dy _ _ (out7 (unhide NB) _ _ _ _ _ _ _)
  have hf7 : Fr (fun _ => False) w (((((((W.setCell ⟨w.heap.size, 0, none⟩ (.int .i64 s.fin)).setCell ⟨w.heap.size, 1, none⟩ (.int .i64 (s.reg 0))).setCell ⟨w.heap.size, 2, none⟩ (.int .i64 (s.reg 1))).setCell ⟨w.heap.size, 3, none⟩ (.int .i64 (s.reg 2))).setCell ⟨w.heap.size, 4, none⟩ (.int .i64 (s.reg 3))).setCell ⟨w.heap.size, 5, none⟩ (.int .i64 s.clock)).setCell ⟨w.heap.size, 6, none⟩ (.int .i64 s.heard)).drew (fun _ => False) := ((((((((unhide FR).setCell ⟨w.heap.size, 0, none⟩ (.int .i64 s.fin) (.inr (Nat.le_refl _))).setCell ⟨w.heap.size, 1, none⟩ (.int .i64 (s.reg 0)) (.inr (Nat.le_refl _))).setCell ⟨w.heap.size, 2, none⟩ (.int .i64 (s.reg 1)) (.inr (Nat.le_refl _))).setCell ⟨w.heap.size, 3, none⟩ (.int .i64 (s.reg 2)) (.inr (Nat.le_refl _))).setCell ⟨w.heap.size, 4, none⟩ (.int .i64 (s.reg 3)) (.inr (Nat.le_refl _))).setCell ⟨w.heap.size, 5, none⟩ (.int .i64 s.clock) (.inr (Nat.le_refl _))).setCell ⟨w.heap.size, 6, none⟩ (.int .i64 s.heard) (.inr (Nat.le_refl _))).drew
  have HS7 := hide hs7
  have HY7 := hide hy7
  have HF7 := hide hf7
  clear st dr dy hs7 hy7 hf7
  refine wp_region_held_drew (S := fun w' => w'.heap[b]? = w.heap[b]?) (by kernel_rfl) ?_ (fun hHeld => ?_)
  · exact unhide KB
  refine wpAnyH_take (i := 0) (oi := { dst := some 3, op := Op.move (Operand.tmp 0), type := 177, pos := "run.go:336", after := #[], guard := none }) (v := ?_) rfl (by kernel_rfl) (by kernel_rfl) (by kernel_rfl) (fun _ _ _ h => h) (Or.inl ⟨by rfl, ?_⟩) (by assumption) ?_
  rotate_left
  · intro w' hSw; have k27 := (World.cell?_of_block (w := w) (a := ⟨b, 27, none⟩) hSw).trans c27; have k14 := (World.cell?_of_block (w := w) (a := ⟨b, 14, none⟩) hSw).trans c14; have k9 := (World.cell?_of_block (w := w) (a := ⟨b, 9, none⟩) hSw).trans c9; have k10 := (World.cell?_of_block (w := w) (a := ⟨b, 10, none⟩) hSw).trans c10; have k11 := (World.cell?_of_block (w := w) (a := ⟨b, 11, none⟩) hSw).trans c11; have k12 := (World.cell?_of_block (w := w) (a := ⟨b, 12, none⟩) hSw).trans c12; have k13 := (World.cell?_of_block (w := w) (a := ⟨b, 13, none⟩) hSw).trans c13; go_simp; try with_reducible rfl
  simp only [Act.put, List.setIfInBounds_toArray, List.set_cons_zero, List.set_cons_succ]
  refine wpAnyH_take (i := 1) (oi := { dst := some 4, op := Op.nilCheck (Operand.tmp 3), type := 0, pos := "run.go:336", after := #[{ on := 0, ground := Ground.data }], guard := none }) (v := ?_) rfl (by kernel_rfl) (by kernel_rfl) (by kernel_rfl) (fun _ _ _ h => h) (Or.inl ⟨by rfl, ?_⟩) (by assumption) ?_
  rotate_left
  · intro w' hSw; have k27 := (World.cell?_of_block (w := w) (a := ⟨b, 27, none⟩) hSw).trans c27; have k14 := (World.cell?_of_block (w := w) (a := ⟨b, 14, none⟩) hSw).trans c14; have k9 := (World.cell?_of_block (w := w) (a := ⟨b, 9, none⟩) hSw).trans c9; have k10 := (World.cell?_of_block (w := w) (a := ⟨b, 10, none⟩) hSw).trans c10; have k11 := (World.cell?_of_block (w := w) (a := ⟨b, 11, none⟩) hSw).trans c11; have k12 := (World.cell?_of_block (w := w) (a := ⟨b, 12, none⟩) hSw).trans c12; have k13 := (World.cell?_of_block (w := w) (a := ⟨b, 13, none⟩) hSw).trans c13; go_simp; try with_reducible rfl
  simp only [Act.put, List.setIfInBounds_toArray, List.set_cons_zero, List.set_cons_succ]
  refine wpAnyH_take (i := 2) (oi := { dst := some 5, op := Op.fieldAddr 180 (Operand.tmp 4) 12, type := 0, pos := "run.go:336", after := #[{ on := 1, ground := Ground.data }], guard := none }) (v := ?_) rfl (by kernel_rfl) (by kernel_rfl) (by kernel_rfl) (fun _ _ _ h => h) (Or.inl ⟨by rfl, ?_⟩) (by assumption) ?_
  rotate_left
  · intro w' hSw; have k27 := (World.cell?_of_block (w := w) (a := ⟨b, 27, none⟩) hSw).trans c27; have k14 := (World.cell?_of_block (w := w) (a := ⟨b, 14, none⟩) hSw).trans c14; have k9 := (World.cell?_of_block (w := w) (a := ⟨b, 9, none⟩) hSw).trans c9; have k10 := (World.cell?_of_block (w := w) (a := ⟨b, 10, none⟩) hSw).trans c10; have k11 := (World.cell?_of_block (w := w) (a := ⟨b, 11, none⟩) hSw).trans c11; have k12 := (World.cell?_of_block (w := w) (a := ⟨b, 12, none⟩) hSw).trans c12; have k13 := (World.cell?_of_block (w := w) (a := ⟨b, 13, none⟩) hSw).trans c13; go_simp; try with_reducible rfl
  simp only [Act.put, List.setIfInBounds_toArray, List.set_cons_zero, List.set_cons_succ]
  refine wpAnyH_take (i := 3) (oi := { dst := some 6, op := Op.load 3 (Operand.tmp 5), type := 3, pos := "run.go:336", after := #[{ on := 2, ground := Ground.data }], guard := none }) (v := ?_) rfl (by kernel_rfl) (by kernel_rfl) (by kernel_rfl) (fun _ _ _ h => h) (Or.inl ⟨by rfl, ?_⟩) (by assumption) ?_
  rotate_left
  · intro w' hSw; have k27 := (World.cell?_of_block (w := w) (a := ⟨b, 27, none⟩) hSw).trans c27; have k14 := (World.cell?_of_block (w := w) (a := ⟨b, 14, none⟩) hSw).trans c14; have k9 := (World.cell?_of_block (w := w) (a := ⟨b, 9, none⟩) hSw).trans c9; have k10 := (World.cell?_of_block (w := w) (a := ⟨b, 10, none⟩) hSw).trans c10; have k11 := (World.cell?_of_block (w := w) (a := ⟨b, 11, none⟩) hSw).trans c11; have k12 := (World.cell?_of_block (w := w) (a := ⟨b, 12, none⟩) hSw).trans c12; have k13 := (World.cell?_of_block (w := w) (a := ⟨b, 13, none⟩) hSw).trans c13; go_simp; try with_reducible rfl
  simp only [Act.put, List.setIfInBounds_toArray, List.set_cons_zero, List.set_cons_succ]
  refine wpAnyH_take (i := 4) (oi := { dst := some 7, op := Op.move (Operand.tmp 0), type := 177, pos := "run.go:336", after := #[], guard := none }) (v := ?_) rfl (by kernel_rfl) (by kernel_rfl) (by kernel_rfl) (fun _ _ _ h => h) (Or.inl ⟨by rfl, ?_⟩) (by assumption) ?_
  rotate_left
  · intro w' hSw; have k27 := (World.cell?_of_block (w := w) (a := ⟨b, 27, none⟩) hSw).trans c27; have k14 := (World.cell?_of_block (w := w) (a := ⟨b, 14, none⟩) hSw).trans c14; have k9 := (World.cell?_of_block (w := w) (a := ⟨b, 9, none⟩) hSw).trans c9; have k10 := (World.cell?_of_block (w := w) (a := ⟨b, 10, none⟩) hSw).trans c10; have k11 := (World.cell?_of_block (w := w) (a := ⟨b, 11, none⟩) hSw).trans c11; have k12 := (World.cell?_of_block (w := w) (a := ⟨b, 12, none⟩) hSw).trans c12; have k13 := (World.cell?_of_block (w := w) (a := ⟨b, 13, none⟩) hSw).trans c13; go_simp; try with_reducible rfl
  simp only [Act.put, List.setIfInBounds_toArray, List.set_cons_zero, List.set_cons_succ]
  refine wpAnyH_take (i := 5) (oi := { dst := some 8, op := Op.nilCheck (Operand.tmp 7), type := 0, pos := "run.go:336", after := #[{ on := 4, ground := Ground.data }], guard := none }) (v := ?_) rfl (by kernel_rfl) (by kernel_rfl) (by kernel_rfl) (fun _ _ _ h => h) (Or.inl ⟨by rfl, ?_⟩) (by assumption) ?_
  rotate_left
  · intro w' hSw; have k27 := (World.cell?_of_block (w := w) (a := ⟨b, 27, none⟩) hSw).trans c27; have k14 := (World.cell?_of_block (w := w) (a := ⟨b, 14, none⟩) hSw).trans c14; have k9 := (World.cell?_of_block (w := w) (a := ⟨b, 9, none⟩) hSw).trans c9; have k10 := (World.cell?_of_block (w := w) (a := ⟨b, 10, none⟩) hSw).trans c10; have k11 := (World.cell?_of_block (w := w) (a := ⟨b, 11, none⟩) hSw).trans c11; have k12 := (World.cell?_of_block (w := w) (a := ⟨b, 12, none⟩) hSw).trans c12; have k13 := (World.cell?_of_block (w := w) (a := ⟨b, 13, none⟩) hSw).trans c13; go_simp; try with_reducible rfl
  simp only [Act.put, List.setIfInBounds_toArray, List.set_cons_zero, List.set_cons_succ]
  refine wpAnyH_take (i := 6) (oi := { dst := some 9, op := Op.fieldAddr 180 (Operand.tmp 8) 5, type := 0, pos := "run.go:336", after := #[{ on := 5, ground := Ground.data }], guard := none }) (v := ?_) rfl (by kernel_rfl) (by kernel_rfl) (by kernel_rfl) (fun _ _ _ h => h) (Or.inl ⟨by rfl, ?_⟩) (by assumption) ?_
  rotate_left
  · intro w' hSw; have k27 := (World.cell?_of_block (w := w) (a := ⟨b, 27, none⟩) hSw).trans c27; have k14 := (World.cell?_of_block (w := w) (a := ⟨b, 14, none⟩) hSw).trans c14; have k9 := (World.cell?_of_block (w := w) (a := ⟨b, 9, none⟩) hSw).trans c9; have k10 := (World.cell?_of_block (w := w) (a := ⟨b, 10, none⟩) hSw).trans c10; have k11 := (World.cell?_of_block (w := w) (a := ⟨b, 11, none⟩) hSw).trans c11; have k12 := (World.cell?_of_block (w := w) (a := ⟨b, 12, none⟩) hSw).trans c12; have k13 := (World.cell?_of_block (w := w) (a := ⟨b, 13, none⟩) hSw).trans c13; go_simp; try with_reducible rfl
  simp only [Act.put, List.setIfInBounds_toArray, List.set_cons_zero, List.set_cons_succ]
  refine wpAnyH_take (i := 7) (oi := { dst := some 10, op := Op.load 35 (Operand.tmp 9), type := 35, pos := "run.go:336", after := #[{ on := 6, ground := Ground.data }], guard := none }) (v := ?_) rfl (by kernel_rfl) (by kernel_rfl) (by kernel_rfl) (fun _ _ _ h => h) (Or.inl ⟨by rfl, ?_⟩) (by assumption) ?_
  rotate_left
  · intro w' hSw; have k27 := (World.cell?_of_block (w := w) (a := ⟨b, 27, none⟩) hSw).trans c27; have k14 := (World.cell?_of_block (w := w) (a := ⟨b, 14, none⟩) hSw).trans c14; have k9 := (World.cell?_of_block (w := w) (a := ⟨b, 9, none⟩) hSw).trans c9; have k10 := (World.cell?_of_block (w := w) (a := ⟨b, 10, none⟩) hSw).trans c10; have k11 := (World.cell?_of_block (w := w) (a := ⟨b, 11, none⟩) hSw).trans c11; have k12 := (World.cell?_of_block (w := w) (a := ⟨b, 12, none⟩) hSw).trans c12; have k13 := (World.cell?_of_block (w := w) (a := ⟨b, 13, none⟩) hSw).trans c13; go_simp; try with_reducible rfl
  simp only [Act.put, List.setIfInBounds_toArray, List.set_cons_zero, List.set_cons_succ]
  refine wpAnyH_take (i := 8) (oi := { dst := some 11, op := Op.move (Operand.tmp 0), type := 177, pos := "run.go:336", after := #[], guard := none }) (v := ?_) rfl (by kernel_rfl) (by kernel_rfl) (by kernel_rfl) (fun _ _ _ h => h) (Or.inl ⟨by rfl, ?_⟩) (by assumption) ?_
  rotate_left
  · intro w' hSw; have k27 := (World.cell?_of_block (w := w) (a := ⟨b, 27, none⟩) hSw).trans c27; have k14 := (World.cell?_of_block (w := w) (a := ⟨b, 14, none⟩) hSw).trans c14; have k9 := (World.cell?_of_block (w := w) (a := ⟨b, 9, none⟩) hSw).trans c9; have k10 := (World.cell?_of_block (w := w) (a := ⟨b, 10, none⟩) hSw).trans c10; have k11 := (World.cell?_of_block (w := w) (a := ⟨b, 11, none⟩) hSw).trans c11; have k12 := (World.cell?_of_block (w := w) (a := ⟨b, 12, none⟩) hSw).trans c12; have k13 := (World.cell?_of_block (w := w) (a := ⟨b, 13, none⟩) hSw).trans c13; go_simp; try with_reducible rfl
  simp only [Act.put, List.setIfInBounds_toArray, List.set_cons_zero, List.set_cons_succ]
  refine wpAnyH_take (i := 9) (oi := { dst := some 12, op := Op.nilCheck (Operand.tmp 11), type := 0, pos := "run.go:336", after := #[{ on := 8, ground := Ground.data }], guard := none }) (v := ?_) rfl (by kernel_rfl) (by kernel_rfl) (by kernel_rfl) (fun _ _ _ h => h) (Or.inl ⟨by rfl, ?_⟩) (by assumption) ?_
  rotate_left
  · intro w' hSw; have k27 := (World.cell?_of_block (w := w) (a := ⟨b, 27, none⟩) hSw).trans c27; have k14 := (World.cell?_of_block (w := w) (a := ⟨b, 14, none⟩) hSw).trans c14; have k9 := (World.cell?_of_block (w := w) (a := ⟨b, 9, none⟩) hSw).trans c9; have k10 := (World.cell?_of_block (w := w) (a := ⟨b, 10, none⟩) hSw).trans c10; have k11 := (World.cell?_of_block (w := w) (a := ⟨b, 11, none⟩) hSw).trans c11; have k12 := (World.cell?_of_block (w := w) (a := ⟨b, 12, none⟩) hSw).trans c12; have k13 := (World.cell?_of_block (w := w) (a := ⟨b, 13, none⟩) hSw).trans c13; go_simp; try with_reducible rfl
  simp only [Act.put, List.setIfInBounds_toArray, List.set_cons_zero, List.set_cons_succ]
  refine wpAnyH_take (i := 10) (oi := { dst := some 13, op := Op.fieldAddr 180 (Operand.tmp 12) 6, type := 0, pos := "run.go:336", after := #[{ on := 9, ground := Ground.data }], guard := none }) (v := ?_) rfl (by kernel_rfl) (by kernel_rfl) (by kernel_rfl) (fun _ _ _ h => h) (Or.inl ⟨by rfl, ?_⟩) (by assumption) ?_
  rotate_left
  · intro w' hSw; have k27 := (World.cell?_of_block (w := w) (a := ⟨b, 27, none⟩) hSw).trans c27; have k14 := (World.cell?_of_block (w := w) (a := ⟨b, 14, none⟩) hSw).trans c14; have k9 := (World.cell?_of_block (w := w) (a := ⟨b, 9, none⟩) hSw).trans c9; have k10 := (World.cell?_of_block (w := w) (a := ⟨b, 10, none⟩) hSw).trans c10; have k11 := (World.cell?_of_block (w := w) (a := ⟨b, 11, none⟩) hSw).trans c11; have k12 := (World.cell?_of_block (w := w) (a := ⟨b, 12, none⟩) hSw).trans c12; have k13 := (World.cell?_of_block (w := w) (a := ⟨b, 13, none⟩) hSw).trans c13; go_simp; try with_reducible rfl
  simp only [Act.put, List.setIfInBounds_toArray, List.set_cons_zero, List.set_cons_succ]
  refine wpAnyH_take (i := 11) (oi := { dst := some 14, op := Op.load 3 (Operand.tmp 13), type := 3, pos := "run.go:336", after := #[{ on := 10, ground := Ground.data }], guard := none }) (v := ?_) rfl (by kernel_rfl) (by kernel_rfl) (by kernel_rfl) (fun _ _ _ h => h) (Or.inl ⟨by rfl, ?_⟩) (by assumption) ?_
  rotate_left
  · intro w' hSw; have k27 := (World.cell?_of_block (w := w) (a := ⟨b, 27, none⟩) hSw).trans c27; have k14 := (World.cell?_of_block (w := w) (a := ⟨b, 14, none⟩) hSw).trans c14; have k9 := (World.cell?_of_block (w := w) (a := ⟨b, 9, none⟩) hSw).trans c9; have k10 := (World.cell?_of_block (w := w) (a := ⟨b, 10, none⟩) hSw).trans c10; have k11 := (World.cell?_of_block (w := w) (a := ⟨b, 11, none⟩) hSw).trans c11; have k12 := (World.cell?_of_block (w := w) (a := ⟨b, 12, none⟩) hSw).trans c12; have k13 := (World.cell?_of_block (w := w) (a := ⟨b, 13, none⟩) hSw).trans c13; go_simp; try with_reducible rfl
  simp only [Act.put, List.setIfInBounds_toArray, List.set_cons_zero, List.set_cons_succ]
  refine wpAnyH_take (i := 12) (oi := { dst := some 15, op := Op.move (Operand.tmp 0), type := 177, pos := "run.go:336", after := #[], guard := none }) (v := ?_) rfl (by kernel_rfl) (by kernel_rfl) (by kernel_rfl) (fun _ _ _ h => h) (Or.inl ⟨by rfl, ?_⟩) (by assumption) ?_
  rotate_left
  · intro w' hSw; have k27 := (World.cell?_of_block (w := w) (a := ⟨b, 27, none⟩) hSw).trans c27; have k14 := (World.cell?_of_block (w := w) (a := ⟨b, 14, none⟩) hSw).trans c14; have k9 := (World.cell?_of_block (w := w) (a := ⟨b, 9, none⟩) hSw).trans c9; have k10 := (World.cell?_of_block (w := w) (a := ⟨b, 10, none⟩) hSw).trans c10; have k11 := (World.cell?_of_block (w := w) (a := ⟨b, 11, none⟩) hSw).trans c11; have k12 := (World.cell?_of_block (w := w) (a := ⟨b, 12, none⟩) hSw).trans c12; have k13 := (World.cell?_of_block (w := w) (a := ⟨b, 13, none⟩) hSw).trans c13; go_simp; try with_reducible rfl
  simp only [Act.put, List.setIfInBounds_toArray, List.set_cons_zero, List.set_cons_succ]
  refine wpAnyH_take (i := 13) (oi := { dst := some 16, op := Op.nilCheck (Operand.tmp 15), type := 0, pos := "run.go:336", after := #[{ on := 12, ground := Ground.data }], guard := none }) (v := ?_) rfl (by kernel_rfl) (by kernel_rfl) (by kernel_rfl) (fun _ _ _ h => h) (Or.inl ⟨by rfl, ?_⟩) (by assumption) ?_
  rotate_left
  · intro w' hSw; have k27 := (World.cell?_of_block (w := w) (a := ⟨b, 27, none⟩) hSw).trans c27; have k14 := (World.cell?_of_block (w := w) (a := ⟨b, 14, none⟩) hSw).trans c14; have k9 := (World.cell?_of_block (w := w) (a := ⟨b, 9, none⟩) hSw).trans c9; have k10 := (World.cell?_of_block (w := w) (a := ⟨b, 10, none⟩) hSw).trans c10; have k11 := (World.cell?_of_block (w := w) (a := ⟨b, 11, none⟩) hSw).trans c11; have k12 := (World.cell?_of_block (w := w) (a := ⟨b, 12, none⟩) hSw).trans c12; have k13 := (World.cell?_of_block (w := w) (a := ⟨b, 13, none⟩) hSw).trans c13; go_simp; try with_reducible rfl
  simp only [Act.put, List.setIfInBounds_toArray, List.set_cons_zero, List.set_cons_succ]
  refine wpAnyH_take (i := 14) (oi := { dst := some 17, op := Op.fieldAddr 180 (Operand.tmp 16) 4, type := 0, pos := "run.go:336", after := #[{ on := 13, ground := Ground.data }], guard := none }) (v := ?_) rfl (by kernel_rfl) (by kernel_rfl) (by kernel_rfl) (fun _ _ _ h => h) (Or.inl ⟨by rfl, ?_⟩) (by assumption) ?_
  rotate_left
  · intro w' hSw; have k27 := (World.cell?_of_block (w := w) (a := ⟨b, 27, none⟩) hSw).trans c27; have k14 := (World.cell?_of_block (w := w) (a := ⟨b, 14, none⟩) hSw).trans c14; have k9 := (World.cell?_of_block (w := w) (a := ⟨b, 9, none⟩) hSw).trans c9; have k10 := (World.cell?_of_block (w := w) (a := ⟨b, 10, none⟩) hSw).trans c10; have k11 := (World.cell?_of_block (w := w) (a := ⟨b, 11, none⟩) hSw).trans c11; have k12 := (World.cell?_of_block (w := w) (a := ⟨b, 12, none⟩) hSw).trans c12; have k13 := (World.cell?_of_block (w := w) (a := ⟨b, 13, none⟩) hSw).trans c13; go_simp; try with_reducible rfl
  simp only [Act.put, List.setIfInBounds_toArray, List.set_cons_zero, List.set_cons_succ]
  refine wpAnyH_take (i := 15) (oi := { dst := some 18, op := Op.load 44 (Operand.tmp 17), type := 44, pos := "run.go:336", after := #[{ on := 14, ground := Ground.data }], guard := none }) (v := ?_) rfl (by kernel_rfl) (by kernel_rfl) (by kernel_rfl) (fun _ _ _ h => h) (Or.inl ⟨by rfl, ?_⟩) (by assumption) ?_
  rotate_left
  · intro w' hSw; have k27 := (World.cell?_of_block (w := w) (a := ⟨b, 27, none⟩) hSw).trans c27; have k14 := (World.cell?_of_block (w := w) (a := ⟨b, 14, none⟩) hSw).trans c14; have k9 := (World.cell?_of_block (w := w) (a := ⟨b, 9, none⟩) hSw).trans c9; have k10 := (World.cell?_of_block (w := w) (a := ⟨b, 10, none⟩) hSw).trans c10; have k11 := (World.cell?_of_block (w := w) (a := ⟨b, 11, none⟩) hSw).trans c11; have k12 := (World.cell?_of_block (w := w) (a := ⟨b, 12, none⟩) hSw).trans c12; have k13 := (World.cell?_of_block (w := w) (a := ⟨b, 13, none⟩) hSw).trans c13; go_simp; try with_reducible rfl
  simp only [Act.put, List.setIfInBounds_toArray, List.set_cons_zero, List.set_cons_succ]
  refine wpAnyH_take (i := 16) (oi := { dst := some 19, op := Op.call { callee := Callee.builtin Builtin.len, args := #[Operand.tmp 18], argTypes := #[44] }, type := 3, pos := "run.go:336", after := #[{ on := 15, ground := Ground.data }], guard := none }) (v := ?_) rfl (by kernel_rfl) (by kernel_rfl) (by kernel_rfl) (fun _ _ _ h => h) (Or.inl ⟨by rfl, ?_⟩) (by assumption) ?_
  rotate_left
  · intro w' hSw; have k27 := (World.cell?_of_block (w := w) (a := ⟨b, 27, none⟩) hSw).trans c27; have k14 := (World.cell?_of_block (w := w) (a := ⟨b, 14, none⟩) hSw).trans c14; have k9 := (World.cell?_of_block (w := w) (a := ⟨b, 9, none⟩) hSw).trans c9; have k10 := (World.cell?_of_block (w := w) (a := ⟨b, 10, none⟩) hSw).trans c10; have k11 := (World.cell?_of_block (w := w) (a := ⟨b, 11, none⟩) hSw).trans c11; have k12 := (World.cell?_of_block (w := w) (a := ⟨b, 12, none⟩) hSw).trans c12; have k13 := (World.cell?_of_block (w := w) (a := ⟨b, 13, none⟩) hSw).trans c13; go_simp; try with_reducible rfl
  simp only [Act.put, List.setIfInBounds_toArray, List.set_cons_zero, List.set_cons_succ]
  refine wpAnyH_take (i := 17) (oi := { dst := some 20, op := Op.build 37 #[(0, Operand.tmp 6), (1, Operand.tmp 10), (2, Operand.tmp 14), (3, Operand.tmp 19)], type := 37, pos := "run.go:336", after := #[{ on := 3, ground := Ground.data }, { on := 7, ground := Ground.data }, { on := 11, ground := Ground.data }, { on := 16, ground := Ground.data }], guard := none }) (v := ?_) rfl (by kernel_rfl) (by kernel_rfl) (by kernel_rfl) (fun _ _ _ h => h) (Or.inl ⟨by rfl, ?_⟩) (by assumption) ?_
  rotate_left
  · intro w' hSw; have k27 := (World.cell?_of_block (w := w) (a := ⟨b, 27, none⟩) hSw).trans c27; have k14 := (World.cell?_of_block (w := w) (a := ⟨b, 14, none⟩) hSw).trans c14; have k9 := (World.cell?_of_block (w := w) (a := ⟨b, 9, none⟩) hSw).trans c9; have k10 := (World.cell?_of_block (w := w) (a := ⟨b, 10, none⟩) hSw).trans c10; have k11 := (World.cell?_of_block (w := w) (a := ⟨b, 11, none⟩) hSw).trans c11; have k12 := (World.cell?_of_block (w := w) (a := ⟨b, 12, none⟩) hSw).trans c12; have k13 := (World.cell?_of_block (w := w) (a := ⟨b, 13, none⟩) hSw).trans c13; go_simp; try with_reducible rfl
  simp only [Act.put, List.setIfInBounds_toArray, List.set_cons_zero, List.set_cons_succ]
  refine wpAnyH_ready (rs := [18]) (by kernel_rfl) (by simp) ?_
  refine AllReadyH.cons (o := { dst := none, op := Op.store 37 (Operand.tmp 2) (Operand.tmp 20), type := 0, pos := "run.go:336", after := #[{ on := 17, ground := Ground.data }, { on := 0, ground := Ground.phase }, { on := 1, ground := Ground.phase }, { on := 2, ground := Ground.phase }, { on := 3, ground := Ground.phase }, { on := 4, ground := Ground.phase }, { on := 5, ground := Ground.phase }, { on := 6, ground := Ground.phase }, { on := 7, ground := Ground.phase }, { on := 8, ground := Ground.phase }, { on := 9, ground := Ground.phase }, { on := 10, ground := Ground.phase }, { on := 11, ground := Ground.phase }, { on := 12, ground := Ground.phase }, { on := 13, ground := Ground.phase }, { on := 14, ground := Ground.phase }, { on := 15, ground := Ground.phase }, { on := 16, ground := Ground.phase }, { on := 17, ground := Ground.phase }], guard := none }) rfl (fun K' hK' => ?_) AllReadyH.nil
  go_simp
  refine hK'.out _ _ ?_ (fun hHeld => ?_)
  · exact unhide HS7
  clear hK' K'
  try simp only [Act.put, List.setIfInBounds_toArray, List.set_cons_zero, List.set_cons_succ]
  refine wpAnyH_done (by kernel_rfl) ?_ _
  generalize hV : (((((((W.setCell ⟨w.heap.size, 0, none⟩ (.int .i64 s.fin)).setCell ⟨w.heap.size, 1, none⟩ (.int .i64 (s.reg 0))).setCell ⟨w.heap.size, 2, none⟩ (.int .i64 (s.reg 1))).setCell ⟨w.heap.size, 3, none⟩ (.int .i64 (s.reg 2))).setCell ⟨w.heap.size, 4, none⟩ (.int .i64 (s.reg 3))).setCell ⟨w.heap.size, 5, none⟩ (.int .i64 s.clock)).setCell ⟨w.heap.size, 6, none⟩ (.int .i64 s.heard)).drew = V at *
  clear hV
  have ky := fun j => cell_of_row V _ j _ 37 (0, 0) (unhide HY7)
  go_wp2
  refine bodyPost_ret (v := .agg #[.int .i64 s.fin, .int .i64 (s.reg 0), .int .i64 (s.reg 1), .int .i64 (s.reg 2), .int .i64 (s.reg 3), .int .i64 s.clock, .int .i64 s.heard]) (by simp [results, Tryz.results109, go_sem, ky]) rfl ?_
  exact ⟨rfl, unhide HF7⟩
end
end Go.Proofs.YtfmbebofllgmoaaGreatDoor
