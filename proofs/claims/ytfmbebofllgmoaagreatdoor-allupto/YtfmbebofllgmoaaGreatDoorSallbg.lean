/-
  PROVED HERE: the document's batch: the ready files wake as the model (wakeM) says. the document's run is the model's (runM). the document's loop over a world, as it begins. the document's Record. what the law's record knows of its world, and of two Records' answers. the law's record: what the program's Record answers is what the document's does, and the Book is kept. one step of kind KRecord of a script is as the document says.
-/
import Derived.Test.YtfmbebofllgmoaaGreatDoorProg
import Derived.WalkKit
import Derived.WalkSpells
import Derived.WalkLawsBesides
import Derived.Deep.QuietTactic
import Derived.BigQuiet
import Derived.Deep.RegionHeld3
import Derived.Deep.AppendLies
import Derived.Laws.EntriesVeiled
import Derived.Deep.DrawnRows
import Derived.BigRegion
import Derived.Deep.LoopGhost
import Derived.Deep.MidRow
import Derived.Shelf.SlSortCmp.SmallK
import Derived.Shelf.SlicesG.Cmp
import Derived.Shelf.Small.Bits
import Derived.Deep.RegionLaw
import Derived.Lib.SliceRun
import Derived.Laws.StructEq
import Derived.Laws.BytesString
import Derived.ArgAppend
import Derived.Deep.DeepCutAuto
import Derived.Conc.LoneCalls
import Derived.Calls
import Derived.Tactics
import Derived.KernelRfl
import Derived.Laws.Rows
import Derived.Lib.SlBytesConst
import Derived.Laws.BitsAllLaws
import Derived.RangeFuncOwn
import Derived.Laws.IdiomStrings
import Derived.RangeFuncNested
import Derived.RangeFuncBound
import Derived.RangeFuncCalls
import Derived.RangeFuncLeaves
import Derived.Shelf.RegionOpen
import Derived.OwnWalkIn
import Derived.TacticsInMore
import Derived.Maps.OwnIn
import Derived.Maps.AppendAt
import Derived.LoopNIn
import Derived.LoopIn
import Derived.ChangeKeysEq
import Derived.Deep.DeepAppendRoom
import Derived.Deep.Upon
import Derived.Test.YtfmbebofllgmoaaGreatDoorSallbh
namespace Go.Proofs.YtfmbebofllgmoaaGreatDoor
open Go.RowKit
attribute [local go_sem ↓] Go.wp_at_zero Go.wp_at_succ

theorem wpList_grow0 {ops : Array Oper} {rest : List Oper} {o : Oper} {a : Act} {Q : Exit → Act → World → Prop} {w : World} {B t e size bytes : Nat} (E : Elem t e size bytes) (hs0 : 0 < size) (hs1 : bytes ≤ 140) {v : Value} {n m : Nat} {xs news : List Value} (hgd : o.guard = none) (sv xv : Operand)
    (ho : o.op = .call { callee := .builtin .append, args := #[sv, xv], argTypes := #[t, t] }) {ad : Addr} {cap : Nat} (hs : a.eval sv = v) (hx : a.eval xv = .slice (some ad) m cap) (hrow : w.ownsRow B e size v n xs) (hl : news.length = m * size)
    (hc : ∀ j u, news[j]? = some u → w.cell? (ad.add j) = some u) (h1 : ∀ u ∈ news, u.oneCell' = true) (hn : n + m ≤ 1000000000000) (hB : B ≤ w.heap.size)
    (h : ∀ v' w', w'.ownsRow B e size v' (n + m) (xs ++ news) → Fr (own v) w w' (own v') → (∃ a c, v' = .slice a (n + m) c) → wpList Tryz.prog ops Q rest (a.put o.dst v') w') : wpList Tryz.prog ops Q (o :: rest) a w := by
  rcases Nat.eq_zero_or_pos m with h0 | h0
  · subst h0
    have hnl : news = [] := List.eq_nil_of_length_eq_zero (by rw [hl, Nat.zero_mul])
    subst hnl
    obtain ⟨i, z, hi, hz, hsz, hby, hzc⟩ := E.i
    obtain ⟨va, vc, hv⟩ := row_shape hrow
    have hle : n ≤ vc := by
      rcases hrow.2 with ⟨e1, e2⟩ | ⟨g, cp, cur, e1, _, _, e2, _⟩
      · omega
      · rw [hv] at e1; cases e1; exact e2
    have hrun := Go.run_append_nothing (P := Tryz.prog) w t t o.type e i E.u hi va n vc hle (.slice (some ad) 0 cap) (Go.Src.ofSlice w E.u ad 0 cap [] (by simp) (fun j u hj => by simp at hj) (fun u hu => by simp at hu))
    refine wpList_plain hgd fun K hK => ?_
    unfold Oper.wp execOp
    simp only [ho, resolve, invoke, builtin, Sem.run_bind, Sem.run_pure, Result.andThen_ok, List.map_toArray, List.map_cons, List.map_nil, hs, hx, hv, hrun]
    refine hK _ _ (h _ w ?_ (by rw [hv]; exact Fr.refl _ _) ⟨va, vc, rfl⟩)
    rw [List.append_nil, ← hv]
    exact hrow
  · exact wpList_grown E hs0 hs1 hgd sv xv ho hs hx hrow hl hc h1 h0 hn hB h

theorem field49 (a b c d : Value) (w : World) : Sem.run Tryz.prog (Instr.field 49 (.agg #[a, b, c, d]) 2) w = .ok c w := by kernel_rfl
section
variable {σ : Type} {SQ : (Nat → Value) → (Nat → Prop) → World → σ → Prop} {ask : σ → Int → Int → Rep × σ} {may : Int → Int → Prop} {mes : σ → Nat} {B : Nat} {S T : Nat → Prop} {w : World} {b : Nat} {pv : Nat → Value} {vt va : Value} {s : PS} {A : List AT} {tn sq : Int} {x : σ}

/-- How far the ready files have come. -/
def BaRel (SQ : (Nat → Value) → (Nat → Prop) → World → σ → Prop) (ask : σ → Int → Int → Rep × σ) (B : Nat) (S : Nat → Prop) (w : World) (b : Nat) (pv : Nat → Value) (tn sq : Int) (p : Pg) (M : Nat) (tot : PS × σ) (k : Nat) (u : Value) (wr : World) : Prop :=
  ∃ S' pv' vt' va' T' A' s' x' N l, LQ SQ B S' wr b pv' vt' va' T' s' A' tn sq x' ∧ (∀ i, i < 3 → pv' i = pv i) ∧ Fr S w wr S' ∧ OwnI wr w.heap.size u l ∧ (∀ q, own u q → ¬ S' q) ∧ wkM ask (gF ask p) k l s' x' = tot ∧ RInv p N s' ∧ N + l.length ≤ M ∧ (∀ z, z ∈ l → 0 ≤ z ∧ z < 8) ∧ l.length ≤ k ∧ l.length ≤ 8
theorem filt_take (l : List Int) (f : Int → Bool) (k : Nat) (z : Int) (h : l[k]? = some z) : (l.take (k + 1)).filter f = (l.take k).filter f ++ (if f z then [z] else []) := by
  rw [List.take_add_one, h, List.filter_append]
  by_cases e : f z = true <;> simp [e]

set_option maxHeartbeats 8000000 in
set_option maxRecDepth 20000 in
theorem batchQ_any (L : SQLaw SQ B) (K : HearQ SQ ask may B) (hm : may 1 0) (hm2 : may 2 0) (hm3 : ∀ n : Nat, 2 ≤ n → n ≤ 8 → may 3 n) (hm4 : ∀ v, 1 ≤ v → v ≤ 1000000 → may 4 v) (hs : SrcOk ask mes)
    {w0 : World} (hB : B = w0.heap.size) (hbel : Below w0.heap.size w0 w) {p : Pg} (pg : PgAt w0 pv p) (ok : PgOk p) (h : LQ SQ B S w b pv vt va T s A tn sq x) (hf : s.fin = 0) {N : Nat} (hq : RInv p N s) (hN : N + 8 ≤ 100000000) :
    Calls Tryz.prog 129 #[.pointer (some ⟨b, 0, none⟩)] w fun e w' => e = .returned (.tuple #[]) ∧ LPost SQ B S w b pv tn sq (wakeM ask p s x).1 (wakeM ask p s x).2 w' := by
  have hc := K.calls h hf hm2
  have hfi8 := hs.files x
  have hmost := hs.most x
  unfold wakeM
  generalize ask x 2 0 = R at *
  obtain ⟨⟨rk, ro, rn, rf, re⟩, x'⟩ := R
  dsimp only at hc hfi8 hmost ⊢
  have hSB : ∀ k, S k → B ≤ k := fun k hk => (h.bound k hk).1
  have hBw : B ≤ w.heap.size := h.below
  obtain ⟨fa0, fc0, hfv, _, hff⟩ := pg.f
  have HC := hide hc
  have HSB := hide hSB
  have HBW := hide hBw
  have HBEL := hide hbel
  have HBE := hide hB
  have HFF := hide hff
  have HQ := hide hq
  have HF8 := hide hfi8
  have HF := hide hf
  clear hc h hSB hBw hbel hB hff hq hfi8 hf
  by_cases hre : re = 0
  · rw [if_pos hre]
    generalize htot : wkM ask (gF ask p) 8 (rf.filter fun z => s.wat z.toNat) { s with heard := wrap64 (s.heard + 1) } x' = tot
    have e0 : hearS s ⟨rk, ro, rn, rf, re⟩ = { s with heard := wrap64 (s.heard + 1) } := by unfold hearS; rw [if_pos hre]
    rw [e0] at HC
    have HTOT := hide htot
    have HRE := hide hre
    clear htot hre e0
    go_enter Tryz.func129, Tryz.ntmps129
    go_wp2_with fail
    go_at_call 141
    refine (unhide HC).mono ?_
    rintro e w1 ⟨kd, of_, n, fa, fl, fc, rfl, ⟨S1, pv1, T1, h1, p1, f1⟩, hn⟩
    obtain ⟨hnn, hints⟩ := hn (unhide HRE)
    subst hnn
    obtain ⟨fa', fc', hfe, hcells⟩ := hints
    injection hfe with hfe1 hfe2 hfe3
    subst hfe1 hfe2 hfe3
    have k27 : w1.cell? ⟨b, 27, none⟩ = some (.int .i64 0) := (h1.cell 27 (by omega)).trans (by rw [limg_fin]; exact congrArg (fun z => some (Value.int .i64 z)) (unhide HF))
    have hb1 := h1.blt
    have hn5 : w1.heap.size ≠ b := by omega
    have hn6 : ¬ b = w1.heap.size := by omega
    have ha := h1.alloc L (.cells #[.int .i64 kd, .int .i64 of_, .int .i64 n, .slice fa rf.length fc] 49)
    have g49 := heap_alloc_new w1 (.cells #[.int .i64 kd, .int .i64 of_, .int .i64 n, .slice fa rf.length fc] 49)
    have hcl : rf = [] ∨ ∃ q off, fa = some ⟨q, off, none⟩ ∧ q < w1.heap.size ∧ ∀ i, i < rf.length → (w1.alloc (.cells #[.int .i64 kd, .int .i64 of_, .int .i64 n, .slice fa rf.length fc] 49)).cell? ⟨q, off + i, none⟩ = some (.int .i64 (rf.getD i 0)) := by
      rcases hcells with h0 | ⟨q, off, e, hq, hcc⟩
      · exact .inl h0
      · exact .inr ⟨q, off, e, hq, fun i hi => (World.cell?_of_block (w := w1) (a := ⟨q, off + i, none⟩) (Below.heap_alloc _ _ _ hq)).trans (hcc i hi)⟩
    have HA := hide ha
    have FA := hide (f1.alloc (.cells #[.int .i64 kd, .int .i64 of_, .int .i64 n, .slice fa rf.length fc] 49))
    have P1 := hide p1
    have HCL := hide hcl
    have G49 := hide g49
    have hw1 : w1.heap.size < (w1.alloc (.cells #[.int .i64 kd, .int .i64 of_, .int .i64 n, .slice fa rf.length fc] 49)).heap.size := by simp
    clear h1 f1 p1 hcells hn ha hcl g49 HC
    go_wp2
    generalize hW1 : w1.alloc (.cells #[.int .i64 kd, .int .i64 of_, .int .i64 n, .slice fa rf.length fc] 49) = W1 at *
    clear hW1 k27
    go_loopw [3, 4] (fun u i wr => ∃ k : Nat, k ≤ rf.length ∧ i = .int .i64 k ∧ ∃ la lc, u = .slice la ((rf.take k).filter fun z => s.wat z.toNat).length lc ∧ Hid (OwnI wr W1.heap.size (.slice la ((rf.take k).filter fun z => s.wat z.toNat).length lc) ((rf.take k).filter fun z => s.wat z.toNat) ∧ Fr (fun _ => False) W1 wr (fun _ => False))) (fun _ i _ => rf.length - (intOf i).toNat)
    case atStart => exact ⟨0, Nat.zero_le _, rfl, none, 0, rfl, World.ownsRow_nil _ _ _ _, Fr.refl _ _⟩
    case round =>
      obtain ⟨k, hk, rfl, la, lc, rfl, hh⟩ := hrel
      have hr := (unhide HA).fr L (unhide hh).2
      have k49 := fun j => cell_of_row wr w1.heap.size j _ 49 (0, 0) (((unhide hh).2.same _ hw1 (fun h => h)).trans (unhide G49))
      by_cases hlt : k < rf.length
      · have hz : rf[k]? = some (rf.getD k 0) := by rw [List.getD_eq_getElem?_getD, List.getElem?_eq_getElem hlt]; rfl
        obtain ⟨z, hzz⟩ : ∃ z, rf.getD k 0 = z := ⟨_, rfl⟩
        rw [hzz] at hz
        obtain ⟨z0, z8⟩ := unhide HF8 z (List.mem_of_getElem? hz)
        rcases unhide HCL with h0 | ⟨q, off, rfl, hql, hcc⟩
        · rw [h0] at hlt; simp at hlt
        have kz := ((unhide hh).2.cell q (off + k) (by omega) (fun h => h)).trans (hcc k hlt)
        rw [hzz] at kz
        have kw := (hr.cell (17 + z.toNat) (by omega)).trans (by rw [limg_wat _ _ _ _ _ _ (by omega)])
        change wr.cell? _ = some (.bool (s.wat z.toNat)) at kw
        have k2 := (hr.cell 2 (by omega)).trans (by rw [limg_pv _ _ _ _ _ _ (by omega), unhide P1 2 (by omega), hfv])
        have htk := filt_take rf (fun z => s.wat z.toNat) k z hz
        have hle : ((rf.take k).filter fun z => s.wat z.toNat).length ≤ 8 := by have := List.length_filter_le (fun z => s.wat z.toNat) (rf.take k); rw [List.length_take] at this; omega
        have hk0 : (0 : Int) ≤ (k : Int) := by omega
        have hk1 : (k : Int) < (rf.length : Int) := by omega
        have hqw : q < wr.heap.size := by have := (unhide hh).2.size; omega
        have HTK := hide htk
        have HH := hide (unhide hh)
        by_cases hwz : s.wat z.toNat = true
        · have hzf : z < (p.fn : Int) := by have := (unhide HQ).2.wat z.toNat hwz; omega
          rw [hwz] at kw
          rw [if_pos hwz] at htk
          have HTK := hide htk
          have nb := heap_alloc_new wr (.cells #[.int .i64 z] 3)
          have NB := hide nb
          have RA := hide (show (wr.alloc (.cells #[.int .i64 z] 3)).ownsRow W1.heap.size 3 1 (.slice la ((rf.take k).filter fun z => s.wat z.toNat).length lc) ((rf.take k).filter fun z => s.wat z.toNat).length (((rf.take k).filter fun z => s.wat z.toNat).map fun z => Value.int .i64 z) from World.ownsRow.alloc (unhide HH).1 (.cells #[.int .i64 z] 3))
          have hwz2 : W1.heap.size ≤ (wr.alloc (.cells #[.int .i64 z] 3)).heap.size := by have := (unhide HH).2.size; simp; omega
          clear hr hh htk hz hzz hcc nb hwz
          go_wp2_with (at_builtin; refine wpList_grow elemI (by omega) (by omega) (B := W1.heap.size) (v := .slice la ((rf.take k).filter fun z => s.wat z.toNat).length lc) (n := ((rf.take k).filter fun z => s.wat z.toNat).length) (m := 1) (xs := ((rf.take k).filter fun z => s.wat z.toNat).map fun z => Value.int .i64 z) (news := [.int .i64 z]) rfl (.tmp 44) (.tmp 46) rfl (ad := ⟨wr.heap.size, 0, none⟩) (cap := 1) rfl rfl (unhide RA) rfl (World.news_of_block (unhide NB)) (by simp [Value.oneCell']) (by omega) (by omega) hwz2 ?_; intro v3 w3 o3 f3 sh3; obtain ⟨av, cv, rfl⟩ := sh3; have O3 := hide o3; have F3 := hide f3; clear o3 f3)
          go_roundw
          case rel =>
            refine ⟨k + 1, by omega, by go_num, av, cv, ?_⟩
            rw [unhide HTK, List.length_append]
            refine ⟨rfl, ?_, Fr.more ((unhide HH).2.alloc _) (unhide F3) (fun q hq => (World.ownsRow.lt (unhide HH).1 q hq).1)⟩
            have := unhide O3
            rw [← List.map_singleton (f := fun z => Value.int .i64 z), ← List.map_append] at this
            unfold OwnI
            rw [List.length_append]
            exact this
          case measure => simp [intOf]; omega
        · have hwf : s.wat z.toNat = false := by simpa using hwz
          rw [hwf] at kw
          rw [if_neg hwz, List.append_nil] at htk
          have HTK := hide htk
          clear hr hh htk hz hzz hcc hwz
          by_cases hzf : z < (p.fn : Int)
          · go_wp2
            go_roundw
            case rel =>
              refine ⟨k + 1, by omega, by go_num, la, lc, ?_⟩
              rw [unhide HTK]
              exact ⟨rfl, HH⟩
            case measure => simp [intOf]; omega
          · go_wp2
            go_roundw
            case rel =>
              refine ⟨k + 1, by omega, by go_num, la, lc, ?_⟩
              rw [unhide HTK]
              exact ⟨rfl, HH⟩
            case measure => simp [intOf]; omega
      · have hkl : k = rf.length := by omega
        subst hkl
        have hk1 : ¬ (rf.length : Int) < (rf.length : Int) := by omega
        rw [List.take_length] at hh ⊢
        have hLl : (rf.filter fun z => s.wat z.toNat).length ≤ 8 := by have := List.length_filter_le (fun z => s.wat z.toNat) rf; omega
        have hwW : w.heap.size ≤ W1.heap.size := (unhide FA).size
        have r0 : BaRel SQ ask B S w b pv tn sq p (N + 8) tot 8 (.slice la (rf.filter fun z => s.wat z.toNat).length lc) wr :=
          ⟨S1, pv1, vt, va, T1, A, _, x', N, _, hr, unhide P1, (unhide FA).trans ((unhide hh).2.wide _), rowLow (unhide hh).1 hwW, fun q hq hS => by
            have h1 := (World.ownsRow.lt (unhide hh).1 q hq).1
            have h2 := ((unhide HA).bound q hS).2
            omega, unhide HTOT, ⟨(unhide HQ).1.of rfl rfl rfl rfl, (unhide HQ).2.of rfl rfl rfl⟩, by omega, fun z hz => unhide HF8 z (List.mem_filter.1 hz).1, hLl, hLl⟩
        have R0 := hide r0
        clear hr hh r0 hLl hwW HTOT HF8 HCL
        go_wp2
        clear k49
        go_loopg [3] 8 (fun k u wr => BaRel SQ ask B S w b pv tn sq p (N + 8) tot k u wr)
        case atStart => exact unhide R0
        case round =>
          obtain ⟨S', pv', vt', va', T', A', s', x2, N', l, q1, q0, q2, qo, qd, q3, q5, q6, q8, q7, q9⟩ := hrel
          obtain ⟨la', lc', rfl⟩ := ownI_slice qo
          have c27 := (q1.cell 27 (by omega)).trans (by rw [limg_fin])
          by_cases hl0 : l = []
          · have e := q3.symm.trans (wkM_stop _ gk l s' x2 (.inl hl0))
            have hlen : l.length = 0 := by rw [hl0]; rfl
            have Q1 := hide q1
            have Q2 := hide q2
            have Q0 := hide q0
            have E := hide e
            clear q1 q2 q3 q5 q0 qo qd q8 e
            rw [hlen]
            go_wp2
            go_end0
            rw [unhide E]
            exact ⟨rfl, S', pv', vt', va', T', A', unhide Q1, unhide Q0, unhide Q2⟩
          · have hlp : 0 < l.length := List.length_pos_iff.2 hl0
            have hlp' : (0 : Int) < (l.length : Int) := by omega
            by_cases hfi : s'.fin = 0
            · have hfb : (s'.fin == 0) = true := by simpa using hfi
              obtain ⟨k', rfl⟩ : ∃ k', gk = k' + 1 := ⟨gk - 1, by omega⟩
              by_cases h1 : l.length = 1
              · obtain ⟨z, rfl⟩ : ∃ z, l = [z] := List.length_eq_one_iff.1 h1
                have hpk : pk ask [z].length s' x2 = (0, true, s', x2) := by unfold pk; rfl
                have hst := wkM_step (ask := ask) (gF ask p) k' [z] s' x2 hl0 hfi hpk
                have E := hide (show tot = wkM ask (gF ask p) k' [] (wk1 (gF ask p) z s' x2).1 (wk1 (gF ask p) z s' x2).2 from q3.symm.trans hst)
                have hcp : 1 ≤ lc' := by
                  rcases qo.2 with ⟨e1, e2⟩ | ⟨g, cp, cur, e1, _, _, e2, _⟩
                  · have e2' : [z].length = 0 := e2; simp at e2'
                  · injection e1 with _ _ e1; rw [e1]; exact e2
                obtain ⟨g, cg, hv, hg1, hg2, hcell⟩ := row_cell qo hlp
                injection hv with hv hv2 hv3
                subst hv hv3
                clear hv2
                have kz : wr.cell? ⟨g, 0, none⟩ = some (.int .i64 z) := hcell 0 _ rfl
                have nw1 : ∀ j u, (([z].take 0).map fun z => Value.int .i64 z)[j]? = some u → wr.cell? (Addr.add ⟨g, 0, none⟩ j) = some u := fun j u hj => by simp at hj
                have nw2 : ∀ j u, (([z].drop (0 + 1)).map fun z => Value.int .i64 z)[j]? = some u → wr.cell? ⟨g, 1 + j, none⟩ = some u := fun j u hj => by simp at hj
                obtain ⟨hz0, hz8⟩ := q8 z (by simp)
                have H4 := hide q1
                have P4 := hide q0
                have FQ := hide q2
                have Q5 := hide q5
                have NW1 := hide nw1
                have NW2 := hide nw2
                have HGL := hide hg2
                have hk2 : (1 : Int) ≤ (lc' : Int) := by omega
                have hk3 : (0 : Int) ≤ (lc' : Int) := by omega
                have hl1 : [z].length = 1 := rfl
                clear q1 q0 q2 q3 q5 qo qd q8 hst hpk hcell nw1 nw2 h1 hlp hlp' hl0
                rw [hl1]
                by_cases hlc : lc' = 1
                · subst hlc
                  by_cases hwz : s'.wat z.toNat = true
                  · have HWZ := hide hwz
                    clear hwz
                    as_aux_lemma =>
                      have hzf : z < (p.fn : Int) := by have := (unhide Q5).2.wat z.toNat (unhide HWZ); omega
                      obtain ⟨ua, uc, hut⟩ := row_shape (unhide H4).row
                      subst hut
                      rcases unhide HFF with hz00 | ⟨tb, toff, rfl, htb⟩
                      · omega
                      obtain ⟨vi, hvi, hops⟩ := htb z.toNat (by omega)
                      have htbl : tb < w0.heap.size := World.block_lt_of_cell? _ _ hvi
                      have hln : s'.trace.length ≤ 100000000 := by have := (unhide Q5).1.trace; omega
                      have hq6 : RInv p (N' + 1) { s' with trace := s'.trace ++ [(2, z, 0)] } := told_rinv (s := s') (unhide Q5)
                      have hq7 := hM_rinv hs (ok.fr z.toNat (by omega)) { s' with trace := s'.trace ++ [(2, z, 0)] } x2 hq6
                      have HQ6 := hide hq6
                      have HQ7 := hide hq7
                      have HOPS := hide hops
                      have HVI := hide hvi
                      clear hq6 hq7 hops hvi htb
                      go_wp2_with (at_builtin; first | (refine wpList_grow0 elemI (by omega) (by omega) (B := wr.heap.size) (v := .slice none 0 0) (n := 0) (m := 0) (xs := []) (news := ([z].take 0).map fun z => Value.int .i64 z) rfl (.tmp 75) (.tmp 78) rfl (ad := ⟨g, 0, none⟩) (cap := 1) rfl rfl (World.ownsRow_nil _ _ _ _) (by rw [List.length_map, List.length_take]; simp; try omega) (unhide NW1) (fun u hu => (by obtain ⟨_, _, rfl⟩ := List.mem_map.1 hu; rfl)) (by omega) (Nat.le_refl _) ?_; intro v5 w5 o5 f5 sh5; rw [Nat.zero_add, List.nil_append] at o5; rw [Nat.zero_add] at sh5; obtain ⟨a5, c5, rfl⟩ := sh5; have f5' : Fr (fun _ => False) wr w5 (fun _ => False) := ⟨f5.os, f5.tape, f5.output, f5.size, fun k hk _ => f5.same k hk (by simp [own, Value.ownBlock]), fun _ _ h => h⟩; have O5 := hide o5; have F5 := hide f5'; have hz5 := f5.size; have NW2' := hide (fun j u hj => (f5'.cell g _ (unhide HGL) (fun h => h)).trans (unhide NW2 j u hj)); clear o5 f5 f5') | (refine wpList_grow0 elemI (by omega) (by omega) (B := wr.heap.size) (v := .slice a5 0 c5) (n := 0) (m := 0) (xs := ([z].take 0).map fun z => Value.int .i64 z) (news := ([z].drop (0 + 1)).map fun z => Value.int .i64 z) rfl (.tmp 80) (.tmp 84) rfl (ad := ⟨g, 0, none⟩) (cap := 0) rfl rfl (unhide O5) (by rw [List.length_map, List.length_drop]; simp) (fun j u hj => absurd hj (by rw [List.drop_eq_nil_of_le (by simp)]; simp)) (fun u hu => (by obtain ⟨_, _, rfl⟩ := List.mem_map.1 hu; rfl)) (by omega) hz5 ?_; intro v6 w6 o6 f6 sh6; rw [Nat.add_zero] at o6 sh6; obtain ⟨a6, c6, rfl⟩ := sh6; have f46 : Fr (fun _ => False) wr w6 (fun _ => False) := Fr.more (unhide F5) f6 (fun q hq => (World.ownsRow.lt (unhide O5) q hq).1); have o6' : OwnI w6 wr.heap.size (.slice a6 0 c6) ([z].eraseIdx 0) := (by unfold OwnI; exact o6); have h6 := (unhide H4).fr L f46; have kw6 := (h6.cell (17 + z.toNat) (by omega)).trans (by rw [limg_wat _ _ _ _ _ _ (by omega)]); change w6.cell? _ = some (.bool (s'.wat z.toNat)) at kw6; rw [unhide HWZ] at kw6; have k26 := (h6.cell 26 (by omega)).trans (by rw [limg_trace]); change w6.cell? _ = some (.slice ua s'.trace.length uc) at k26; have nb := heap_alloc_new w6 (.cells #[.int .i64 2, .int .i64 z, .int .i64 0] 72); have h6a := h6.alloc L (.cells #[.int .i64 2, .int .i64 z, .int .i64 0] 72); have hB6 := h6a.below; have hb6 := h6.blt; have O6 := hide o6'; have F46 := hide f46; have NB := hide nb; have H6A := hide h6a; clear nb h6a; clear o6 o6' f6 f46 h6) | (refine wpList_grown elemE (by omega) (by omega) (B := B) (v := .slice ua s'.trace.length uc) (n := s'.trace.length) (m := 1) (xs := flatE s'.trace) (news := [.int .i64 2, .int .i64 z, .int .i64 0]) rfl (.tmp 96) (.tmp 99) rfl (ad := ⟨w6.heap.size, 0, none⟩) (cap := 1) rfl rfl (by exact (unhide H6A).row) rfl (World.news_of_block (unhide NB)) (by simp [Value.oneCell']) (by omega) (by omega) hB6 ?_; intro v7 w7 o7 f7 sh7; obtain ⟨av, cv, rfl⟩ := sh7; have c7 := (unhide H6A).cells.block (f7.same b (unhide H6A).blt (fun e => ((unhide H6A).inV b e).2.1 rfl)); have k26' := (c7 26 (by omega)).1.trans (by rw [limg_trace]); have z26 := (c7 26 (by omega)).2; have FIN := hide ((unhide H6A).setTrace L (o := (2, z, 0)) o7 f7); have kf2 := ((unhide FIN).1.cell 2 (by omega)).trans (by rw [limg_pv _ _ _ _ _ _ (by omega), unhide P4 2 (by omega), hfv]); have hbel7 : Below w0.heap.size w0 (w7.setCell ⟨b, 26, none⟩ (.slice av (s'.trace.length + 1) cv)) := (unhide HBEL).trans (unhide HBE ▸ ((unhide FQ).trans (((unhide F46).alloc (.cells #[.int .i64 2, .int .i64 z, .int .i64 0] 72)).wide _ |>.trans (unhide FIN).2)).below (unhide HSB) (unhide HBW)); have kvi := (bcel hbel7 tb (toff + z.toNat) htbl).trans (unhide HVI); have htw7 : tb < (w7.setCell ⟨b, 26, none⟩ (.slice av (s'.trace.length + 1) cv)).heap.size := Nat.lt_of_lt_of_le htbl hbel7.size; have HBEL7 := hide hbel7; clear o7 f7 c7 hbel7))
                      go_at_call 125
                      refine (handlerQ_any L K hm hm4 hs.clock (unhide HBE) (unhide HBEL7) (unhide FIN).1 (unhide HOPS) (ok.fl z.toNat (by omega)) ok.tn ok.fn (ok.fr z.toNat (by omega)) (unhide HQ6).1 (by omega)).mono ?_
                      rintro e w8 ⟨rfl, S8, pv8, vt8, va8, T8, A8, h8, p8, f8⟩
                      have f68 := ((unhide FIN).2.trans f8)
                      have hap : ∀ q, own (.slice a6 0 c6) q → ¬ S' q := fun q hq hS => by have h1 := (World.ownsRow.lt (unhide O6) q hq).1; have h2 := ((unhide H4).bound q hS).2; omega
                      have hf6s := ((Fr.refl S' w6).alloc (.cells #[.int .i64 2, .int .i64 z, .int .i64 0] 72)).trans f68
                      have o8 : OwnI w8 wr.heap.size (.slice a6 0 c6) ([z].eraseIdx 0) := ownsRow_of_block (unhide O6) (fun q hq => hf6s.same q (World.ownsRow.lt (unhide O6) q hq).2 (hap q hq))
                      have d8 : ∀ q, own (.slice a6 0 c6) q → ¬ S8 q := fun q hq hS => hap q hq (hf6s.old q (World.ownsRow.lt (unhide O6) q hq).2 hS)
                      have H8 := hide h8
                      have P8 := hide p8
                      have O8 := hide o8
                      have D8 := hide d8
                      have F8 := hide ((unhide FQ).trans (((unhide F46).wide _).trans hf6s))
                      clear h8 p8 f8 f68 hap hf6s o8 d8 kvi kf2 k26' z26 htw7
                      go_wp2
                      go_roundg k'
                      case rel =>
                        have e9 := unhide E
                        rw [show wk1 (gF ask p) z s' x2 = gF ask p z { s' with trace := s'.trace ++ [(2, z, 0)] } x2 from by unfold wk1; rw [if_pos (by exact unhide HWZ)]] at e9
                        exact ⟨S8, pv8, vt8, va8, T8, A8, _, _, N' + 1, [], unhide H8, fun i hi => (unhide P8 i hi).trans (unhide P4 i hi), unhide F8, rowLow (unhide O8) (unhide FQ).size, unhide D8, e9.symm, unhide HQ7, by simp at q6 ⊢; omega, fun y hy => absurd hy (by simp), by simp, by simp⟩
                      case measure => omega
                  · have hwf : s'.wat z.toNat = false := by simpa using hwz
                    have HWZ := hide hwf
                    clear hwz hwf
                    as_aux_lemma =>
                      go_wp2_with (at_builtin; first | (refine wpList_grow0 elemI (by omega) (by omega) (B := wr.heap.size) (v := .slice none 0 0) (n := 0) (m := 0) (xs := []) (news := ([z].take 0).map fun z => Value.int .i64 z) rfl (.tmp 75) (.tmp 78) rfl (ad := ⟨g, 0, none⟩) (cap := 1) rfl rfl (World.ownsRow_nil _ _ _ _) (by rw [List.length_map, List.length_take]; simp; try omega) (unhide NW1) (fun u hu => (by obtain ⟨_, _, rfl⟩ := List.mem_map.1 hu; rfl)) (by omega) (Nat.le_refl _) ?_; intro v5 w5 o5 f5 sh5; rw [Nat.zero_add, List.nil_append] at o5; rw [Nat.zero_add] at sh5; obtain ⟨a5, c5, rfl⟩ := sh5; have f5' : Fr (fun _ => False) wr w5 (fun _ => False) := ⟨f5.os, f5.tape, f5.output, f5.size, fun k hk _ => f5.same k hk (by simp [own, Value.ownBlock]), fun _ _ h => h⟩; have O5 := hide o5; have F5 := hide f5'; have hz5 := f5.size; have NW2' := hide (fun j u hj => (f5'.cell g _ (unhide HGL) (fun h => h)).trans (unhide NW2 j u hj)); clear o5 f5 f5') | (refine wpList_grow0 elemI (by omega) (by omega) (B := wr.heap.size) (v := .slice a5 0 c5) (n := 0) (m := 0) (xs := ([z].take 0).map fun z => Value.int .i64 z) (news := ([z].drop (0 + 1)).map fun z => Value.int .i64 z) rfl (.tmp 80) (.tmp 84) rfl (ad := ⟨g, 0, none⟩) (cap := 0) rfl rfl (unhide O5) (by rw [List.length_map, List.length_drop]; simp) (fun j u hj => absurd hj (by rw [List.drop_eq_nil_of_le (by simp)]; simp)) (fun u hu => (by obtain ⟨_, _, rfl⟩ := List.mem_map.1 hu; rfl)) (by omega) hz5 ?_; intro v6 w6 o6 f6 sh6; rw [Nat.add_zero] at o6 sh6; obtain ⟨a6, c6, rfl⟩ := sh6; have f46 : Fr (fun _ => False) wr w6 (fun _ => False) := Fr.more (unhide F5) f6 (fun q hq => (World.ownsRow.lt (unhide O5) q hq).1); have o6' : OwnI w6 wr.heap.size (.slice a6 0 c6) ([z].eraseIdx 0) := (by unfold OwnI; exact o6); have h6 := (unhide H4).fr L f46; have kw6 := (h6.cell (17 + z.toNat) (by omega)).trans (by rw [limg_wat _ _ _ _ _ _ (by omega)]); change w6.cell? _ = some (.bool (s'.wat z.toNat)) at kw6; rw [unhide HWZ] at kw6;  have O6 := hide o6'; have F46 := hide f46; have H6 := hide h6; clear o6 o6' f6 f46 h6))
                      have hap : ∀ q, own (.slice a6 0 c6) q → ¬ S' q := fun q hq hS => by have h1 := (World.ownsRow.lt (unhide O6) q hq).1; have h2 := ((unhide H4).bound q hS).2; omega
                      go_roundg k'
                      case rel =>
                        have e9 := unhide E
                        rw [show wk1 (gF ask p) z s' x2 = (s', x2) from by unfold wk1; rw [if_neg (by rw [show PS.wat s' z.toNat = false from unhide HWZ]; simp)]] at e9
                        exact ⟨S', pv', vt', va', T', A', _, _, N', [], unhide H6, unhide P4, (unhide FQ).trans ((unhide F46).wide _), rowLow (unhide O6) (unhide FQ).size, hap, e9.symm, unhide Q5, by simp at q6 ⊢; omega, fun y hy => absurd hy (by simp), by simp, by simp⟩
                      case measure => omega
                · skip
                  by_cases hwz : s'.wat z.toNat = true
                  · have HWZ := hide hwz
                    clear hwz
                    as_aux_lemma =>
                      have hzf : z < (p.fn : Int) := by have := (unhide Q5).2.wat z.toNat (unhide HWZ); omega
                      obtain ⟨ua, uc, hut⟩ := row_shape (unhide H4).row
                      subst hut
                      rcases unhide HFF with hz00 | ⟨tb, toff, rfl, htb⟩
                      · omega
                      obtain ⟨vi, hvi, hops⟩ := htb z.toNat (by omega)
                      have htbl : tb < w0.heap.size := World.block_lt_of_cell? _ _ hvi
                      have hln : s'.trace.length ≤ 100000000 := by have := (unhide Q5).1.trace; omega
                      have hq6 : RInv p (N' + 1) { s' with trace := s'.trace ++ [(2, z, 0)] } := told_rinv (s := s') (unhide Q5)
                      have hq7 := hM_rinv hs (ok.fr z.toNat (by omega)) { s' with trace := s'.trace ++ [(2, z, 0)] } x2 hq6
                      have HQ6 := hide hq6
                      have HQ7 := hide hq7
                      have HOPS := hide hops
                      have HVI := hide hvi
                      clear hq6 hq7 hops hvi htb
                      go_wp2_with (at_builtin; first | (refine wpList_grow0 elemI (by omega) (by omega) (B := wr.heap.size) (v := .slice none 0 0) (n := 0) (m := 0) (xs := []) (news := ([z].take 0).map fun z => Value.int .i64 z) rfl (.tmp 75) (.tmp 78) rfl (ad := ⟨g, 0, none⟩) (cap := lc') rfl rfl (World.ownsRow_nil _ _ _ _) (by rw [List.length_map, List.length_take]; simp; try omega) (unhide NW1) (fun u hu => (by obtain ⟨_, _, rfl⟩ := List.mem_map.1 hu; rfl)) (by omega) (Nat.le_refl _) ?_; intro v5 w5 o5 f5 sh5; rw [Nat.zero_add, List.nil_append] at o5; rw [Nat.zero_add] at sh5; obtain ⟨a5, c5, rfl⟩ := sh5; have f5' : Fr (fun _ => False) wr w5 (fun _ => False) := ⟨f5.os, f5.tape, f5.output, f5.size, fun k hk _ => f5.same k hk (by simp [own, Value.ownBlock]), fun _ _ h => h⟩; have O5 := hide o5; have F5 := hide f5'; have hz5 := f5.size; have NW2' := hide (fun j u hj => (f5'.cell g _ (unhide HGL) (fun h => h)).trans (unhide NW2 j u hj)); clear o5 f5 f5') | (refine wpList_grow0 elemI (by omega) (by omega) (B := wr.heap.size) (v := .slice a5 0 c5) (n := 0) (m := 0) (xs := ([z].take 0).map fun z => Value.int .i64 z) (news := ([z].drop (0 + 1)).map fun z => Value.int .i64 z) rfl (.tmp 80) (.tmp 84) rfl (ad := ⟨g, 1, none⟩) (cap := (lc' - 1)) rfl rfl (unhide O5) (by rw [List.length_map, List.length_drop]; simp) (fun j u hj => (by rw [addr_add]; exact unhide NW2' j u hj)) (fun u hu => (by obtain ⟨_, _, rfl⟩ := List.mem_map.1 hu; rfl)) (by omega) hz5 ?_; intro v6 w6 o6 f6 sh6; rw [Nat.add_zero] at o6 sh6; obtain ⟨a6, c6, rfl⟩ := sh6; have f46 : Fr (fun _ => False) wr w6 (fun _ => False) := Fr.more (unhide F5) f6 (fun q hq => (World.ownsRow.lt (unhide O5) q hq).1); have o6' : OwnI w6 wr.heap.size (.slice a6 0 c6) ([z].eraseIdx 0) := (by unfold OwnI; exact o6); have h6 := (unhide H4).fr L f46; have kw6 := (h6.cell (17 + z.toNat) (by omega)).trans (by rw [limg_wat _ _ _ _ _ _ (by omega)]); change w6.cell? _ = some (.bool (s'.wat z.toNat)) at kw6; rw [unhide HWZ] at kw6; have k26 := (h6.cell 26 (by omega)).trans (by rw [limg_trace]); change w6.cell? _ = some (.slice ua s'.trace.length uc) at k26; have nb := heap_alloc_new w6 (.cells #[.int .i64 2, .int .i64 z, .int .i64 0] 72); have h6a := h6.alloc L (.cells #[.int .i64 2, .int .i64 z, .int .i64 0] 72); have hB6 := h6a.below; have hb6 := h6.blt; have O6 := hide o6'; have F46 := hide f46; have NB := hide nb; have H6A := hide h6a; clear nb h6a; clear o6 o6' f6 f46 h6) | (refine wpList_grown elemE (by omega) (by omega) (B := B) (v := .slice ua s'.trace.length uc) (n := s'.trace.length) (m := 1) (xs := flatE s'.trace) (news := [.int .i64 2, .int .i64 z, .int .i64 0]) rfl (.tmp 96) (.tmp 99) rfl (ad := ⟨w6.heap.size, 0, none⟩) (cap := 1) rfl rfl (by exact (unhide H6A).row) rfl (World.news_of_block (unhide NB)) (by simp [Value.oneCell']) (by omega) (by omega) hB6 ?_; intro v7 w7 o7 f7 sh7; obtain ⟨av, cv, rfl⟩ := sh7; have c7 := (unhide H6A).cells.block (f7.same b (unhide H6A).blt (fun e => ((unhide H6A).inV b e).2.1 rfl)); have k26' := (c7 26 (by omega)).1.trans (by rw [limg_trace]); have z26 := (c7 26 (by omega)).2; have FIN := hide ((unhide H6A).setTrace L (o := (2, z, 0)) o7 f7); have kf2 := ((unhide FIN).1.cell 2 (by omega)).trans (by rw [limg_pv _ _ _ _ _ _ (by omega), unhide P4 2 (by omega), hfv]); have hbel7 : Below w0.heap.size w0 (w7.setCell ⟨b, 26, none⟩ (.slice av (s'.trace.length + 1) cv)) := (unhide HBEL).trans (unhide HBE ▸ ((unhide FQ).trans (((unhide F46).alloc (.cells #[.int .i64 2, .int .i64 z, .int .i64 0] 72)).wide _ |>.trans (unhide FIN).2)).below (unhide HSB) (unhide HBW)); have kvi := (bcel hbel7 tb (toff + z.toNat) htbl).trans (unhide HVI); have htw7 : tb < (w7.setCell ⟨b, 26, none⟩ (.slice av (s'.trace.length + 1) cv)).heap.size := Nat.lt_of_lt_of_le htbl hbel7.size; have HBEL7 := hide hbel7; clear o7 f7 c7 hbel7))
                      go_at_call 125
                      refine (handlerQ_any L K hm hm4 hs.clock (unhide HBE) (unhide HBEL7) (unhide FIN).1 (unhide HOPS) (ok.fl z.toNat (by omega)) ok.tn ok.fn (ok.fr z.toNat (by omega)) (unhide HQ6).1 (by omega)).mono ?_
                      rintro e w8 ⟨rfl, S8, pv8, vt8, va8, T8, A8, h8, p8, f8⟩
                      have f68 := ((unhide FIN).2.trans f8)
                      have hap : ∀ q, own (.slice a6 0 c6) q → ¬ S' q := fun q hq hS => by have h1 := (World.ownsRow.lt (unhide O6) q hq).1; have h2 := ((unhide H4).bound q hS).2; omega
                      have hf6s := ((Fr.refl S' w6).alloc (.cells #[.int .i64 2, .int .i64 z, .int .i64 0] 72)).trans f68
                      have o8 : OwnI w8 wr.heap.size (.slice a6 0 c6) ([z].eraseIdx 0) := ownsRow_of_block (unhide O6) (fun q hq => hf6s.same q (World.ownsRow.lt (unhide O6) q hq).2 (hap q hq))
                      have d8 : ∀ q, own (.slice a6 0 c6) q → ¬ S8 q := fun q hq hS => hap q hq (hf6s.old q (World.ownsRow.lt (unhide O6) q hq).2 hS)
                      have H8 := hide h8
                      have P8 := hide p8
                      have O8 := hide o8
                      have D8 := hide d8
                      have F8 := hide ((unhide FQ).trans (((unhide F46).wide _).trans hf6s))
                      clear h8 p8 f8 f68 hap hf6s o8 d8 kvi kf2 k26' z26 htw7
                      go_wp2
                      go_roundg k'
                      case rel =>
                        have e9 := unhide E
                        rw [show wk1 (gF ask p) z s' x2 = gF ask p z { s' with trace := s'.trace ++ [(2, z, 0)] } x2 from by unfold wk1; rw [if_pos (by exact unhide HWZ)]] at e9
                        exact ⟨S8, pv8, vt8, va8, T8, A8, _, _, N' + 1, [], unhide H8, fun i hi => (unhide P8 i hi).trans (unhide P4 i hi), unhide F8, rowLow (unhide O8) (unhide FQ).size, unhide D8, e9.symm, unhide HQ7, by simp at q6 ⊢; omega, fun y hy => absurd hy (by simp), by simp, by simp⟩
                      case measure => omega
                  · have hwf : s'.wat z.toNat = false := by simpa using hwz
                    have HWZ := hide hwf
                    clear hwz hwf
                    as_aux_lemma =>
                      go_wp2_with (at_builtin; first | (refine wpList_grow0 elemI (by omega) (by omega) (B := wr.heap.size) (v := .slice none 0 0) (n := 0) (m := 0) (xs := []) (news := ([z].take 0).map fun z => Value.int .i64 z) rfl (.tmp 75) (.tmp 78) rfl (ad := ⟨g, 0, none⟩) (cap := lc') rfl rfl (World.ownsRow_nil _ _ _ _) (by rw [List.length_map, List.length_take]; simp; try omega) (unhide NW1) (fun u hu => (by obtain ⟨_, _, rfl⟩ := List.mem_map.1 hu; rfl)) (by omega) (Nat.le_refl _) ?_; intro v5 w5 o5 f5 sh5; rw [Nat.zero_add, List.nil_append] at o5; rw [Nat.zero_add] at sh5; obtain ⟨a5, c5, rfl⟩ := sh5; have f5' : Fr (fun _ => False) wr w5 (fun _ => False) := ⟨f5.os, f5.tape, f5.output, f5.size, fun k hk _ => f5.same k hk (by simp [own, Value.ownBlock]), fun _ _ h => h⟩; have O5 := hide o5; have F5 := hide f5'; have hz5 := f5.size; have NW2' := hide (fun j u hj => (f5'.cell g _ (unhide HGL) (fun h => h)).trans (unhide NW2 j u hj)); clear o5 f5 f5') | (refine wpList_grow0 elemI (by omega) (by omega) (B := wr.heap.size) (v := .slice a5 0 c5) (n := 0) (m := 0) (xs := ([z].take 0).map fun z => Value.int .i64 z) (news := ([z].drop (0 + 1)).map fun z => Value.int .i64 z) rfl (.tmp 80) (.tmp 84) rfl (ad := ⟨g, 1, none⟩) (cap := (lc' - 1)) rfl rfl (unhide O5) (by rw [List.length_map, List.length_drop]; simp) (fun j u hj => (by rw [addr_add]; exact unhide NW2' j u hj)) (fun u hu => (by obtain ⟨_, _, rfl⟩ := List.mem_map.1 hu; rfl)) (by omega) hz5 ?_; intro v6 w6 o6 f6 sh6; rw [Nat.add_zero] at o6 sh6; obtain ⟨a6, c6, rfl⟩ := sh6; have f46 : Fr (fun _ => False) wr w6 (fun _ => False) := Fr.more (unhide F5) f6 (fun q hq => (World.ownsRow.lt (unhide O5) q hq).1); have o6' : OwnI w6 wr.heap.size (.slice a6 0 c6) ([z].eraseIdx 0) := (by unfold OwnI; exact o6); have h6 := (unhide H4).fr L f46; have kw6 := (h6.cell (17 + z.toNat) (by omega)).trans (by rw [limg_wat _ _ _ _ _ _ (by omega)]); change w6.cell? _ = some (.bool (s'.wat z.toNat)) at kw6; rw [unhide HWZ] at kw6;  have O6 := hide o6'; have F46 := hide f46; have H6 := hide h6; clear o6 o6' f6 f46 h6))
                      have hap : ∀ q, own (.slice a6 0 c6) q → ¬ S' q := fun q hq hS => by have h1 := (World.ownsRow.lt (unhide O6) q hq).1; have h2 := ((unhide H4).bound q hS).2; omega
                      go_roundg k'
                      case rel =>
                        have e9 := unhide E
                        rw [show wk1 (gF ask p) z s' x2 = (s', x2) from by unfold wk1; rw [if_neg (by rw [show PS.wat s' z.toNat = false from unhide HWZ]; simp)]] at e9
                        exact ⟨S', pv', vt', va', T', A', _, _, N', [], unhide H6, unhide P4, (unhide FQ).trans ((unhide F46).wide _), rowLow (unhide O6) (unhide FQ).size, hap, e9.symm, unhide Q5, by simp at q6 ⊢; omega, fun y hy => absurd hy (by simp), by simp, by simp⟩
                      case measure => omega
              · have h2 : 2 ≤ l.length := by omega
                have h2' : (1 : Int) < (l.length : Int) := by omega
                have hc3 := K.calls q1 hfi (hm3 l.length h2 q9)
                have hpk : pk ask l.length s' x2 = (if (ask x2 3 l.length).1.e = 0 then (ask x2 3 l.length).1.n else 0, decide ((ask x2 3 l.length).1.e = 0), hdS s' (ask x2 3 l.length).1, (ask x2 3 l.length).2) := by unfold pk; rw [if_neg h1]
                have hpl := hs.pick x2 l.length h2 q9
                have hst := wkM_step (ask := ask) (gF ask p) k' l s' x2 hl0 hfi hpk
                generalize ask x2 3 l.length = R3 at *
                obtain ⟨⟨r3k, r3o, r3n, r3f, r3e⟩, x4⟩ := R3
                dsimp only at hc3 hpl hst
                by_cases h3e : r3e = 0
                · have e3 : hearS s' ⟨r3k, r3o, r3n, r3f, r3e⟩ = { s' with heard := wrap64 (s'.heard + 1) } := by unfold hearS; rw [if_pos h3e]
                  have e4 : hdS s' ⟨r3k, r3o, r3n, r3f, r3e⟩ = { s' with heard := wrap64 (s'.heard + 1) } := by unfold hdS; rw [if_pos h3e]
                  obtain ⟨kk, hkk⟩ : ∃ kk : Nat, r3n = kk := ⟨r3n.toNat, by have := (hpl h3e).1; omega⟩
                  subst hkk
                  have hkl : kk < l.length := by have := (hpl h3e).2; omega
                  rw [e3] at hc3
                  rw [e4, decide_eq_true h3e, if_pos rfl, if_pos h3e, show ((kk : Int)).toNat = kk by omega] at hst
                  have E := hide (q3.symm.trans hst)
                  have HC3 := hide hc3
                  have Q0 := hide q0
                  have Q2 := hide q2
                  have QO := hide qo
                  have QD := hide qd
                  have Q5 := hide q5
                  have Q8 := hide q8
                  have HE3 := hide h3e
                  have hfield := field49
                  clear hc3 hst hpk hpl e3 e4 q1 q2 q0 q3 q5 qo qd q8 h1 h3e
                  go_wp2_with fail
                  go_at_call 141
                  refine (unhide HC3).mono ?_
                  rintro e w4 ⟨kd4, of4, n4, fa4, fl4, fc4, rfl, ⟨S4, pv4, T4, h4, p4, f4⟩, hn4⟩
                  obtain ⟨hn4, _⟩ := hn4 (unhide HE3)
                  subst hn4
                  have k27 : w4.cell? ⟨b, 27, none⟩ = some (.int .i64 0) := (h4.cell 27 (by omega)).trans (by rw [limg_fin]; exact congrArg (fun z => some (Value.int .i64 z)) hfi)
                  have o4 : OwnI w4 w.heap.size (.slice la' l.length lc') l := ownsRow_of_block (unhide QO) (fun q hq => f4.same q (World.ownsRow.lt (unhide QO) q hq).2 (unhide QD q hq))
                  have hcp : l.length ≤ lc' := by
                    rcases o4.2 with ⟨e1, e2⟩ | ⟨g, cp, cur, e1, _, _, e2, _⟩
                    · have e2' : l.length = 0 := e2; omega
                    · injection e1 with _ _ e1; rw [e1]; exact e2
                  obtain ⟨g, cg, hv, hg1, hg2, hcell⟩ := row_cell o4 hlp
                  injection hv with hv hv2 hv3
                  subst hv hv3
                  clear hv2
                  obtain ⟨z, hz⟩ : ∃ z, l[kk]? = some z := ⟨_, List.getElem?_eq_getElem hkl⟩
                  have kz : w4.cell? ⟨g, kk, none⟩ = some (.int .i64 z) := hcell kk _ (by rw [List.getElem?_map, hz]; rfl)
                  have nw1 : ∀ j u, ((l.take kk).map fun z => Value.int .i64 z)[j]? = some u → w4.cell? (Addr.add ⟨g, 0, none⟩ j) = some u := fun j u hj => by
                    rw [addr_add, Nat.zero_add]
                    refine hcell j u ?_
                    rw [List.getElem?_map] at hj ⊢
                    rw [List.getElem?_take] at hj
                    split at hj
                    · exact hj
                    · cases hj
                  have nw2 : ∀ j u, ((l.drop (kk + 1)).map fun z => Value.int .i64 z)[j]? = some u → w4.cell? ⟨g, kk + 1 + j, none⟩ = some u := fun j u hj => by
                    refine hcell _ u ?_
                    rw [List.getElem?_map, List.getElem?_drop] at hj
                    rw [List.getElem?_map]
                    exact hj
                  have H4 := hide h4
                  have P4 := hide (show ∀ i, i < 3 → pv4 i = pv i from fun i hi => (p4 i hi).trans (unhide Q0 i hi))
                  have F4 := hide f4
                  have NW1 := hide nw1
                  have NW2 := hide nw2
                  have HGL := hide hg2
                  have HZ := hide hz
                  have hk0 : (0 : Int) ≤ (kk : Int) := by omega
                  have hk1 : (kk : Int) < (l.length : Int) := by omega
                  have hk2 : (kk : Int) ≤ (lc' : Int) := by omega
                  have hk3 : (l.length : Int) ≤ (lc' : Int) := by omega
                  have hk4 : (kk : Int) + 1 ≤ (l.length : Int) := by omega
                  have hk5 : (0 : Int) ≤ (kk : Int) + 1 := by omega
                  have hgd : l.getD kk 0 = z := by rw [List.getD_eq_getElem?_getD, hz]; rfl
                  have E := hide (show tot = wkM ask (gF ask p) k' (l.eraseIdx kk) (wk1 (gF ask p) z { s' with heard := wrap64 (s'.heard + 1) } x4).1 (wk1 (gF ask p) z { s' with heard := wrap64 (s'.heard + 1) } x4).2 from by rw [← hgd]; exact unhide E)
                  obtain ⟨hz0, hz8⟩ := unhide Q8 z (List.mem_of_getElem? hz)
                  have FQ := hide ((unhide Q2).trans f4)
                  clear h4 p4 f4 HC3 o4 hcell nw1 nw2 hz hgd
                  by_cases hlc : lc' = kk + 1
                  · subst hlc
                    by_cases hwz : s'.wat z.toNat = true
                    · have HWZ := hide hwz
                      clear hwz
                      as_aux_lemma =>
                        have hzf : z < (p.fn : Int) := by have := (unhide Q5).2.wat z.toNat (unhide HWZ); omega
                        obtain ⟨ua, uc, hut⟩ := row_shape (unhide H4).row
                        subst hut
                        rcases unhide HFF with hz00 | ⟨tb, toff, rfl, htb⟩
                        · omega
                        obtain ⟨vi, hvi, hops⟩ := htb z.toNat (by omega)
                        have htbl : tb < w0.heap.size := World.block_lt_of_cell? _ _ hvi
                        have hln : s'.trace.length ≤ 100000000 := by have := (unhide Q5).1.trace; omega
                        have hq6 : RInv p (N' + 1) { { s' with heard := wrap64 (s'.heard + 1) } with trace := s'.trace ++ [(2, z, 0)] } := told_rinv (s := { s' with heard := wrap64 (s'.heard + 1) }) ⟨(unhide Q5).1.of rfl rfl rfl rfl, (unhide Q5).2.of rfl rfl rfl⟩
                        have hq7 := hM_rinv hs (ok.fr z.toNat (by omega)) { s' with heard := wrap64 (s'.heard + 1), trace := s'.trace ++ [(2, z, 0)] } x4 hq6
                        have HQ6 := hide hq6
                        have HQ7 := hide hq7
                        have HOPS := hide hops
                        have HVI := hide hvi
                        clear hq6 hq7 hops hvi htb
                        go_wp2_with (at_builtin; first | (refine wpList_grow0 elemI (by omega) (by omega) (B := w4.heap.size) (v := .slice none 0 0) (n := 0) (m := kk) (xs := []) (news := (l.take kk).map fun z => Value.int .i64 z) rfl (.tmp 75) (.tmp 78) rfl (ad := ⟨g, 0, none⟩) (cap := (kk + 1)) rfl rfl (World.ownsRow_nil _ _ _ _) (by rw [List.length_map, List.length_take]; simp; try omega) (unhide NW1) (fun u hu => (by obtain ⟨_, _, rfl⟩ := List.mem_map.1 hu; rfl)) (by omega) (Nat.le_refl _) ?_; intro v5 w5 o5 f5 sh5; rw [Nat.zero_add, List.nil_append] at o5; rw [Nat.zero_add] at sh5; obtain ⟨a5, c5, rfl⟩ := sh5; have f5' : Fr (fun _ => False) w4 w5 (fun _ => False) := ⟨f5.os, f5.tape, f5.output, f5.size, fun k hk _ => f5.same k hk (by simp [own, Value.ownBlock]), fun _ _ h => h⟩; have O5 := hide o5; have F5 := hide f5'; have hz5 := f5.size; have NW2' := hide (fun j u hj => (f5'.cell g _ (unhide HGL) (fun h => h)).trans (unhide NW2 j u hj)); clear o5 f5 f5') | (refine wpList_grow0 elemI (by omega) (by omega) (B := w4.heap.size) (v := .slice a5 kk c5) (n := kk) (m := 0) (xs := (l.take kk).map fun z => Value.int .i64 z) (news := (l.drop (kk + 1)).map fun z => Value.int .i64 z) rfl (.tmp 80) (.tmp 84) rfl (ad := ⟨g, 0, none⟩) (cap := 0) rfl rfl (unhide O5) (by rw [List.length_map, List.length_drop]; simp; try omega) (fun j u hj => absurd hj (by rw [List.drop_eq_nil_of_le (by omega)]; simp)) (fun u hu => (by obtain ⟨_, _, rfl⟩ := List.mem_map.1 hu; rfl)) (by omega) hz5 ?_; intro v6 w6 o6 f6 sh6; rw [Nat.add_zero] at o6 sh6; obtain ⟨a6, c6, rfl⟩ := sh6; have f46 : Fr (fun _ => False) w4 w6 (fun _ => False) := Fr.more (unhide F5) f6 (fun q hq => (World.ownsRow.lt (unhide O5) q hq).1); have o6' : OwnI w6 w4.heap.size (.slice a6 kk c6) (l.eraseIdx kk) := (by unfold OwnI; rw [List.eraseIdx_eq_take_drop_succ, List.map_append, show (l.take kk ++ l.drop (kk + 1)).length = kk by rw [List.length_append, List.length_take, List.length_drop]; omega]; exact o6); have h6 := (unhide H4).fr L f46; have kw6 := (h6.cell (17 + z.toNat) (by omega)).trans (by rw [limg_wat _ _ _ _ _ _ (by omega)]); change w6.cell? _ = some (.bool (s'.wat z.toNat)) at kw6; rw [unhide HWZ] at kw6; have k26 := (h6.cell 26 (by omega)).trans (by rw [limg_trace]); change w6.cell? _ = some (.slice ua s'.trace.length uc) at k26; have nb := heap_alloc_new w6 (.cells #[.int .i64 2, .int .i64 z, .int .i64 0] 72); have h6a := h6.alloc L (.cells #[.int .i64 2, .int .i64 z, .int .i64 0] 72); have hB6 := h6a.below; have hb6 := h6.blt; have O6 := hide o6'; have F46 := hide f46; have NB := hide nb; have H6A := hide h6a; clear nb h6a; clear o6 o6' f6 f46 h6) | (refine wpList_grown elemE (by omega) (by omega) (B := B) (v := .slice ua s'.trace.length uc) (n := s'.trace.length) (m := 1) (xs := flatE s'.trace) (news := [.int .i64 2, .int .i64 z, .int .i64 0]) rfl (.tmp 96) (.tmp 99) rfl (ad := ⟨w6.heap.size, 0, none⟩) (cap := 1) rfl rfl (by exact (unhide H6A).row) rfl (World.news_of_block (unhide NB)) (by simp [Value.oneCell']) (by omega) (by omega) hB6 ?_; intro v7 w7 o7 f7 sh7; obtain ⟨av, cv, rfl⟩ := sh7; have c7 := (unhide H6A).cells.block (f7.same b (unhide H6A).blt (fun e => ((unhide H6A).inV b e).2.1 rfl)); have k26' := (c7 26 (by omega)).1.trans (by rw [limg_trace]); have z26 := (c7 26 (by omega)).2; have FIN := hide ((unhide H6A).setTrace L (o := (2, z, 0)) o7 f7); have kf2 := ((unhide FIN).1.cell 2 (by omega)).trans (by rw [limg_pv _ _ _ _ _ _ (by omega), unhide P4 2 (by omega), hfv]); have hbel7 : Below w0.heap.size w0 (w7.setCell ⟨b, 26, none⟩ (.slice av (s'.trace.length + 1) cv)) := (unhide HBEL).trans (unhide HBE ▸ ((unhide FQ).trans (((unhide F46).alloc (.cells #[.int .i64 2, .int .i64 z, .int .i64 0] 72)).wide _ |>.trans (unhide FIN).2)).below (unhide HSB) (unhide HBW)); have kvi := (bcel hbel7 tb (toff + z.toNat) htbl).trans (unhide HVI); have htw7 : tb < (w7.setCell ⟨b, 26, none⟩ (.slice av (s'.trace.length + 1) cv)).heap.size := Nat.lt_of_lt_of_le htbl hbel7.size; have HBEL7 := hide hbel7; clear o7 f7 c7 hbel7))
                        go_at_call 125
                        refine (handlerQ_any L K hm hm4 hs.clock (unhide HBE) (unhide HBEL7) (unhide FIN).1 (unhide HOPS) (ok.fl z.toNat (by omega)) ok.tn ok.fn (ok.fr z.toNat (by omega)) (unhide HQ6).1 (by omega)).mono ?_
                        rintro e w8 ⟨rfl, S8, pv8, vt8, va8, T8, A8, h8, p8, f8⟩
                        have f68 := ((unhide FIN).2.trans f8)
                        have hap : ∀ q, own (.slice a6 kk c6) q → ¬ S4 q := fun q hq hS => by have h1 := (World.ownsRow.lt (unhide O6) q hq).1; have h2 := ((unhide H4).bound q hS).2; omega
                        have hf6s := ((Fr.refl S4 w6).alloc (.cells #[.int .i64 2, .int .i64 z, .int .i64 0] 72)).trans f68
                        have o8 : OwnI w8 w4.heap.size (.slice a6 kk c6) (l.eraseIdx kk) := ownsRow_of_block (unhide O6) (fun q hq => hf6s.same q (World.ownsRow.lt (unhide O6) q hq).2 (hap q hq))
                        have d8 : ∀ q, own (.slice a6 kk c6) q → ¬ S8 q := fun q hq hS => hap q hq (hf6s.old q (World.ownsRow.lt (unhide O6) q hq).2 hS)
                        have H8 := hide h8
                        have P8 := hide p8
                        have O8 := hide o8
                        have D8 := hide d8
                        have F8 := hide ((unhide FQ).trans (((unhide F46).wide _).trans hf6s))
                        clear h8 p8 f8 f68 hap hf6s o8 d8 kvi kf2 k26' z26 htw7
                        go_wp2
                        go_roundg k'
                        case rel =>
                          have e9 := unhide E
                          rw [show wk1 (gF ask p) z { s' with heard := wrap64 (s'.heard + 1) } x4 = gF ask p z { { s' with heard := wrap64 (s'.heard + 1) } with trace := s'.trace ++ [(2, z, 0)] } x4 from by unfold wk1; rw [if_pos (by exact unhide HWZ)]] at e9
                          exact ⟨S8, pv8, vt8, va8, T8, A8, _, _, N' + 1, (l.eraseIdx kk), unhide H8, fun i hi => (unhide P8 i hi).trans (unhide P4 i hi), unhide F8, rowLow (unhide O8) (unhide FQ).size, unhide D8, e9.symm, unhide HQ7, by rw [List.length_eraseIdx_of_lt hkl]; omega, fun y hy => unhide Q8 y (List.mem_of_mem_eraseIdx hy), by rw [List.length_eraseIdx_of_lt hkl]; omega, by rw [List.length_eraseIdx_of_lt hkl]; omega⟩
                        case measure => omega
                    · have hwf : s'.wat z.toNat = false := by simpa using hwz
                      have HWZ := hide hwf
                      clear hwz hwf
                      as_aux_lemma =>
                        go_wp2_with (at_builtin; first | (refine wpList_grow0 elemI (by omega) (by omega) (B := w4.heap.size) (v := .slice none 0 0) (n := 0) (m := kk) (xs := []) (news := (l.take kk).map fun z => Value.int .i64 z) rfl (.tmp 75) (.tmp 78) rfl (ad := ⟨g, 0, none⟩) (cap := (kk + 1)) rfl rfl (World.ownsRow_nil _ _ _ _) (by rw [List.length_map, List.length_take]; simp; try omega) (unhide NW1) (fun u hu => (by obtain ⟨_, _, rfl⟩ := List.mem_map.1 hu; rfl)) (by omega) (Nat.le_refl _) ?_; intro v5 w5 o5 f5 sh5; rw [Nat.zero_add, List.nil_append] at o5; rw [Nat.zero_add] at sh5; obtain ⟨a5, c5, rfl⟩ := sh5; have f5' : Fr (fun _ => False) w4 w5 (fun _ => False) := ⟨f5.os, f5.tape, f5.output, f5.size, fun k hk _ => f5.same k hk (by simp [own, Value.ownBlock]), fun _ _ h => h⟩; have O5 := hide o5; have F5 := hide f5'; have hz5 := f5.size; have NW2' := hide (fun j u hj => (f5'.cell g _ (unhide HGL) (fun h => h)).trans (unhide NW2 j u hj)); clear o5 f5 f5') | (refine wpList_grow0 elemI (by omega) (by omega) (B := w4.heap.size) (v := .slice a5 kk c5) (n := kk) (m := 0) (xs := (l.take kk).map fun z => Value.int .i64 z) (news := (l.drop (kk + 1)).map fun z => Value.int .i64 z) rfl (.tmp 80) (.tmp 84) rfl (ad := ⟨g, 0, none⟩) (cap := 0) rfl rfl (unhide O5) (by rw [List.length_map, List.length_drop]; simp; try omega) (fun j u hj => absurd hj (by rw [List.drop_eq_nil_of_le (by omega)]; simp)) (fun u hu => (by obtain ⟨_, _, rfl⟩ := List.mem_map.1 hu; rfl)) (by omega) hz5 ?_; intro v6 w6 o6 f6 sh6; rw [Nat.add_zero] at o6 sh6; obtain ⟨a6, c6, rfl⟩ := sh6; have f46 : Fr (fun _ => False) w4 w6 (fun _ => False) := Fr.more (unhide F5) f6 (fun q hq => (World.ownsRow.lt (unhide O5) q hq).1); have o6' : OwnI w6 w4.heap.size (.slice a6 kk c6) (l.eraseIdx kk) := (by unfold OwnI; rw [List.eraseIdx_eq_take_drop_succ, List.map_append, show (l.take kk ++ l.drop (kk + 1)).length = kk by rw [List.length_append, List.length_take, List.length_drop]; omega]; exact o6); have h6 := (unhide H4).fr L f46; have kw6 := (h6.cell (17 + z.toNat) (by omega)).trans (by rw [limg_wat _ _ _ _ _ _ (by omega)]); change w6.cell? _ = some (.bool (s'.wat z.toNat)) at kw6; rw [unhide HWZ] at kw6;  have O6 := hide o6'; have F46 := hide f46; have H6 := hide h6; clear o6 o6' f6 f46 h6))
                        have hap : ∀ q, own (.slice a6 kk c6) q → ¬ S4 q := fun q hq hS => by have h1 := (World.ownsRow.lt (unhide O6) q hq).1; have h2 := ((unhide H4).bound q hS).2; omega
                        go_roundg k'
                        case rel =>
                          have e9 := unhide E
                          rw [show wk1 (gF ask p) z { s' with heard := wrap64 (s'.heard + 1) } x4 = ({ s' with heard := wrap64 (s'.heard + 1) }, x4) from by unfold wk1; rw [if_neg (by rw [show PS.wat { s' with heard := wrap64 (s'.heard + 1) } z.toNat = false from unhide HWZ]; simp)]] at e9
                          exact ⟨S4, pv4, vt', va', T4, A', _, _, N', (l.eraseIdx kk), unhide H6, unhide P4, (unhide FQ).trans ((unhide F46).wide _), rowLow (unhide O6) (unhide FQ).size, hap, e9.symm, ⟨(unhide Q5).1.of rfl rfl rfl rfl, (unhide Q5).2.of rfl rfl rfl⟩, by rw [List.length_eraseIdx_of_lt hkl]; omega, fun y hy => unhide Q8 y (List.mem_of_mem_eraseIdx hy), by rw [List.length_eraseIdx_of_lt hkl]; omega, by rw [List.length_eraseIdx_of_lt hkl]; omega⟩
                        case measure => omega
                  · skip
                    by_cases hwz : s'.wat z.toNat = true
                    · have HWZ := hide hwz
                      clear hwz
                      as_aux_lemma =>
                        have hzf : z < (p.fn : Int) := by have := (unhide Q5).2.wat z.toNat (unhide HWZ); omega
                        obtain ⟨ua, uc, hut⟩ := row_shape (unhide H4).row
                        subst hut
                        rcases unhide HFF with hz00 | ⟨tb, toff, rfl, htb⟩
                        · omega
                        obtain ⟨vi, hvi, hops⟩ := htb z.toNat (by omega)
                        have htbl : tb < w0.heap.size := World.block_lt_of_cell? _ _ hvi
                        have hln : s'.trace.length ≤ 100000000 := by have := (unhide Q5).1.trace; omega
                        have hq6 : RInv p (N' + 1) { { s' with heard := wrap64 (s'.heard + 1) } with trace := s'.trace ++ [(2, z, 0)] } := told_rinv (s := { s' with heard := wrap64 (s'.heard + 1) }) ⟨(unhide Q5).1.of rfl rfl rfl rfl, (unhide Q5).2.of rfl rfl rfl⟩
                        have hq7 := hM_rinv hs (ok.fr z.toNat (by omega)) { s' with heard := wrap64 (s'.heard + 1), trace := s'.trace ++ [(2, z, 0)] } x4 hq6
                        have HQ6 := hide hq6
                        have HQ7 := hide hq7
                        have HOPS := hide hops
                        have HVI := hide hvi
                        clear hq6 hq7 hops hvi htb
                        go_wp2_with (at_builtin; first | (refine wpList_grow0 elemI (by omega) (by omega) (B := w4.heap.size) (v := .slice none 0 0) (n := 0) (m := kk) (xs := []) (news := (l.take kk).map fun z => Value.int .i64 z) rfl (.tmp 75) (.tmp 78) rfl (ad := ⟨g, 0, none⟩) (cap := lc') rfl rfl (World.ownsRow_nil _ _ _ _) (by rw [List.length_map, List.length_take]; simp; try omega) (unhide NW1) (fun u hu => (by obtain ⟨_, _, rfl⟩ := List.mem_map.1 hu; rfl)) (by omega) (Nat.le_refl _) ?_; intro v5 w5 o5 f5 sh5; rw [Nat.zero_add, List.nil_append] at o5; rw [Nat.zero_add] at sh5; obtain ⟨a5, c5, rfl⟩ := sh5; have f5' : Fr (fun _ => False) w4 w5 (fun _ => False) := ⟨f5.os, f5.tape, f5.output, f5.size, fun k hk _ => f5.same k hk (by simp [own, Value.ownBlock]), fun _ _ h => h⟩; have O5 := hide o5; have F5 := hide f5'; have hz5 := f5.size; have NW2' := hide (fun j u hj => (f5'.cell g _ (unhide HGL) (fun h => h)).trans (unhide NW2 j u hj)); clear o5 f5 f5') | (refine wpList_grow0 elemI (by omega) (by omega) (B := w4.heap.size) (v := .slice a5 kk c5) (n := kk) (m := (l.length - (kk + 1))) (xs := (l.take kk).map fun z => Value.int .i64 z) (news := (l.drop (kk + 1)).map fun z => Value.int .i64 z) rfl (.tmp 80) (.tmp 84) rfl (ad := ⟨g, kk + 1, none⟩) (cap := (lc' - (kk + 1))) rfl rfl (unhide O5) (by rw [List.length_map, List.length_drop]; simp) (fun j u hj => (by rw [addr_add]; exact unhide NW2' j u hj)) (fun u hu => (by obtain ⟨_, _, rfl⟩ := List.mem_map.1 hu; rfl)) (by omega) hz5 ?_; intro v6 w6 o6 f6 sh6;  obtain ⟨a6, c6, rfl⟩ := sh6; have f46 : Fr (fun _ => False) w4 w6 (fun _ => False) := Fr.more (unhide F5) f6 (fun q hq => (World.ownsRow.lt (unhide O5) q hq).1); have o6' : OwnI w6 w4.heap.size (.slice a6 (kk + (l.length - (kk + 1))) c6) (l.eraseIdx kk) := (by unfold OwnI; rw [List.eraseIdx_eq_take_drop_succ, List.map_append, show (l.take kk ++ l.drop (kk + 1)).length = kk + (l.length - (kk + 1)) by rw [List.length_append, List.length_take, List.length_drop]; omega]; exact o6); have h6 := (unhide H4).fr L f46; have kw6 := (h6.cell (17 + z.toNat) (by omega)).trans (by rw [limg_wat _ _ _ _ _ _ (by omega)]); change w6.cell? _ = some (.bool (s'.wat z.toNat)) at kw6; rw [unhide HWZ] at kw6; have k26 := (h6.cell 26 (by omega)).trans (by rw [limg_trace]); change w6.cell? _ = some (.slice ua s'.trace.length uc) at k26; have nb := heap_alloc_new w6 (.cells #[.int .i64 2, .int .i64 z, .int .i64 0] 72); have h6a := h6.alloc L (.cells #[.int .i64 2, .int .i64 z, .int .i64 0] 72); have hB6 := h6a.below; have hb6 := h6.blt; have O6 := hide o6'; have F46 := hide f46; have NB := hide nb; have H6A := hide h6a; clear nb h6a; clear o6 o6' f6 f46 h6) | (refine wpList_grown elemE (by omega) (by omega) (B := B) (v := .slice ua s'.trace.length uc) (n := s'.trace.length) (m := 1) (xs := flatE s'.trace) (news := [.int .i64 2, .int .i64 z, .int .i64 0]) rfl (.tmp 96) (.tmp 99) rfl (ad := ⟨w6.heap.size, 0, none⟩) (cap := 1) rfl rfl (by exact (unhide H6A).row) rfl (World.news_of_block (unhide NB)) (by simp [Value.oneCell']) (by omega) (by omega) hB6 ?_; intro v7 w7 o7 f7 sh7; obtain ⟨av, cv, rfl⟩ := sh7; have c7 := (unhide H6A).cells.block (f7.same b (unhide H6A).blt (fun e => ((unhide H6A).inV b e).2.1 rfl)); have k26' := (c7 26 (by omega)).1.trans (by rw [limg_trace]); have z26 := (c7 26 (by omega)).2; have FIN := hide ((unhide H6A).setTrace L (o := (2, z, 0)) o7 f7); have kf2 := ((unhide FIN).1.cell 2 (by omega)).trans (by rw [limg_pv _ _ _ _ _ _ (by omega), unhide P4 2 (by omega), hfv]); have hbel7 : Below w0.heap.size w0 (w7.setCell ⟨b, 26, none⟩ (.slice av (s'.trace.length + 1) cv)) := (unhide HBEL).trans (unhide HBE ▸ ((unhide FQ).trans (((unhide F46).alloc (.cells #[.int .i64 2, .int .i64 z, .int .i64 0] 72)).wide _ |>.trans (unhide FIN).2)).below (unhide HSB) (unhide HBW)); have kvi := (bcel hbel7 tb (toff + z.toNat) htbl).trans (unhide HVI); have htw7 : tb < (w7.setCell ⟨b, 26, none⟩ (.slice av (s'.trace.length + 1) cv)).heap.size := Nat.lt_of_lt_of_le htbl hbel7.size; have HBEL7 := hide hbel7; clear o7 f7 c7 hbel7))
                        go_at_call 125
                        refine (handlerQ_any L K hm hm4 hs.clock (unhide HBE) (unhide HBEL7) (unhide FIN).1 (unhide HOPS) (ok.fl z.toNat (by omega)) ok.tn ok.fn (ok.fr z.toNat (by omega)) (unhide HQ6).1 (by omega)).mono ?_
                        rintro e w8 ⟨rfl, S8, pv8, vt8, va8, T8, A8, h8, p8, f8⟩
                        have f68 := ((unhide FIN).2.trans f8)
                        have hap : ∀ q, own (.slice a6 (kk + (l.length - (kk + 1))) c6) q → ¬ S4 q := fun q hq hS => by have h1 := (World.ownsRow.lt (unhide O6) q hq).1; have h2 := ((unhide H4).bound q hS).2; omega
                        have hf6s := ((Fr.refl S4 w6).alloc (.cells #[.int .i64 2, .int .i64 z, .int .i64 0] 72)).trans f68
                        have o8 : OwnI w8 w4.heap.size (.slice a6 (kk + (l.length - (kk + 1))) c6) (l.eraseIdx kk) := ownsRow_of_block (unhide O6) (fun q hq => hf6s.same q (World.ownsRow.lt (unhide O6) q hq).2 (hap q hq))
                        have d8 : ∀ q, own (.slice a6 (kk + (l.length - (kk + 1))) c6) q → ¬ S8 q := fun q hq hS => hap q hq (hf6s.old q (World.ownsRow.lt (unhide O6) q hq).2 hS)
                        have H8 := hide h8
                        have P8 := hide p8
                        have O8 := hide o8
                        have D8 := hide d8
                        have F8 := hide ((unhide FQ).trans (((unhide F46).wide _).trans hf6s))
                        clear h8 p8 f8 f68 hap hf6s o8 d8 kvi kf2 k26' z26 htw7
                        go_wp2
                        go_roundg k'
                        case rel =>
                          have e9 := unhide E
                          rw [show wk1 (gF ask p) z { s' with heard := wrap64 (s'.heard + 1) } x4 = gF ask p z { { s' with heard := wrap64 (s'.heard + 1) } with trace := s'.trace ++ [(2, z, 0)] } x4 from by unfold wk1; rw [if_pos (by exact unhide HWZ)]] at e9
                          exact ⟨S8, pv8, vt8, va8, T8, A8, _, _, N' + 1, (l.eraseIdx kk), unhide H8, fun i hi => (unhide P8 i hi).trans (unhide P4 i hi), unhide F8, rowLow (unhide O8) (unhide FQ).size, unhide D8, e9.symm, unhide HQ7, by rw [List.length_eraseIdx_of_lt hkl]; omega, fun y hy => unhide Q8 y (List.mem_of_mem_eraseIdx hy), by rw [List.length_eraseIdx_of_lt hkl]; omega, by rw [List.length_eraseIdx_of_lt hkl]; omega⟩
                        case measure => omega
                    · have hwf : s'.wat z.toNat = false := by simpa using hwz
                      have HWZ := hide hwf
                      clear hwz hwf
                      as_aux_lemma =>
                        go_wp2_with (at_builtin; first | (refine wpList_grow0 elemI (by omega) (by omega) (B := w4.heap.size) (v := .slice none 0 0) (n := 0) (m := kk) (xs := []) (news := (l.take kk).map fun z => Value.int .i64 z) rfl (.tmp 75) (.tmp 78) rfl (ad := ⟨g, 0, none⟩) (cap := lc') rfl rfl (World.ownsRow_nil _ _ _ _) (by rw [List.length_map, List.length_take]; simp; try omega) (unhide NW1) (fun u hu => (by obtain ⟨_, _, rfl⟩ := List.mem_map.1 hu; rfl)) (by omega) (Nat.le_refl _) ?_; intro v5 w5 o5 f5 sh5; rw [Nat.zero_add, List.nil_append] at o5; rw [Nat.zero_add] at sh5; obtain ⟨a5, c5, rfl⟩ := sh5; have f5' : Fr (fun _ => False) w4 w5 (fun _ => False) := ⟨f5.os, f5.tape, f5.output, f5.size, fun k hk _ => f5.same k hk (by simp [own, Value.ownBlock]), fun _ _ h => h⟩; have O5 := hide o5; have F5 := hide f5'; have hz5 := f5.size; have NW2' := hide (fun j u hj => (f5'.cell g _ (unhide HGL) (fun h => h)).trans (unhide NW2 j u hj)); clear o5 f5 f5') | (refine wpList_grow0 elemI (by omega) (by omega) (B := w4.heap.size) (v := .slice a5 kk c5) (n := kk) (m := (l.length - (kk + 1))) (xs := (l.take kk).map fun z => Value.int .i64 z) (news := (l.drop (kk + 1)).map fun z => Value.int .i64 z) rfl (.tmp 80) (.tmp 84) rfl (ad := ⟨g, kk + 1, none⟩) (cap := (lc' - (kk + 1))) rfl rfl (unhide O5) (by rw [List.length_map, List.length_drop]; simp) (fun j u hj => (by rw [addr_add]; exact unhide NW2' j u hj)) (fun u hu => (by obtain ⟨_, _, rfl⟩ := List.mem_map.1 hu; rfl)) (by omega) hz5 ?_; intro v6 w6 o6 f6 sh6;  obtain ⟨a6, c6, rfl⟩ := sh6; have f46 : Fr (fun _ => False) w4 w6 (fun _ => False) := Fr.more (unhide F5) f6 (fun q hq => (World.ownsRow.lt (unhide O5) q hq).1); have o6' : OwnI w6 w4.heap.size (.slice a6 (kk + (l.length - (kk + 1))) c6) (l.eraseIdx kk) := (by unfold OwnI; rw [List.eraseIdx_eq_take_drop_succ, List.map_append, show (l.take kk ++ l.drop (kk + 1)).length = kk + (l.length - (kk + 1)) by rw [List.length_append, List.length_take, List.length_drop]; omega]; exact o6); have h6 := (unhide H4).fr L f46; have kw6 := (h6.cell (17 + z.toNat) (by omega)).trans (by rw [limg_wat _ _ _ _ _ _ (by omega)]); change w6.cell? _ = some (.bool (s'.wat z.toNat)) at kw6; rw [unhide HWZ] at kw6;  have O6 := hide o6'; have F46 := hide f46; have H6 := hide h6; clear o6 o6' f6 f46 h6))
                        have hap : ∀ q, own (.slice a6 (kk + (l.length - (kk + 1))) c6) q → ¬ S4 q := fun q hq hS => by have h1 := (World.ownsRow.lt (unhide O6) q hq).1; have h2 := ((unhide H4).bound q hS).2; omega
                        go_roundg k'
                        case rel =>
                          have e9 := unhide E
                          rw [show wk1 (gF ask p) z { s' with heard := wrap64 (s'.heard + 1) } x4 = ({ s' with heard := wrap64 (s'.heard + 1) }, x4) from by unfold wk1; rw [if_neg (by rw [show PS.wat { s' with heard := wrap64 (s'.heard + 1) } z.toNat = false from unhide HWZ]; simp)]] at e9
                          exact ⟨S4, pv4, vt', va', T4, A', _, _, N', (l.eraseIdx kk), unhide H6, unhide P4, (unhide FQ).trans ((unhide F46).wide _), rowLow (unhide O6) (unhide FQ).size, hap, e9.symm, ⟨(unhide Q5).1.of rfl rfl rfl rfl, (unhide Q5).2.of rfl rfl rfl⟩, by rw [List.length_eraseIdx_of_lt hkl]; omega, fun y hy => unhide Q8 y (List.mem_of_mem_eraseIdx hy), by rw [List.length_eraseIdx_of_lt hkl]; omega, by rw [List.length_eraseIdx_of_lt hkl]; omega⟩
                        case measure => omega
                · have e3 : hearS s' ⟨r3k, r3o, r3n, r3f, r3e⟩ = { s' with fin := r3e } := by unfold hearS; rw [if_neg h3e]
                  have e4 : hdS s' ⟨r3k, r3o, r3n, r3f, r3e⟩ = { s' with fin := r3e } := by unfold hdS; rw [if_neg h3e]
                  rw [e3] at hc3
                  rw [e4] at hst
                  rw [decide_eq_false h3e] at hst
                  have E := hide (q3.symm.trans hst)
                  have HC3 := hide hc3
                  have Q0 := hide q0
                  have Q2 := hide q2
                  have h3b : (r3e == 0) = false := by simpa using h3e
                  have hfield := field49
                  clear hc3 hst hpk hpl e3 e4 q1 q2 q0 q3 q5 qo qd q8 h1
                  go_wp2_with fail
                  go_at_call 141
                  refine (unhide HC3).mono ?_
                  rintro e w4 ⟨kd4, of4, n4, fa4, fl4, fc4, rfl, ⟨S4, pv4, T4, h4, p4, f4⟩, _⟩
                  have k27 := (h4.cell 27 (by omega)).trans (by rw [limg_fin])
                  change w4.cell? _ = some (.int .i64 r3e) at k27
                  have H4 := hide h4
                  have P4 := hide (show ∀ i, i < 3 → pv4 i = pv i from fun i hi => (p4 i hi).trans (unhide Q0 i hi))
                  have F4 := hide f4
                  clear h4 p4 f4 HC3
                  go_wp2
                  refine bodyPost_ret (v := .tuple #[]) (by simp [results, Tryz.results129, go_sem]) rfl ?_
                  rw [unhide E]
                  exact ⟨rfl, S4, pv4, vt', va', T4, A', unhide H4, unhide P4, (unhide Q2).trans (unhide F4)⟩
            · have e := q3.symm.trans (wkM_stop _ gk l s' x2 (.inr hfi))
              have hfb : (s'.fin == 0) = false := by simpa using hfi
              have Q1 := hide q1
              have Q2 := hide q2
              have Q0 := hide q0
              have E := hide e
              clear q1 q2 q3 q5 q0 qo qd q8 e
              go_wp2
              go_end0
              rw [unhide E]
              exact ⟨rfl, S', pv', vt', va', T', A', unhide Q1, unhide Q0, unhide Q2⟩
  · rw [if_neg hre]
    have e0 : hearS s ⟨rk, ro, rn, rf, re⟩ = { s with fin := re } := by unfold hearS; rw [if_neg hre]
    rw [e0] at HC
    have hrb : (re == 0) = false := by simpa using hre
    clear e0
    go_enter Tryz.func129, Tryz.ntmps129
    go_wp2_with fail
    go_at_call 141
    refine (unhide HC).mono ?_
    rintro e w1 ⟨kd, of_, n, fa, fl, fc, rfl, ⟨S1, pv1, T1, h1, p1, f1⟩, _⟩
    have k27 := (h1.cell 27 (by omega)).trans (by rw [limg_fin])
    change w1.cell? _ = some (.int .i64 re) at k27
    have hb1 := h1.blt
    have hn6 : ¬ b = w1.heap.size := by omega
    have hn5 : ¬ w1.heap.size = b := by omega
    have HA := hide (h1.alloc L (.cells #[.int .i64 kd, .int .i64 of_, .int .i64 n, .slice fa fl fc] 49))
    have FA := hide (f1.alloc (.cells #[.int .i64 kd, .int .i64 of_, .int .i64 n, .slice fa fl fc] 49))
    have P1 := hide p1
    clear h1 f1 p1 HC
    go_wp2
    refine bodyPost_ret (v := .tuple #[]) (by simp [results, Tryz.results129, go_sem]) rfl ⟨rfl, ?_⟩
    exact ⟨S1, pv1, vt, va, T1, A, unhide HA, unhide P1, unhide FA⟩
end
end Go.Proofs.YtfmbebofllgmoaaGreatDoor
namespace Go.Proofs.YtfmbebofllgmoaaGreatDoor
open Go.RowKit
attribute [local go_sem ↓] Go.wp_at_zero Go.wp_at_succ

section
variable {σ : Type} {SQ : (Nat → Value) → (Nat → Prop) → World → σ → Prop} {ask : σ → Int → Int → Rep × σ} {may : Int → Int → Prop} {mes : σ → Nat} {B : Nat} {S T : Nat → Prop} {w : World} {b : Nat} {pv : Nat → Value} {vt va : Value} {s : PS} {A : List AT} {tn sq : Int} {x : σ}
/-- How far the turns have come. -/
def URel (SQ : (Nat → Value) → (Nat → Prop) → World → σ → Prop) (ask : σ → Int → Int → Rep × σ) (mes : σ → Nat) (B : Nat) (S : Nat → Prop) (w : World) (b : Nat) (pv : Nat → Value) (p : Pg) (fin : PS × σ) (k : Nat) (wr : World) : Prop :=
  ∃ S' pv' vt' va' T' A' s' x' N tn sq, LQ SQ B S' wr b pv' vt' va' T' s' A' tn sq x' ∧ (∀ i, i < 3 → pv' i = pv i) ∧ Fr S w wr S' ∧ turnsM ask p k s' x' = fin ∧ RInv p N s' ∧ N + 16 * k ≤ 100000000 ∧ (s'.fin ≠ 0 ∨ mes x' < k) ∧ 0 ≤ tn ∧ tn + k ≤ 100000000
/-- What comes of a run. -/
def URun (SQ : (Nat → Value) → (Nat → Prop) → World → σ → Prop) (B : Nat) (S : Nat → Prop) (w : World) (b : Nat) (pv : Nat → Value) (s : PS) (x : σ) (w' : World) : Prop := ∃ tn sq, LPost SQ B S w b pv tn sq s x w'
theorem urel_next {w2 : World} {S2 T2 : Nat → Prop} {pv2 : Nat → Value} {vt2 va2 : Value} {A2 : List AT} {s2 : PS} {x2 : σ} {N k' : Nat} {p : Pg} {fin : PS × σ} (p1 : LQ SQ B S2 w2 b pv2 vt2 va2 T2 s2 A2 tn sq x2) (p0 : ∀ i, i < 3 → pv2 i = pv i) (p2 : Fr S w w2 S2) (e : fin = turnsM ask p k' s2 x2) (q : RInv p N s2) (hN : N + 16 * k' ≤ 100000000) (hm : s2.fin ≠ 0 ∨ mes x2 < k') (ht : 0 ≤ tn) (ht2 : tn + k' ≤ 100000000) : URel SQ ask mes B S w b pv p fin k' w2 :=
  ⟨S2, pv2, vt2, va2, T2, A2, s2, x2, N, tn, sq, p1, p0, p2, e.symm, q, hN, hm, ht, ht2⟩

set_option maxHeartbeats 4000000 in
set_option maxRecDepth 20000 in
theorem runQ_any (L : SQLaw SQ B) (K : HearQ SQ ask may B) (hm : MayOk may) (hs : SrcOk ask mes) {w0 : World} (hB : B = w0.heap.size) (hbel : Below w0.heap.size w0 w) {p : Pg} (pg : PgAt w0 pv p) (ok : PgOk p) (f : Int) (h : LQ SQ B S w b pv vt va T (s0 (min (max f 0) 5000)) A tn sq x) (h0 : tn = 0) (hM0 : mes x ≤ 5000000) :
    Calls Tryz.prog 107 #[.pointer (some ⟨b, 0, none⟩)] w fun e w' => e = .returned (.tuple #[]) ∧ URun SQ B S w b pv (runM ask p (mes x + 1) f x).1 (runM ask p (mes x + 1) f x).2 w' := by
  subst h0
  have hq0 : RInv p 5000 (s0 (min (max f 0) 5000)) := ⟨⟨⟨by show 0 ≤ min (max f 0) 5000; omega, by show min (max f 0) 5000 ≤ 5000; omega⟩, ⟨Int.le_refl 0, by show (0 : Int) ≤ 1099511627776; omega⟩, ⟨Int.le_refl 0, by show 0 + min (max f 0) 5000 ≤ 5000; omega⟩, by show 0 + (min (max f 0) 5000).toNat ≤ 5000; omega⟩, ⟨fun i hi => (by cases hi), fun i hi => (by cases hi), fun i hi => (by cases hi), fun i j hi => (by cases hi)⟩⟩
  have hq1 := hM_rinv hs ok.sr (s0 (min (max f 0) 5000)) x hq0
  have hmes := hM_mes hs (f := p.sf) (n := p.sn) p.sn { s0 (min (max f 0) 5000) with next := 0 } x
  have hcall := handlerQ_any L K hm.clock hm.lot hs.clock hB hbel h pg.s ok.sl ok.tn ok.fn ok.sr hq0.1 (by omega)
  have hSB : ∀ k, S k → B ≤ k := fun k hk => (h.bound k hk).1
  have hBw : B ≤ w.heap.size := h.below
  have hc0 := (h.cell 0 (by omega)).trans (by rw [limg_pv _ _ _ _ _ _ (by omega)])
  have hsv := pg.s
  obtain ⟨sa, sc, hpv0, _, _⟩ := hsv
  rw [hpv0] at hc0 hcall
  change Calls _ _ _ _ (fun e w' => e = Ending.returned (.tuple #[]) ∧ LPost SQ B S w b pv 0 sq (hM ask p.sf p.sn p.sn (s0 (min (max f 0) 5000)) x).1 (hM ask p.sf p.sn p.sn (s0 (min (max f 0) 5000)) x).2 w') at hcall
  change RInv p 5000 (hM ask p.sf p.sn p.sn (s0 (min (max f 0) 5000)) x).1 at hq1
  change mes (hM ask p.sf p.sn p.sn (s0 (min (max f 0) 5000)) x).2 ≤ mes x at hmes
  unfold runM
  generalize hH : hM ask p.sf p.sn p.sn (s0 (min (max f 0) 5000)) x = Hh at *
  obtain ⟨s1, x1⟩ := Hh
  dsimp only at hcall hq1 hmes ⊢
  have r0 : ∀ w1, LPost SQ B S w b pv 0 sq s1 x1 w1 → URel SQ ask mes B S w b pv p (turnsM ask p (mes x + 1) s1 x1) (mes x + 1) w1 := fun w1 ⟨S1, pv1, vt1, va1, T1, A1, l1, p1, f1⟩ =>
    urel_next l1 p1 f1 rfl hq1 (by omega) (.inr (by omega)) (Int.le_refl 0) (by omega)
  generalize turnsM ask p (mes x + 1) s1 x1 = fin at *
  generalize mes x + 1 = K0 at *
  have R0 := hide r0
  have HC := hide hcall
  have HSB := hide hSB
  have HBW := hide hBw
  have HBEL := hide hbel
  have HBE := hide hB
  have HPG := hide pg
  clear h r0 hcall hSB hBw hbel hB pg hq0 hq1 hmes hH
  go_enter Tryz.func107, Tryz.ntmps107
  go_wp2_with fail
  go_at_call 125
  refine (unhide HC).mono ?_
  rintro e w1 ⟨rfl, l1⟩
  have R1 := hide (unhide R0 w1 l1)
  clear l1 R0 HC hc0
  go_wp2
  go_loopg [] K0 (fun k wr => URel SQ ask mes B S w b pv p fin k wr)
  case atStart => exact unhide R1
  case round =>
    obtain ⟨S', pv', vt', va', T', A', s', x', N', tn', sq', q1, q0, q2, q3, q5, q6, q7, q8, q9⟩ := hrel
    have c27 := (q1.cell 27 (by omega)).trans (by rw [limg_fin])
    by_cases hfi : s'.fin = 0
    · obtain ⟨k', rfl⟩ : ∃ k', gk = k' + 1 := ⟨gk - 1, by have := q7.resolve_left (fun h => h hfi); omega⟩
      have hfb : (s'.fin == 0) = true := by simpa using hfi
      have hu : fin = turnsM ask p k' (turnM ask p s' x').1 (turnM ask p s' x').2 := by rw [← q3]; simp only [turnsM]; rw [if_pos hfi]
      have hmt : (turnM ask p s' x').1.fin ≠ 0 ∨ mes (turnM ask p s' x').2 < k' := by
        rcases turnM_mes hs p s' x' with h1 | h1
        · exact .inl h1
        · have := q7.resolve_left (fun h => h hfi); exact .inr (by omega)
      have htr := turnM_rinv hs ok x' q5
      have c15 := (q1.cell 15 (by omega)).trans (by rw [limg_turn])
      have f15 := q1.free 15 (by omega)
      have hw15 : wrap64 (tn' + 1) = tn' + 1 := by unfold wrap64; omega
      have hSb : S b ∨ w.heap.size ≤ b := by
        by_cases hS : S b
        · exact .inl hS
        · exact .inr (Nat.le_of_not_lt fun hl => hS (q2.old b hl q1.inB))
      have hS2 : ∀ k, S' k → B ≤ k := fun k hk => (q1.bound k hk).1
      have l2 := q1.set L 15 (.int .i64 (tn' + 1)) s' (tn' := tn' + 1) (sq' := s'.armings) (by omega) (lset_turn (tn' + 1)) rfl q1.rel.turn rfl
      have f2 := q2.setCell ⟨b, 15, none⟩ (.int .i64 (tn' + 1)) hSb
      have c27' := (l2.cell 27 (by omega)).trans (by rw [limg_fin])
      have f27' := l2.free 27 (by omega)
      have HI := hide (idleQ_any l2)
      have HCK := hide (clockQ_any L K l2 hfi hm.clock)
      have hq5c := ckS_rinv hs x' q5
      have L2 := hide l2
      have F2 := hide f2
      have HU := hide hu
      have HMT := hide hmt
      have HTR := hide htr
      have Q0 := hide q0
      have HQC := hide hq5c
      have HSb := hide hSb
      have HFI := hide hfi
      clear q1 q2 q3 q5 q7 q0 hu hmt htr l2 f2 hSb hS2 hq5c hfi
      cases hid : idleB s'
      · have e0 : turnM ask p s' x' = if ckB s' (ask x' 1 0).1 then
            (if (frM (gT ask p) (dueS (ckS s' (ask x' 1 0).1)) (ckS s' (ask x' 1 0).1) (ask x' 1 0).2).1.fin = 0 then wakeM ask p (frM (gT ask p) (dueS (ckS s' (ask x' 1 0).1)) (ckS s' (ask x' 1 0).1) (ask x' 1 0).2).1 (frM (gT ask p) (dueS (ckS s' (ask x' 1 0).1)) (ckS s' (ask x' 1 0).1) (ask x' 1 0).2).2
             else frM (gT ask p) (dueS (ckS s' (ask x' 1 0).1)) (ckS s' (ask x' 1 0).1) (ask x' 1 0).2)
          else (ckS s' (ask x' 1 0).1, (ask x' 1 0).2) := by unfold turnM; rw [if_neg (by rw [hid]; simp)]
        rw [e0] at HU HMT HTR
        rw [hid] at HI
        have hca := ckS_tim s' (ask x' 1 0).1
        have hcf : (ckB s' (ask x' 1 0).1 = true → (ckS s' (ask x' 1 0).1).fin = 0) ∧ (ckB s' (ask x' 1 0).1 = false → (ckS s' (ask x' 1 0).1).fin ≠ 0) := by
          unfold ckB ckS
          by_cases he : (ask x' 1 0).1.e = 0
          · by_cases hl : (ask x' 1 0).1.n < s'.clock
            · simp [he, hl]
            · simp [he, hl]; exact unhide HFI
          · simp [he]
        clear e0 hid
        generalize ckS s' (ask x' 1 0).1 = s2 at *
        generalize (ask x' 1 0).2 = x2 at *
        cases hcb : ckB s' (ask x' 1 0).1
        · rw [hcb] at HU HMT HTR hcf
          rw [if_neg (by simp)] at HU HMT HTR
          have hnf := hcf.2 rfl
          have hnb : (s2.fin == 0) = false := by simpa using hnf
          clear hcf hcb
          go_wp2_with (first | (go_at_call 126; refine (unhide HI).mono ?_; rintro e w3 ⟨rfl, hw3⟩; rw [hw3]; clear hw3 HI w3) | (go_at_call 127; refine (unhide HCK).mono ?_; rintro e w4 ⟨rfl, S4, pv4, T4, l4, p4, f4⟩; have k27 := (l4.cell 27 (by omega)).trans (by rw [limg_fin]); have L4 := hide l4; have P4 := hide p4; have F4 := hide f4; clear l4 p4 f4 HCK))
          go_roundg k'
          case rel => exact urel_next (unhide L4) (fun i hi => (unhide P4 i hi).trans (unhide Q0 i hi)) ((unhide F2).trans (unhide F4)) (unhide HU) (unhide HTR) (by omega) (unhide HMT) (by omega) (by omega)
          case measure => omega
        · rw [hcb] at HU HMT HTR hcf
          rw [if_pos rfl] at HU HMT HTR
          have h20 := hcf.1 rfl
          have h2b : (s2.fin == 0) = true := by simpa using h20
          have hdl := due_length s2
          have hfr := frM_rinv hs ok (dueS s2) N' s2 x2 (fun t ht => mem_due (unhide HQC).2 ht) (unhide HQC)
          have hT4 : ∀ (w4 : World) {S4 : Nat → Prop} {pv4 : Nat → Value} {T4 : Nat → Prop}, LQ SQ B S4 w4 b pv4 vt' va' T4 s2 A' (tn' + 1) s'.armings x2 → (∀ i, i < 3 → pv4 i = pv i) → Fr S w w4 S4 → Calls Tryz.prog 128 #[.pointer (some ⟨b, 0, none⟩)] w4 fun e w' => e = .returned (.tuple #[]) ∧ LPost SQ B S4 w4 b pv4 (tn' + 1) s'.armings (frM (gT ask p) (dueS s2) s2 x2).1 (frM (gT ask p) (dueS s2) s2 x2).2 w' := fun w4 S4 pv4 T4 l4 p4 f4 =>
            timersQ_any L K hm.clock hm.lot hs (unhide HBE) ((unhide HBEL).trans (unhide HBE ▸ f4.below (unhide HSB) (unhide HBW))) ⟨by rw [p4 0 (by omega)]; exact (unhide HPG).s, by rw [p4 1 (by omega)]; exact (unhide HPG).t, by rw [p4 2 (by omega)]; exact (unhide HPG).f⟩ ok l4 (unhide HQC) (by omega) (by rw [hca.2]; exact Int.le_refl _)
          generalize frM (gT ask p) (dueS s2) s2 x2 = F at *
          obtain ⟨s3, x3⟩ := F
          dsimp only at hfr hT4 HU HMT HTR
          have HT4 := hide @hT4
          have HFR := hide hfr
          clear hcf hcb hT4 hfr h20 hca
          by_cases h30 : s3.fin = 0
          · rw [if_pos h30] at HU HMT HTR
            have h3b : (s3.fin == 0) = true := by simpa using h30
            have H30 := hide h30
            clear h30
            go_wp2_with (first | (go_at_call 126; refine (unhide HI).mono ?_; rintro e w3 ⟨rfl, hw3⟩; rw [hw3]; clear hw3 HI w3) | (go_at_call 127; refine (unhide HCK).mono ?_; rintro e w4 ⟨rfl, S4, pv4, T4, l4, p4, f4⟩; have k27 := (l4.cell 27 (by omega)).trans (by rw [limg_fin]); have L4 := hide l4; have P4 := hide (show ∀ i, i < 3 → pv4 i = pv i from fun i hi => (p4 i hi).trans (unhide Q0 i hi)); have F4 := hide ((unhide F2).trans f4); clear l4 p4 f4 HCK) | (go_at_call 128; refine (unhide HT4 w4 (unhide L4) (unhide P4) (unhide F4)).mono ?_; rintro e w5 ⟨rfl, S5, pv5, vt5, va5, T5, A5, l5, p5, f5⟩; have k27b := (l5.cell 27 (by omega)).trans (by rw [limg_fin]); have L5 := hide l5; have P5 := hide (show ∀ i, i < 3 → pv5 i = pv i from fun i hi => (p5 i hi).trans (unhide P4 i hi)); have F5 := hide ((unhide F4).trans f5); clear l5 p5 f5 HT4 k27))
            go_at_call 129
            refine (batchQ_any L K hm.clock hm.batch hm.pick hm.lot hs (unhide HBE) ((unhide HBEL).trans (unhide HBE ▸ (unhide F5).below (unhide HSB) (unhide HBW))) ⟨by rw [unhide P5 0 (by omega)]; exact (unhide HPG).s, by rw [unhide P5 1 (by omega)]; exact (unhide HPG).t, by rw [unhide P5 2 (by omega)]; exact (unhide HPG).f⟩ ok (unhide L5) (unhide H30) (unhide HFR) (by omega)).mono ?_
            rintro e w6 ⟨rfl, S6, pv6, vt6, va6, T6, A6, l6, p6, f6⟩
            have L6 := hide l6
            have P6 := hide p6
            have F6 := hide f6
            clear l6 p6 f6
            go_wp2
            go_roundg k'
            case rel => exact urel_next (unhide L6) (fun i hi => (unhide P6 i hi).trans (unhide P5 i hi)) ((unhide F5).trans (unhide F6)) (unhide HU) (unhide HTR) (by omega) (unhide HMT) (by omega) (by omega)
            case measure => omega
          · rw [if_neg h30] at HU HMT HTR
            have h3b : (s3.fin == 0) = false := by simpa using h30
            clear h30
            go_wp2_with (first | (go_at_call 126; refine (unhide HI).mono ?_; rintro e w3 ⟨rfl, hw3⟩; rw [hw3]; clear hw3 HI w3) | (go_at_call 127; refine (unhide HCK).mono ?_; rintro e w4 ⟨rfl, S4, pv4, T4, l4, p4, f4⟩; have k27 := (l4.cell 27 (by omega)).trans (by rw [limg_fin]); have L4 := hide l4; have P4 := hide (show ∀ i, i < 3 → pv4 i = pv i from fun i hi => (p4 i hi).trans (unhide Q0 i hi)); have F4 := hide ((unhide F2).trans f4); clear l4 p4 f4 HCK) | (go_at_call 128; refine (unhide HT4 w4 (unhide L4) (unhide P4) (unhide F4)).mono ?_; rintro e w5 ⟨rfl, S5, pv5, vt5, va5, T5, A5, l5, p5, f5⟩; have k27b := (l5.cell 27 (by omega)).trans (by rw [limg_fin]); have L5 := hide l5; have P5 := hide (show ∀ i, i < 3 → pv5 i = pv i from fun i hi => (p5 i hi).trans (unhide P4 i hi)); have F5 := hide ((unhide F4).trans f5); clear l5 p5 f5 HT4 k27))
            go_roundg k'
            case rel => exact urel_next (unhide L5) (unhide P5) (unhide F5) (unhide HU) (unhide HTR) (by omega) (unhide HMT) (by omega) (by omega)
            case measure => omega
      · have e0 : turnM ask p s' x' = ({ s' with fin := 2 }, x') := by unfold turnM; rw [if_pos hid]
        rw [hid] at HI
        rw [e0, turnsM_stop p k' _ _ (by show (2 : Int) ≠ 0; omega)] at HU
        clear e0 hid
        go_wp2_with (first | (go_at_call 126; refine (unhide HI).mono ?_; rintro e w3 ⟨rfl, hw3⟩; rw [hw3]; clear hw3 HI w3))
        refine bodyPost_ret (v := .tuple #[]) (by simp [results, Tryz.results107, go_sem]) rfl ?_
        rw [unhide HU]
        exact ⟨rfl, tn' + 1, s'.armings, S', pv', vt', va', T', A', (unhide L2).set L 27 _ _ (by omega) (lset_fin 2) rfl ((unhide L2).rel.of rfl rfl) rfl, unhide Q0, (unhide F2).setCell _ _ (unhide HSb)⟩
    · have e := q3.symm.trans (turnsM_stop p gk s' x' hfi)
      have hfb : (s'.fin == 0) = false := by simpa using hfi
      have Q1 := hide q1
      have Q2 := hide q2
      have Q0 := hide q0
      have E := hide e
      clear q1 q2 q3 q5 q0 e q7 hfi
      go_wp2
      go_end0
      rw [unhide E]
      exact ⟨rfl, tn', sq', S', pv', vt', va', T', A', unhide Q1, unhide Q0, unhide Q2⟩
end
end Go.Proofs.YtfmbebofllgmoaaGreatDoor
namespace Go.Proofs.YtfmbebofllgmoaaGreatDoor
open Go.RowKit

/-- The struct's first ten cells. -/
def pv10 (p1 p2 p3 v0 v1 v2 v3 r i h : Value) (k : Nat) : Value := if k = 0 then p1 else if k = 1 then p2 else if k = 2 then p3 else if k = 3 then v0 else if k = 4 then v1 else if k = 5 then v2 else if k = 6 then v3 else if k = 7 then r else if k = 8 then i else h
def cells28 (p1 p2 p3 v0 v1 v2 v3 r i h : Value) (fu : Int) : Array Value := #[p1, p2, p3, v0, v1, v2, v3, r, i, h, .int .i64 0, .int .i64 0, .int .i64 0, .int .i64 0, .int .i64 0, .int .i64 0, .slice none 0 0, .bool false, .bool false, .bool false, .bool false, .bool false, .bool false, .bool false, .bool false, .int .i64 fu, .slice none 0 0, .int .i64 0]
theorem cells28_get (p1 p2 p3 v0 v1 v2 v3 r i h : Value) (fu : Int) (k : Nat) (hk : k < 28) : (cells28 p1 p2 p3 v0 v1 v2 v3 r i h fu)[k]? = some (limg (pv10 p1 p2 p3 v0 v1 v2 v3 r i h) (.slice none 0 0) (.slice none 0 0) (s0 fu) 0 k) := by
  have hc : k = 0 ∨ k = 1 ∨ k = 2 ∨ k = 3 ∨ k = 4 ∨ k = 5 ∨ k = 6 ∨ k = 7 ∨ k = 8 ∨ k = 9 ∨ k = 10 ∨ k = 11 ∨ k = 12 ∨ k = 13 ∨ k = 14 ∨ k = 15 ∨ k = 16 ∨ k = 17 ∨ k = 18 ∨ k = 19 ∨ k = 20 ∨ k = 21 ∨ k = 22 ∨ k = 23 ∨ k = 24 ∨ k = 25 ∨ k = 26 ∨ k = 27 := by omega
  rcases hc with rfl | rfl | rfl | rfl | rfl | rfl | rfl | rfl | rfl | rfl | rfl | rfl | rfl | rfl | rfl | rfl | rfl | rfl | rfl | rfl | rfl | rfl | rfl | rfl | rfl | rfl | rfl | rfl <;> rfl
theorem arel_start (fu : Int) : ARel (s0 fu) [] 0 0 :=
  ⟨fun _ h => absurd h (by simp), fun i h => (by cases h), List.Pairwise.nil, fun _ h => absurd h (by simp), fun _ h => absurd h (by simp), Int.le_refl _, Int.le_refl _⟩
/-- The loop as it begins, over any source that holds there. -/
theorem loop_start {σ : Type} {SQ : (Nat → Value) → (Nat → Prop) → World → σ → Prop} {B : Nat} {w1 : World} {p1 p2 p3 v0 v1 v2 v3 r i : Value} {fu : Int} {x : σ} (hB : B ≤ w1.heap.size) {W : World} (hW : W = (w1.alloc (.cells (cells28 p1 p2 p3 v0 v1 v2 v3 r i (.slice none 0 0) fu) 180)).drew) (hs : SQ (pv10 p1 p2 p3 v0 v1 v2 v3 r i (.slice none 0 0)) (fun _ => False) W x) :
    LQ SQ B (fun q => q = w1.heap.size) W w1.heap.size (pv10 p1 p2 p3 v0 v1 v2 v3 r i (.slice none 0 0)) (.slice none 0 0) (.slice none 0 0) (fun _ => False) (s0 fu) [] 0 0 x := by
  have hb : W.heap[w1.heap.size]? = some (.cells (cells28 p1 p2 p3 v0 v1 v2 v3 r i (.slice none 0 0) fu) 180) := by rw [hW]; exact heap_alloc_new _ _
  have hl := (Array.getElem?_eq_some_iff.1 hb).1
  refine ⟨fun k hk => by subst hk; exact ⟨hB, hl⟩, fun k hk => ⟨(cell_of_row W _ k _ 180 (0, 0) hb).trans (cells28_get _ _ _ _ _ _ _ _ _ _ _ k hk), frozen_rowE hb k⟩, World.ownsRow_nil _ _ _ _, World.ownsRow_nil _ _ _ _, arel_start fu, hs, ⟨none, 0, 0, rfl, rfl⟩, rfl, fun q hq => ?_, fun q hq => ?_, fun k hk => hk.elim⟩
  · simp [own, Value.ownBlock] at hq
  · simp [own, Value.ownBlock] at hq
/-- The world's source as it begins. -/
theorem sqr_start {w W : World} {p1 p2 p3 v0 v1 v2 v3 : Value} {lc lp ll : List Int} {bs : List (Value × List Int)} (hW : Below w.heap.size w W) (h0 : IntsC w v0 lc (fun q => q < w.heap.size)) (h1 : BatsC w v1 (bs.map (·.2)) (fun q => q < w.heap.size)) (h2 : IntsC w v2 lp (fun q => q < w.heap.size)) (h3 : IntsC w v3 ll (fun q => q < w.heap.size)) (hbs : ∀ b, b ∈ bs → b.2.length ≤ 100000000)
    (n0 : lc.length ≤ 4000000) (n1 : bs.length ≤ 4000000) (n2 : lp.length ≤ 4000000) (n3 : ll.length ≤ 4000000) : SQR w.heap.size (pv10 p1 p2 p3 v0 v1 v2 v3 (.bool false) (.slice none 0 0) (.slice none 0 0)) (fun _ => False) W ⟨lc, bs, lp, ll, headS⟩ :=
  ⟨rfl, h0.keep hW.block, h1.keep hW.block, h2.keep hW.block, h3.keep hW.block, hbs, [], World.ownsRow_nil _ _ _ _, fun q hq => by simp [own, Value.ownBlock, pv10] at hq, fun _ h => absurd h (by simp), rfl, fun _ h => absurd h (by simp), by simp only [RS.left, List.length_nil]; omega⟩
end Go.Proofs.YtfmbebofllgmoaaGreatDoor
namespace Go.Proofs.YtfmbebofllgmoaaGreatDoor
open Go.RowKit
attribute [local go_sem ↓] Go.wp_at_zero Go.wp_at_succ

set_option maxHeartbeats 4000000 in
set_option maxRecDepth 20000 in
theorem refRecord_any {w : World} {p1 p2 p3 : Value} {p : Pg} (hv : PgAt w (pvOf p1 p2 p3 undef) p) (f : Int) {v0 v1 v2 v3 : Value} {lc lp ll : List Int} {bs : List (Value × List Int)}
    (h0 : IntsC w v0 lc (fun q => q < w.heap.size)) (h1 : BatsC w v1 (bs.map (·.2)) (fun q => q < w.heap.size)) (h2 : IntsC w v2 lp (fun q => q < w.heap.size)) (h3 : IntsC w v3 ll (fun q => q < w.heap.size)) (hbs : ∀ b, b ∈ bs → b.2.length ≤ 100000000)
    (n0 : lc.length ≤ 4000000) (n1 : bs.length ≤ 4000000) (n2 : lp.length ≤ 4000000) (n3 : ll.length ≤ 4000000) :
    Calls Tryz.prog 72 #[.agg #[p1, p2, p3], .agg #[v0, v1, v2, v3], .int .i64 f] w (RecPost w p f lc bs lp ll) := by
  obtain ⟨a0, k0, e0, _⟩ := id h0
  obtain ⟨bv, hb1, hbvl, _⟩ := id h1
  obtain ⟨a1, k1, e1, _⟩ := hb1
  rw [hbvl, List.length_map] at e1
  clear hbvl
  obtain ⟨a2, k2, e2, _⟩ := id h2
  obtain ⟨a3, k3, e3, _⟩ := id h3
  obtain ⟨sa, sc, es, _⟩ := hv.s
  obtain ⟨ta, tc, et, _⟩ := hv.t
  obtain ⟨fa, fc, ef, _⟩ := hv.f
  change p1 = _ at es
  change p2 = _ at et
  change p3 = _ at ef
  have hB3 : Below w.heap.size w (((w.alloc (.cells #[p1, p2, p3] 33)).alloc (.cells #[v0, v1, v2, v3] 29)).alloc (.cells #[.int .i64 0, .int .i64 0, .int .i64 0, .int .i64 0, .int .i64 0, .int .i64 0, .int .i64 0] 37)) := bl3 _ _ _
  have hck := rcheck_any p1 p2 p3 p.sn p.tn p.fn p.sf p.tl p.fl p.tf p.ff _ (opsIn_below hB3 hv.s) (handsIn_below hB3 hv.t) (handsIn_below hB3 hv.f)
  have HCK := hide hck
  have HV := hide hv
  have H0 := hide h0
  have H1 := hide h1
  have H2 := hide h2
  have H3 := hide h3
  have HBS := hide hbs
  have HB3 := hide hB3
  clear hck hv h0 h1 h2 h3 hbs hB3
  rw [List.length_map] at e0 e2 e3
  subst e0 e1 e2 e3 es et ef
  go_enter Tryz.func72, Tryz.ntmps72
  go_wp2_with fail
  go_at_call 41
  refine (unhide HCK).mono ?_
  rintro e w1 ⟨x, rfl, hans, hb1⟩
  have z0 : (w.alloc (.cells #[.slice sa p.sn sc, .slice ta p.tn tc, .slice fa p.fn fc] 33)).heap.size = w.heap.size + 1 := by simp
  have z1 : ((w.alloc (.cells #[.slice sa p.sn sc, .slice ta p.tn tc, .slice fa p.fn fc] 33)).alloc (.cells #[.slice a0 lc.length k0, .slice a1 bs.length k1, .slice a2 lp.length k2, .slice a3 ll.length k3] 29)).heap.size = w.heap.size + 1 + 1 := by simp
  have z2 : (((w.alloc (.cells #[.slice sa p.sn sc, .slice ta p.tn tc, .slice fa p.fn fc] 33)).alloc (.cells #[.slice a0 lc.length k0, .slice a1 bs.length k1, .slice a2 lp.length k2, .slice a3 ll.length k3] 29)).alloc (.cells #[.int .i64 0, .int .i64 0, .int .i64 0, .int .i64 0, .int .i64 0, .int .i64 0, .int .i64 0] 37)).heap.size = w.heap.size + 1 + 1 + 1 := by simp
  have b3 : w1.heap[w.heap.size]? = some (.cells #[.slice sa p.sn sc, .slice ta p.tn tc, .slice fa p.fn fc] 33) := (hb1.block _ (by rw [z2]; omega)).trans ((Below.heap_alloc _ _ _ (by rw [z1]; omega)).trans ((Below.heap_alloc _ _ _ (by rw [z0]; omega)).trans (heap_alloc_new _ _)))
  have b4 : w1.heap[w.heap.size + 1]? = some (.cells #[.slice a0 lc.length k0, .slice a1 bs.length k1, .slice a2 lp.length k2, .slice a3 ll.length k3] 29) := (hb1.block _ (by rw [z2]; omega)).trans ((Below.heap_alloc _ _ _ (by rw [z1]; omega)).trans (by have h := heap_alloc_new (w.alloc (.cells #[.slice sa p.sn sc, .slice ta p.tn tc, .slice fa p.fn fc] 33)) (.cells #[.slice a0 lc.length k0, .slice a1 bs.length k1, .slice a2 lp.length k2, .slice a3 ll.length k3] 29); rwa [z0] at h))
  have b8 : w1.heap[w.heap.size + 1 + 1]? = some (.cells #[.int .i64 0, .int .i64 0, .int .i64 0, .int .i64 0, .int .i64 0, .int .i64 0, .int .i64 0] 37) := (hb1.block _ (by rw [z2]; omega)).trans (by have h := heap_alloc_new ((w.alloc (.cells #[.slice sa p.sn sc, .slice ta p.tn tc, .slice fa p.fn fc] 33)).alloc (.cells #[.slice a0 lc.length k0, .slice a1 bs.length k1, .slice a2 lp.length k2, .slice a3 ll.length k3] 29)) (.cells #[.int .i64 0, .int .i64 0, .int .i64 0, .int .i64 0, .int .i64 0, .int .i64 0, .int .i64 0] 37); rwa [z1] at h)
  have hw1 : Below w.heap.size w w1 := (unhide HB3).trans (hb1.mono (by rw [z2]; omega))
  have c3 := fun j => cell_of_row w1 _ j _ 33 (0, 0) b3
  have c4 := fun j => cell_of_row w1 _ j _ 29 (0, 0) b4
  have c8 := fun j => cell_of_row w1 _ j _ 37 (0, 0) b8
  have t8 := fun j => frozen_rowE b8 j
  have l8 := (Array.getElem?_eq_some_iff.1 b8).1
  have B3 := hide b3
  have B4 := hide b4
  have B8 := hide b8
  have HW1 := hide hw1
  have HANS := hide hans
  clear z0 z1 z2 b3 b4 b8 hw1 hans hb1 HCK HB3
  by_cases hx : x = 0
  · subst hx
    have ok := pgok_of_ans (unhide HANS)
    have fW : Fr (fun _ => False) w1 (w1.alloc (.cells (cells28 (.slice sa p.sn sc) (.slice ta p.tn tc) (.slice fa p.fn fc) (.slice a0 lc.length k0) (.slice a1 bs.length k1) (.slice a2 lp.length k2) (.slice a3 ll.length k3) (.bool false) (.slice none 0 0) (.slice none 0 0) (min (max f 0) 5000)) 180)).drew (fun _ => False) := ((Fr.refl _ _).alloc _).drew
    have bW : Below w.heap.size w (w1.alloc (.cells (cells28 (.slice sa p.sn sc) (.slice ta p.tn tc) (.slice fa p.fn fc) (.slice a0 lc.length k0) (.slice a1 bs.length k1) (.slice a2 lp.length k2) (.slice a3 ll.length k3) (.bool false) (.slice none 0 0) (.slice none 0 0) (min (max f 0) 5000)) 180)).drew := (unhide HW1).trans (fW.below (fun k h => h.elim) (unhide HW1).size)
    have hl0 := loop_start (SQ := SQR w.heap.size) (B := w.heap.size) (fu := min (max f 0) 5000) (x := (⟨lc, bs, lp, ll, headS⟩ : RS)) (unhide HW1).size rfl (sqr_start bW (unhide H0) (unhide H1) (unhide H2) (unhide H3) (unhide HBS) n0 n1 n2 n3)
    have pgq : PgAt w (pv10 (.slice sa p.sn sc) (.slice ta p.tn tc) (.slice fa p.fn fc) (.slice a0 lc.length k0) (.slice a1 bs.length k1) (.slice a2 lp.length k2) (.slice a3 ll.length k3) (.bool false) (.slice none 0 0) (.slice none 0 0)) p := ⟨(unhide HV).s, (unhide HV).t, (unhide HV).f⟩
    have hrun := runQ_any (SQR.law w.heap.size) (recQ_hear w.heap.size) mayR_ok recAsk_ok (w0 := w) rfl bW pgq ok f hl0 rfl (by show lc.length ≤ 5000000; omega)
    have HRUN := hide hrun
    have HOK := hide ok
    have FW := hide fW
    have D3 := hide (show (w1.alloc (.cells (cells28 (.slice sa p.sn sc) (.slice ta p.tn tc) (.slice fa p.fn fc) (.slice a0 lc.length k0) (.slice a1 bs.length k1) (.slice a2 lp.length k2) (.slice a3 ll.length k3) (.bool false) (.slice none 0 0) (.slice none 0 0) (min (max f 0) 5000)) 180)).drew.heap[w.heap.size]? = some _ from (Below.heap_alloc w1 _ _ (Array.getElem?_eq_some_iff.1 (unhide B3)).1).trans (unhide B3))
    have D4 := hide (show (w1.alloc (.cells (cells28 (.slice sa p.sn sc) (.slice ta p.tn tc) (.slice fa p.fn fc) (.slice a0 lc.length k0) (.slice a1 bs.length k1) (.slice a2 lp.length k2) (.slice a3 ll.length k3) (.bool false) (.slice none 0 0) (.slice none 0 0) (min (max f 0) 5000)) 180)).drew.heap[w.heap.size + 1]? = some _ from (Below.heap_alloc w1 _ _ (Array.getElem?_eq_some_iff.1 (unhide B4)).1).trans (unhide B4))
    have D8 := hide (show (w1.alloc (.cells (cells28 (.slice sa p.sn sc) (.slice ta p.tn tc) (.slice fa p.fn fc) (.slice a0 lc.length k0) (.slice a1 bs.length k1) (.slice a2 lp.length k2) (.slice a3 ll.length k3) (.bool false) (.slice none 0 0) (.slice none 0 0) (min (max f 0) 5000)) 180)).drew.heap[w.heap.size + 1 + 1]? = some _ from (Below.heap_alloc w1 _ _ l8).trans (unhide B8))
    clear ok fW bW hl0 hrun pgq
    go_wp2
    refine wp_region_held_drew (S := fun w' => w'.heap[w.heap.size]? = some (.cells #[.slice sa p.sn sc, .slice ta p.tn tc, .slice fa p.fn fc] 33) ∧ w'.heap[w.heap.size + 1]? = some (.cells #[.slice a0 lc.length k0, .slice a1 bs.length k1, .slice a2 lp.length k2, .slice a3 ll.length k3] 29)) (by kernel_rfl) ?_ (fun hHeld => ?_)
    · exact ⟨unhide B3, unhide B4⟩
    refine wpAnyH_take (i := 0) (oi := { dst := some 18, op := Op.load 33 (Operand.tmp 3), type := 33, pos := "run.go:348", after := #[], guard := none }) (v := ?_) rfl (by kernel_rfl) (by kernel_rfl) (by kernel_rfl) (fun _ _ _ h => h) (Or.inl ⟨by rfl, ?_⟩) (by assumption) ?_
    rotate_left
    · intro w' hSw; obtain ⟨hS1, hS2⟩ := hSw; have q3 := fun j => cell_of_row w' _ j _ 33 (0, 0) hS1; have q4 := fun j => cell_of_row w' _ j _ 29 (0, 0) hS2; go_simp; try with_reducible rfl
    simp only [Act.put, List.setIfInBounds_toArray, List.set_cons_zero, List.set_cons_succ]
    refine wpAnyH_take (i := 1) (oi := { dst := some 19, op := Op.load 29 (Operand.tmp 4), type := 29, pos := "run.go:348", after := #[], guard := none }) (v := ?_) rfl (by kernel_rfl) (by kernel_rfl) (by kernel_rfl) (fun _ _ _ h => h) (Or.inl ⟨by rfl, ?_⟩) (by assumption) ?_
    rotate_left
    · intro w' hSw; obtain ⟨hS1, hS2⟩ := hSw; have q3 := fun j => cell_of_row w' _ j _ 33 (0, 0) hS1; have q4 := fun j => cell_of_row w' _ j _ 29 (0, 0) hS2; go_simp; try with_reducible rfl
    simp only [Act.put, List.setIfInBounds_toArray, List.set_cons_zero, List.set_cons_succ]
    refine wpAnyH_take (i := 2) (oi := { dst := some 20, op := Op.move (Operand.tmp 2), type := 3, pos := "run.go:348", after := #[], guard := none }) (v := ?_) rfl (by kernel_rfl) (by kernel_rfl) (by kernel_rfl) (fun _ _ _ h => h) (Or.inl ⟨by rfl, ?_⟩) (by assumption) ?_
    rotate_left
    · intro w' hSw; obtain ⟨hS1, hS2⟩ := hSw; have q3 := fun j => cell_of_row w' _ j _ 33 (0, 0) hS1; have q4 := fun j => cell_of_row w' _ j _ 29 (0, 0) hS2; go_simp; try with_reducible rfl
    simp only [Act.put, List.setIfInBounds_toArray, List.set_cons_zero, List.set_cons_succ]
    refine wpAnyH_ready (rs := [3]) (by kernel_rfl) (by simp) ?_
    refine AllReadyH.cons (o := { dst := some 21, op := Op.call { callee := Callee.value (Operand.func 106), args := #[Operand.tmp 20], argTypes := #[3] }, type := 3, pos := "run.go:348", after := #[{ on := 2, ground := Ground.data }], guard := none }) rfl (fun K' hK' => ?_) AllReadyH.nil
    go_simp
    go_at_call 106
    refine (fuelledQ_any f _).mono ?_
    rintro e w2 ⟨rfl, hw2⟩
    rw [hw2]
    clear hw2 w2
    refine hK'.out _ _ ?_ (fun hHeld => ?_)
    · exact ⟨unhide B3, unhide B4⟩
    clear hK' K'
    try simp only [Act.put, List.setIfInBounds_toArray, List.set_cons_zero, List.set_cons_succ]
    try simp only [List.setIfInBounds_toArray, List.set_cons_zero, List.set_cons_succ]
    refine wpAnyH_take (i := 4) (oi := { dst := some 22, op := Op.build 180 #[(0, Operand.tmp 18), (1, Operand.tmp 19), (10, Operand.tmp 21)], type := 180, pos := "run.go:348", after := #[{ on := 0, ground := Ground.data }, { on := 1, ground := Ground.data }, { on := 3, ground := Ground.data }], guard := none }) (v := ?_) rfl (by kernel_rfl) (by kernel_rfl) (by kernel_rfl) (fun _ _ _ h => h) (Or.inl ⟨by rfl, ?_⟩) (by assumption) ?_
    rotate_left
    · intro w' hSw; obtain ⟨hS1, hS2⟩ := hSw; have q3 := fun j => cell_of_row w' _ j _ 33 (0, 0) hS1; have q4 := fun j => cell_of_row w' _ j _ 29 (0, 0) hS2; go_simp; try with_reducible rfl
    simp only [Act.put, List.setIfInBounds_toArray, List.set_cons_zero, List.set_cons_succ]
    refine wpAnyH_ready (rs := [5]) (by kernel_rfl) (by simp) ?_
    refine AllReadyH.cons (o := { dst := some 23, op := Op.box 180 (Operand.tmp 22), type := 177, pos := "run.go:348", after := #[{ on := 4, ground := Ground.data }], guard := none }) rfl (fun K' hK' => ?_) AllReadyH.nil
    go_simp
    refine hK'.out _ _ ?_ (fun hHeld => ?_)
    · exact ⟨unhide D3, unhide D4⟩
    clear hK' K'
    try simp only [Act.put, List.setIfInBounds_toArray, List.set_cons_zero, List.set_cons_succ]
    refine wpAnyH_take (i := 6) (oi := { dst := some 11, op := Op.assign (Operand.tmp 23), type := 177, pos := "run.go:348", after := #[{ on := 5, ground := Ground.data }, { on := 3, ground := Ground.chain }, { on := 0, ground := Ground.phase }, { on := 1, ground := Ground.phase }, { on := 2, ground := Ground.phase }, { on := 3, ground := Ground.phase }, { on := 4, ground := Ground.phase }, { on := 5, ground := Ground.phase }], guard := none }) (v := ?_) rfl (by kernel_rfl) (by kernel_rfl) (by kernel_rfl) (fun _ _ _ h => h) (Or.inl ⟨by rfl, ?_⟩) (by assumption) ?_
    rotate_left
    · intro w' hSw; obtain ⟨hS1, hS2⟩ := hSw; have q3 := fun j => cell_of_row w' _ j _ 33 (0, 0) hS1; have q4 := fun j => cell_of_row w' _ j _ 29 (0, 0) hS2; go_simp; try with_reducible rfl
    simp only [Act.put, List.setIfInBounds_toArray, List.set_cons_zero, List.set_cons_succ]
    refine wpAnyH_done (by kernel_rfl) ?_ _
    go_wp2_with fail
    go_at_call 107
    refine (unhide HRUN).mono ?_
    rintro e w3 ⟨rfl, tn, sq, S3, pv3, vt3, va3, T3, A3, l3, q3, f3⟩
    change LQ _ _ S3 w3 _ pv3 vt3 va3 T3 (recM p f lc bs lp ll).1 A3 tn sq (recM p f lc bs lp ll).2 at l3
    obtain ⟨xs, hrr, _, _⟩ := rec_run (unhide HOK) f lc bs lp ll (by omega)
    have hfin := hrr.fin
    obtain ⟨H, hrow, hown, hfl, hlog, hfits, hcnt⟩ := l3.src.hd
    obtain ⟨ha, hn, hcp, hp9, hnh⟩ := l3.hc
    have hHn : H.length = hn := by obtain ⟨u1, u2, u3⟩ := row_shape hrow; rw [hp9] at u3; injection u3 with _ u3; exact u3.symm
    subst hHn
    obtain ⟨ua, uc, hut⟩ := row_shape l3.row
    subst hut
    rw [hp9] at hrow hown hfl
    have hb3 := l3.blt
    have hTl : ∀ q, (T3 q ∧ ¬ own (.slice ha H.length hcp) q) → q < w3.heap.size := fun q hq => (l3.bound q (l3.inT q hq.1).1).2
    have hlogE : heardS H ++ frameS (bodyS 5 0 (recM p f lc bs lp ll).1.fin.toNat) = recLog (recM p f lc bs lp ll) := by unfold recLog; rw [hlog]
    have h108 := writeQ_any (w := w3.drew) (P := fun q => T3 q ∧ ¬ own (.slice ha H.length hcp) q) (by exact hrow) (by omega) hfits (by exact hTl) (by exact hfl) (recM p f lc bs lp ll).1.fin hfin.1 hfin.2
    rw [hlogE] at h108
    have h109 : ∀ W, Fr (fun _ => False) w3 W (fun _ => False) → _ := fun W hW => finalQ_any (l3.fr (SQR.law w.heap.size) hW)
    have g9 := (l3.cell 9 (by omega)).trans (by rw [limg_pv _ _ _ _ _ _ (by omega), hp9])
    have g27 := (l3.cell 27 (by omega)).trans (by rw [limg_fin])
    have g26 := (l3.cell 26 (by omega)).trans (by rw [limg_trace])
    have d8 : w3.heap[w.heap.size + 1 + 1]? = some (.cells #[.int .i64 0, .int .i64 0, .int .i64 0, .int .i64 0, .int .i64 0, .int .i64 0, .int .i64 0] 37) := (f3.same _ (Array.getElem?_eq_some_iff.1 (unhide D8)).1 (fun e => by have e' : w.heap.size + 1 + 1 = w1.heap.size := e; omega)).trans (unhide D8)
    have hP8 : ¬ S3 (w.heap.size + 1 + 1) := fun e => by have := f3.old _ (Array.getElem?_eq_some_iff.1 (unhide D8)).1 e; have e' : w.heap.size + 1 + 1 = w1.heap.size := this; omega
    have hrow3 := l3.row
    have hinV := l3.inV
    have F3 := hide f3
    have H108 := hide h108
    have H109 := hide h109
    have D83 := hide d8
    have HP8 := hide hP8
    have HROW3 := hide hrow3
    have HINV := hide hinV
    have HFW := hide ((Fr.of_below (unhide HW1)).trans (unhide FW))
    have hz1 := (unhide HW1).size
    clear l3 q3 f3 hrr hrow hown hfl hlog hfits hcnt hTl hlogE h108 h109 d8 hP8 hrow3 hinV hnh hp9 hfin HRUN
    generalize hr : recM p f lc bs lp ll = RM at *
    obtain ⟨s3, x3⟩ := RM
    dsimp only at g27 g26
    have HR := hide hr
    clear hr
    go_wp2
    refine wp_region_held_drew (S := fun w' => w'.heap[w1.heap.size]? = w3.heap[w1.heap.size]?) (by kernel_rfl) ?_ (fun hHeld => ?_)
    · exact rfl
    refine wpAnyH_take (i := 0) (oi := { dst := some 26, op := Op.move (Operand.tmp 11), type := 177, pos := "run.go:350", after := #[], guard := none }) (v := ?_) rfl (by kernel_rfl) (by kernel_rfl) (by kernel_rfl) (fun _ _ _ h => h) (Or.inl ⟨by rfl, ?_⟩) (by assumption) ?_
    rotate_left
    · intro w' hSw; have k9 := (World.cell?_of_block (w := w3) (a := ⟨w1.heap.size, 9, none⟩) hSw).trans g9; have k27 := (World.cell?_of_block (w := w3) (a := ⟨w1.heap.size, 27, none⟩) hSw).trans g27; have k26 := (World.cell?_of_block (w := w3) (a := ⟨w1.heap.size, 26, none⟩) hSw).trans g26; go_simp; try with_reducible rfl
    simp only [Act.put, List.setIfInBounds_toArray, List.set_cons_zero, List.set_cons_succ]
    refine wpAnyH_take (i := 1) (oi := { dst := some 27, op := Op.nilCheck (Operand.tmp 26), type := 0, pos := "run.go:350", after := #[{ on := 0, ground := Ground.data }], guard := none }) (v := ?_) rfl (by kernel_rfl) (by kernel_rfl) (by kernel_rfl) (fun _ _ _ h => h) (Or.inl ⟨by rfl, ?_⟩) (by assumption) ?_
    rotate_left
    · intro w' hSw; have k9 := (World.cell?_of_block (w := w3) (a := ⟨w1.heap.size, 9, none⟩) hSw).trans g9; have k27 := (World.cell?_of_block (w := w3) (a := ⟨w1.heap.size, 27, none⟩) hSw).trans g27; have k26 := (World.cell?_of_block (w := w3) (a := ⟨w1.heap.size, 26, none⟩) hSw).trans g26; go_simp; try with_reducible rfl
    simp only [Act.put, List.setIfInBounds_toArray, List.set_cons_zero, List.set_cons_succ]
    refine wpAnyH_take (i := 2) (oi := { dst := some 28, op := Op.fieldAddr 180 (Operand.tmp 27) 4, type := 0, pos := "run.go:350", after := #[{ on := 1, ground := Ground.data }], guard := none }) (v := ?_) rfl (by kernel_rfl) (by kernel_rfl) (by kernel_rfl) (fun _ _ _ h => h) (Or.inl ⟨by rfl, ?_⟩) (by assumption) ?_
    rotate_left
    · intro w' hSw; have k9 := (World.cell?_of_block (w := w3) (a := ⟨w1.heap.size, 9, none⟩) hSw).trans g9; have k27 := (World.cell?_of_block (w := w3) (a := ⟨w1.heap.size, 27, none⟩) hSw).trans g27; have k26 := (World.cell?_of_block (w := w3) (a := ⟨w1.heap.size, 26, none⟩) hSw).trans g26; go_simp; try with_reducible rfl
    simp only [Act.put, List.setIfInBounds_toArray, List.set_cons_zero, List.set_cons_succ]
    refine wpAnyH_take (i := 3) (oi := { dst := some 29, op := Op.load 44 (Operand.tmp 28), type := 44, pos := "run.go:350", after := #[{ on := 2, ground := Ground.data }], guard := none }) (v := ?_) rfl (by kernel_rfl) (by kernel_rfl) (by kernel_rfl) (fun _ _ _ h => h) (Or.inl ⟨by rfl, ?_⟩) (by assumption) ?_
    rotate_left
    · intro w' hSw; have k9 := (World.cell?_of_block (w := w3) (a := ⟨w1.heap.size, 9, none⟩) hSw).trans g9; have k27 := (World.cell?_of_block (w := w3) (a := ⟨w1.heap.size, 27, none⟩) hSw).trans g27; have k26 := (World.cell?_of_block (w := w3) (a := ⟨w1.heap.size, 26, none⟩) hSw).trans g26; go_simp; try with_reducible rfl
    simp only [Act.put, List.setIfInBounds_toArray, List.set_cons_zero, List.set_cons_succ]
    refine wpAnyH_take (i := 4) (oi := { dst := some 30, op := Op.move (Operand.tmp 11), type := 177, pos := "run.go:350", after := #[], guard := none }) (v := ?_) rfl (by kernel_rfl) (by kernel_rfl) (by kernel_rfl) (fun _ _ _ h => h) (Or.inl ⟨by rfl, ?_⟩) (by assumption) ?_
    rotate_left
    · intro w' hSw; have k9 := (World.cell?_of_block (w := w3) (a := ⟨w1.heap.size, 9, none⟩) hSw).trans g9; have k27 := (World.cell?_of_block (w := w3) (a := ⟨w1.heap.size, 27, none⟩) hSw).trans g27; have k26 := (World.cell?_of_block (w := w3) (a := ⟨w1.heap.size, 26, none⟩) hSw).trans g26; go_simp; try with_reducible rfl
    simp only [Act.put, List.setIfInBounds_toArray, List.set_cons_zero, List.set_cons_succ]
    refine wpAnyH_take (i := 5) (oi := { dst := some 31, op := Op.nilCheck (Operand.tmp 30), type := 0, pos := "run.go:350", after := #[{ on := 4, ground := Ground.data }], guard := none }) (v := ?_) rfl (by kernel_rfl) (by kernel_rfl) (by kernel_rfl) (fun _ _ _ h => h) (Or.inl ⟨by rfl, ?_⟩) (by assumption) ?_
    rotate_left
    · intro w' hSw; have k9 := (World.cell?_of_block (w := w3) (a := ⟨w1.heap.size, 9, none⟩) hSw).trans g9; have k27 := (World.cell?_of_block (w := w3) (a := ⟨w1.heap.size, 27, none⟩) hSw).trans g27; have k26 := (World.cell?_of_block (w := w3) (a := ⟨w1.heap.size, 26, none⟩) hSw).trans g26; go_simp; try with_reducible rfl
    simp only [Act.put, List.setIfInBounds_toArray, List.set_cons_zero, List.set_cons_succ]
    refine wpAnyH_take (i := 6) (oi := { dst := some 32, op := Op.fieldAddr 180 (Operand.tmp 31) 12, type := 0, pos := "run.go:350", after := #[{ on := 5, ground := Ground.data }], guard := none }) (v := ?_) rfl (by kernel_rfl) (by kernel_rfl) (by kernel_rfl) (fun _ _ _ h => h) (Or.inl ⟨by rfl, ?_⟩) (by assumption) ?_
    rotate_left
    · intro w' hSw; have k9 := (World.cell?_of_block (w := w3) (a := ⟨w1.heap.size, 9, none⟩) hSw).trans g9; have k27 := (World.cell?_of_block (w := w3) (a := ⟨w1.heap.size, 27, none⟩) hSw).trans g27; have k26 := (World.cell?_of_block (w := w3) (a := ⟨w1.heap.size, 26, none⟩) hSw).trans g26; go_simp; try with_reducible rfl
    simp only [Act.put, List.setIfInBounds_toArray, List.set_cons_zero, List.set_cons_succ]
    refine wpAnyH_take (i := 7) (oi := { dst := some 33, op := Op.load 3 (Operand.tmp 32), type := 3, pos := "run.go:350", after := #[{ on := 6, ground := Ground.data }], guard := none }) (v := ?_) rfl (by kernel_rfl) (by kernel_rfl) (by kernel_rfl) (fun _ _ _ h => h) (Or.inl ⟨by rfl, ?_⟩) (by assumption) ?_
    rotate_left
    · intro w' hSw; have k9 := (World.cell?_of_block (w := w3) (a := ⟨w1.heap.size, 9, none⟩) hSw).trans g9; have k27 := (World.cell?_of_block (w := w3) (a := ⟨w1.heap.size, 27, none⟩) hSw).trans g27; have k26 := (World.cell?_of_block (w := w3) (a := ⟨w1.heap.size, 26, none⟩) hSw).trans g26; go_simp; try with_reducible rfl
    simp only [Act.put, List.setIfInBounds_toArray, List.set_cons_zero, List.set_cons_succ]
    refine wpAnyH_take (i := 9) (oi := { dst := some 35, op := Op.move (Operand.tmp 11), type := 177, pos := "run.go:350", after := #[{ on := 16, ground := Ground.gcOnly Departure.lateStores }], guard := none }) (v := ?_) rfl (by kernel_rfl) (by kernel_rfl) (by kernel_rfl) (fun _ _ _ h => h) (Or.inl ⟨by rfl, ?_⟩) (by assumption) ?_
    rotate_left
    · intro w' hSw; have k9 := (World.cell?_of_block (w := w3) (a := ⟨w1.heap.size, 9, none⟩) hSw).trans g9; have k27 := (World.cell?_of_block (w := w3) (a := ⟨w1.heap.size, 27, none⟩) hSw).trans g27; have k26 := (World.cell?_of_block (w := w3) (a := ⟨w1.heap.size, 26, none⟩) hSw).trans g26; go_simp; try with_reducible rfl
    simp only [Act.put, List.setIfInBounds_toArray, List.set_cons_zero, List.set_cons_succ]
    refine wpAnyH_take (i := 10) (oi := { dst := some 36, op := Op.nilCheck (Operand.tmp 35), type := 0, pos := "run.go:350", after := #[{ on := 9, ground := Ground.data }, { on := 16, ground := Ground.gcOnly Departure.lateStores }], guard := none }) (v := ?_) rfl (by kernel_rfl) (by kernel_rfl) (by kernel_rfl) (fun _ _ _ h => h) (Or.inl ⟨by rfl, ?_⟩) (by assumption) ?_
    rotate_left
    · intro w' hSw; have k9 := (World.cell?_of_block (w := w3) (a := ⟨w1.heap.size, 9, none⟩) hSw).trans g9; have k27 := (World.cell?_of_block (w := w3) (a := ⟨w1.heap.size, 27, none⟩) hSw).trans g27; have k26 := (World.cell?_of_block (w := w3) (a := ⟨w1.heap.size, 26, none⟩) hSw).trans g26; go_simp; try with_reducible rfl
    simp only [Act.put, List.setIfInBounds_toArray, List.set_cons_zero, List.set_cons_succ]
    refine wpAnyH_take (i := 11) (oi := { dst := some 37, op := Op.fieldAddr 180 (Operand.tmp 36) 11, type := 0, pos := "run.go:350", after := #[{ on := 10, ground := Ground.data }, { on := 16, ground := Ground.gcOnly Departure.lateStores }], guard := none }) (v := ?_) rfl (by kernel_rfl) (by kernel_rfl) (by kernel_rfl) (fun _ _ _ h => h) (Or.inl ⟨by rfl, ?_⟩) (by assumption) ?_
    rotate_left
    · intro w' hSw; have k9 := (World.cell?_of_block (w := w3) (a := ⟨w1.heap.size, 9, none⟩) hSw).trans g9; have k27 := (World.cell?_of_block (w := w3) (a := ⟨w1.heap.size, 27, none⟩) hSw).trans g27; have k26 := (World.cell?_of_block (w := w3) (a := ⟨w1.heap.size, 26, none⟩) hSw).trans g26; go_simp; try with_reducible rfl
    simp only [Act.put, List.setIfInBounds_toArray, List.set_cons_zero, List.set_cons_succ]
    refine wpAnyH_take (i := 12) (oi := { dst := some 38, op := Op.load 34 (Operand.tmp 37), type := 34, pos := "run.go:350", after := #[{ on := 11, ground := Ground.data }, { on := 16, ground := Ground.gcOnly Departure.lateStores }], guard := none }) (v := ?_) rfl (by kernel_rfl) (by kernel_rfl) (by kernel_rfl) (fun _ _ _ h => h) (Or.inl ⟨by rfl, ?_⟩) (by assumption) ?_
    rotate_left
    · intro w' hSw; have k9 := (World.cell?_of_block (w := w3) (a := ⟨w1.heap.size, 9, none⟩) hSw).trans g9; have k27 := (World.cell?_of_block (w := w3) (a := ⟨w1.heap.size, 27, none⟩) hSw).trans g27; have k26 := (World.cell?_of_block (w := w3) (a := ⟨w1.heap.size, 26, none⟩) hSw).trans g26; go_simp; try with_reducible rfl
    simp only [Act.put, List.setIfInBounds_toArray, List.set_cons_zero, List.set_cons_succ]
    refine wpAnyH_take (i := 13) (oi := { dst := some 39, op := Op.move (Operand.tmp 11), type := 177, pos := "run.go:350", after := #[], guard := none }) (v := ?_) rfl (by kernel_rfl) (by kernel_rfl) (by kernel_rfl) (fun _ _ _ h => h) (Or.inl ⟨by rfl, ?_⟩) (by assumption) ?_
    rotate_left
    · intro w' hSw; have k9 := (World.cell?_of_block (w := w3) (a := ⟨w1.heap.size, 9, none⟩) hSw).trans g9; have k27 := (World.cell?_of_block (w := w3) (a := ⟨w1.heap.size, 27, none⟩) hSw).trans g27; have k26 := (World.cell?_of_block (w := w3) (a := ⟨w1.heap.size, 26, none⟩) hSw).trans g26; go_simp; try with_reducible rfl
    simp only [Act.put, List.setIfInBounds_toArray, List.set_cons_zero, List.set_cons_succ]
    refine wpAnyH_take (i := 15) (oi := { dst := some 41, op := Op.move (Operand.tmp 10), type := 41, pos := "run.go:350", after := #[{ on := 18, ground := Ground.gcOnly Departure.lateStores }], guard := none }) (v := ?_) rfl (by kernel_rfl) (by kernel_rfl) (by kernel_rfl) (fun _ _ _ h => h) (Or.inl ⟨by rfl, ?_⟩) (by assumption) ?_
    rotate_left
    · intro w' hSw; have k9 := (World.cell?_of_block (w := w3) (a := ⟨w1.heap.size, 9, none⟩) hSw).trans g9; have k27 := (World.cell?_of_block (w := w3) (a := ⟨w1.heap.size, 27, none⟩) hSw).trans g27; have k26 := (World.cell?_of_block (w := w3) (a := ⟨w1.heap.size, 26, none⟩) hSw).trans g26; go_simp; try with_reducible rfl
    simp only [Act.put, List.setIfInBounds_toArray, List.set_cons_zero, List.set_cons_succ]
    refine wpAnyH_ready (rs := [8]) (by kernel_rfl) (by simp) ?_
    refine AllReadyH.cons (o := { dst := some 34, op := Op.call { callee := Callee.value (Operand.func 108), args := #[Operand.tmp 29, Operand.tmp 33], argTypes := #[44, 3] }, type := 9, pos := "run.go:350", after := #[{ on := 3, ground := Ground.data }, { on := 7, ground := Ground.data }], guard := none }) rfl (fun K' hK' => ?_) AllReadyH.nil
    go_simp
    go_at_call 108
    refine (unhide H108).mono ?_
    rintro e w4 ⟨rfl, f4⟩
    have s4 : w4.heap[w1.heap.size]? = w3.heap[w1.heap.size]? := f4.same _ hb3 (fun h => h)
    have f34 : Fr (fun _ => False) w3 w4 (fun _ => False) := ((Fr.refl _ _).drew).trans f4
    have HC9 := hide (unhide H109 w4 f34)
    have F34 := hide f34
    clear f4 f34 H108 H109
    refine hK'.out _ _ ?_ (fun hHeld => ?_)
    · exact s4
    clear hK' K'
    try simp only [Act.put, List.setIfInBounds_toArray, List.set_cons_zero, List.set_cons_succ]
    refine wpAnyH_ready (rs := [14]) (by kernel_rfl) (by simp) ?_
    refine AllReadyH.cons (o := { dst := some 40, op := Op.call { callee := Callee.value (Operand.func 109), args := #[Operand.tmp 39], argTypes := #[177] }, type := 37, pos := "run.go:350", after := #[{ on := 13, ground := Ground.data }, { on := 8, ground := Ground.chain }], guard := none }) rfl (fun K' hK' => ?_) AllReadyH.nil
    go_simp
    go_at_call 109
    refine (unhide HC9).mono ?_
    rintro e w5 ⟨rfl, f5⟩
    have s5 : w5.heap[w1.heap.size]? = w3.heap[w1.heap.size]? := (f5.same _ (Nat.lt_of_lt_of_le hb3 (unhide F34).size) (fun h => h)).trans s4
    have f35 := (unhide F34).trans f5
    have e8 : w5.heap[w.heap.size + 1 + 1]? = some (.cells #[.int .i64 0, .int .i64 0, .int .i64 0, .int .i64 0, .int .i64 0, .int .i64 0, .int .i64 0] 37) := (f35.same _ (Array.getElem?_eq_some_iff.1 (unhide D83)).1 (fun h => h)).trans (unhide D83)
    have ct8 := fun j => cell_of_row w5 _ j _ 37 (0, 0) e8
    have ft8 := fun j => frozen_rowE e8 j
    have el8 := (Array.getElem?_eq_some_iff.1 e8).1
    have E8 := hide e8
    have F35 := hide f35
    clear f5 f35 HC9 e8
    refine hK'.out _ _ ?_ (fun hHeld => ?_)
    · exact s5
    clear hK' K'
    try simp only [Act.put, List.setIfInBounds_toArray, List.set_cons_zero, List.set_cons_succ]
    refine wpAnyH_take (i := 16) (oi := { dst := some 6, op := Op.assign (Operand.tmp 34), type := 9, pos := "run.go:350", after := #[{ on := 8, ground := Ground.data }, { on := 14, ground := Ground.chain }, { on := 0, ground := Ground.phase }, { on := 1, ground := Ground.phase }, { on := 2, ground := Ground.phase }, { on := 3, ground := Ground.phase }, { on := 4, ground := Ground.phase }, { on := 5, ground := Ground.phase }, { on := 6, ground := Ground.phase }, { on := 7, ground := Ground.phase }, { on := 8, ground := Ground.phase }, { on := 9, ground := Ground.textOnly Departure.lateStores }, { on := 10, ground := Ground.textOnly Departure.lateStores }, { on := 11, ground := Ground.textOnly Departure.lateStores }, { on := 12, ground := Ground.textOnly Departure.lateStores }, { on := 13, ground := Ground.textOnly Departure.lateStores }, { on := 14, ground := Ground.textOnly Departure.lateStoresUnsure }, { on := 15, ground := Ground.textOnly Departure.lateStores }], guard := none }) (v := ?_) rfl (by kernel_rfl) (by kernel_rfl) (by kernel_rfl) (fun _ _ _ h => h) (Or.inl ⟨by rfl, ?_⟩) (by assumption) ?_
    rotate_left
    · intro w' hSw; have k9 := (World.cell?_of_block (w := w3) (a := ⟨w1.heap.size, 9, none⟩) hSw).trans g9; have k27 := (World.cell?_of_block (w := w3) (a := ⟨w1.heap.size, 27, none⟩) hSw).trans g27; have k26 := (World.cell?_of_block (w := w3) (a := ⟨w1.heap.size, 26, none⟩) hSw).trans g26; go_simp; try with_reducible rfl
    simp only [Act.put, List.setIfInBounds_toArray, List.set_cons_zero, List.set_cons_succ]
    refine wpAnyH_take (i := 17) (oi := { dst := some 7, op := Op.assign (Operand.tmp 38), type := 34, pos := "run.go:350", after := #[{ on := 12, ground := Ground.data }, { on := 16, ground := Ground.chain }, { on := 0, ground := Ground.phase }, { on := 1, ground := Ground.phase }, { on := 2, ground := Ground.phase }, { on := 3, ground := Ground.phase }, { on := 4, ground := Ground.phase }, { on := 5, ground := Ground.phase }, { on := 6, ground := Ground.phase }, { on := 7, ground := Ground.phase }, { on := 8, ground := Ground.phase }, { on := 9, ground := Ground.phase }, { on := 10, ground := Ground.phase }, { on := 11, ground := Ground.phase }, { on := 12, ground := Ground.phase }, { on := 13, ground := Ground.textOnly Departure.lateStores }, { on := 14, ground := Ground.textOnly Departure.lateStoresUnsure }, { on := 15, ground := Ground.textOnly Departure.lateStores }, { on := 16, ground := Ground.phase }], guard := none }) (v := ?_) rfl (by kernel_rfl) (by kernel_rfl) (by kernel_rfl) (fun _ _ _ h => h) (Or.inl ⟨by rfl, ?_⟩) (by assumption) ?_
    rotate_left
    · intro w' hSw; have k9 := (World.cell?_of_block (w := w3) (a := ⟨w1.heap.size, 9, none⟩) hSw).trans g9; have k27 := (World.cell?_of_block (w := w3) (a := ⟨w1.heap.size, 27, none⟩) hSw).trans g27; have k26 := (World.cell?_of_block (w := w3) (a := ⟨w1.heap.size, 26, none⟩) hSw).trans g26; go_simp; try with_reducible rfl
    simp only [Act.put, List.setIfInBounds_toArray, List.set_cons_zero, List.set_cons_succ]
    simp only [finV]
    have hne8 : w1.heap.size ≠ w.heap.size + 1 + 1 := by omega
    have st : ∀ (V : World) (j : Nat) (u : Value), V.heap[w1.heap.size]? = w3.heap[w1.heap.size]? → (V.setCell ⟨w.heap.size + 1 + 1, j, none⟩ u).heap[w1.heap.size]? = w3.heap[w1.heap.size]? := fun V j u hv => (Below.heap_setCell _ _ _ _ hne8).trans hv
    have hs7 : (((((((w5.setCell ⟨w.heap.size + 1 + 1, 0, none⟩ (.int .i64 s3.fin)).setCell ⟨w.heap.size + 1 + 1, 1, none⟩ (.int .i64 (s3.reg 0))).setCell ⟨w.heap.size + 1 + 1, 2, none⟩ (.int .i64 (s3.reg 1))).setCell ⟨w.heap.size + 1 + 1, 3, none⟩ (.int .i64 (s3.reg 2))).setCell ⟨w.heap.size + 1 + 1, 4, none⟩ (.int .i64 (s3.reg 3))).setCell ⟨w.heap.size + 1 + 1, 5, none⟩ (.int .i64 s3.clock)).setCell ⟨w.heap.size + 1 + 1, 6, none⟩ (.int .i64 s3.heard)).heap[w1.heap.size]? = w3.heap[w1.heap.size]? := st _ _ _ (st _ _ _ (st _ _ _ (st _ _ _ (st _ _ _ (st _ _ _ (st _ _ _ s5))))))
    have hy7 := out7 (unhide E8) (.int .i64 s3.fin) (.int .i64 (s3.reg 0)) (.int .i64 (s3.reg 1)) (.int .i64 (s3.reg 2)) (.int .i64 (s3.reg 3)) (.int .i64 s3.clock) (.int .i64 s3.heard)
    have hge8 : w.heap.size ≤ w.heap.size + 1 + 1 := by omega
    have hrow7 : w5.ownsRow w.heap.size 72 3 (.slice ua s3.trace.length uc) s3.trace.length (flatE s3.trace) := ownsRow_of_block (unhide HROW3) (fun q hq => (unhide F35).same q (World.ownsRow.lt (unhide HROW3) q hq).2 (fun h => h))
    have st8 : ∀ (V : World) (j : Nat) (u : Value), V.ownsRow w.heap.size 72 3 (.slice ua s3.trace.length uc) s3.trace.length (flatE s3.trace) → (V.setCell ⟨w.heap.size + 1 + 1, j, none⟩ u).ownsRow w.heap.size 72 3 (.slice ua s3.trace.length uc) s3.trace.length (flatE s3.trace) := fun V j u hv => ownsRow_of_block hv (fun q hq => Below.heap_setCell _ _ _ _ (fun e => unhide HP8 (by have e' : q = w.heap.size + 1 + 1 := e; rw [← e']; exact (unhide HINV q hq).1)))
    have hr7 := st8 _ 6 (.int .i64 s3.heard) (st8 _ 5 (.int .i64 s3.clock) (st8 _ 4 (.int .i64 (s3.reg 3)) (st8 _ 3 (.int .i64 (s3.reg 2)) (st8 _ 2 (.int .i64 (s3.reg 1)) (st8 _ 1 (.int .i64 (s3.reg 0)) (st8 _ 0 (.int .i64 s3.fin) hrow7))))))
    have hft : Fr (fun _ => False) w w5 (fun _ => False) := by
      have g1 : Fr (fun _ => False) w w3 (fun _ => False) := ⟨(unhide F3).os.trans (unhide HFW).os, (unhide F3).tape.trans (unhide HFW).tape, (unhide F3).output.trans (unhide HFW).output, Nat.le_trans (unhide HFW).size (unhide F3).size, fun k hk _ => ((unhide F3).same k (Nat.lt_of_lt_of_le hk (unhide HFW).size) (fun e => by have e' : k = w1.heap.size := e; omega)).trans ((unhide HFW).same k hk (fun h => h)), fun _ _ h => h⟩
      exact g1.trans (unhide F35)
    have HFT := hide hft
    have hf7 := ((((((((unhide HFT).setCell ⟨w.heap.size + 1 + 1, 0, none⟩ (.int .i64 s3.fin) (.inr hge8)).setCell ⟨w.heap.size + 1 + 1, 1, none⟩ (.int .i64 (s3.reg 0)) (.inr hge8)).setCell ⟨w.heap.size + 1 + 1, 2, none⟩ (.int .i64 (s3.reg 1)) (.inr hge8)).setCell ⟨w.heap.size + 1 + 1, 3, none⟩ (.int .i64 (s3.reg 2)) (.inr hge8)).setCell ⟨w.heap.size + 1 + 1, 4, none⟩ (.int .i64 (s3.reg 3)) (.inr hge8)).setCell ⟨w.heap.size + 1 + 1, 5, none⟩ (.int .i64 s3.clock) (.inr hge8)).setCell ⟨w.heap.size + 1 + 1, 6, none⟩ (.int .i64 s3.heard) (.inr hge8))
    have HS7 := hide hs7
    have HY7 := hide hy7
    have HR7 := hide hr7
    have HF7 := hide hf7
    clear hs7 hy7 hr7 hf7 st st8 hrow7 hft
    refine wpAnyH_ready (rs := [18]) (by kernel_rfl) (by simp) ?_
    refine AllReadyH.cons (o := { dst := none, op := Op.store 37 (Operand.tmp 8) (Operand.tmp 40), type := 0, pos := "run.go:350", after := #[{ on := 14, ground := Ground.data }, { on := 17, ground := Ground.chain }, { on := 0, ground := Ground.phase }, { on := 1, ground := Ground.phase }, { on := 2, ground := Ground.phase }, { on := 3, ground := Ground.phase }, { on := 4, ground := Ground.phase }, { on := 5, ground := Ground.phase }, { on := 6, ground := Ground.phase }, { on := 7, ground := Ground.phase }, { on := 8, ground := Ground.phase }, { on := 9, ground := Ground.phase }, { on := 10, ground := Ground.phase }, { on := 11, ground := Ground.phase }, { on := 12, ground := Ground.phase }, { on := 13, ground := Ground.phase }, { on := 14, ground := Ground.phase }, { on := 15, ground := Ground.textOnly Departure.lateStores }, { on := 16, ground := Ground.phase }, { on := 17, ground := Ground.phase }], guard := none }) rfl (fun K' hK' => ?_) AllReadyH.nil
    go_simp
    refine hK'.out _ _ ?_ (fun hHeld => ?_)
    · exact unhide HS7
    clear hK' K'
    try simp only [Act.put, List.setIfInBounds_toArray, List.set_cons_zero, List.set_cons_succ]
    refine wpAnyH_take (i := 19) (oi := { dst := some 9, op := Op.assign (Operand.tmp 41), type := 41, pos := "run.go:350", after := #[{ on := 15, ground := Ground.data }, { on := 18, ground := Ground.chain }, { on := 0, ground := Ground.phase }, { on := 1, ground := Ground.phase }, { on := 2, ground := Ground.phase }, { on := 3, ground := Ground.phase }, { on := 4, ground := Ground.phase }, { on := 5, ground := Ground.phase }, { on := 6, ground := Ground.phase }, { on := 7, ground := Ground.phase }, { on := 8, ground := Ground.phase }, { on := 9, ground := Ground.phase }, { on := 10, ground := Ground.phase }, { on := 11, ground := Ground.phase }, { on := 12, ground := Ground.phase }, { on := 13, ground := Ground.phase }, { on := 14, ground := Ground.phase }, { on := 15, ground := Ground.phase }, { on := 16, ground := Ground.phase }, { on := 17, ground := Ground.phase }, { on := 18, ground := Ground.phase }], guard := none }) (v := ?_) rfl (by kernel_rfl) (by kernel_rfl) (by kernel_rfl) (fun _ _ _ h => h) (Or.inl ⟨by rfl, ?_⟩) (by assumption) ?_
    rotate_left
    · intro w' hSw; have k9 := (World.cell?_of_block (w := w3) (a := ⟨w1.heap.size, 9, none⟩) hSw).trans g9; have k27 := (World.cell?_of_block (w := w3) (a := ⟨w1.heap.size, 27, none⟩) hSw).trans g27; have k26 := (World.cell?_of_block (w := w3) (a := ⟨w1.heap.size, 26, none⟩) hSw).trans g26; go_simp; try with_reducible rfl
    simp only [Act.put, List.setIfInBounds_toArray, List.set_cons_zero, List.set_cons_succ]
    refine wpAnyH_done (by kernel_rfl) ?_ _
    generalize hV : (((((((w5.setCell ⟨w.heap.size + 1 + 1, 0, none⟩ (.int .i64 s3.fin)).setCell ⟨w.heap.size + 1 + 1, 1, none⟩ (.int .i64 (s3.reg 0))).setCell ⟨w.heap.size + 1 + 1, 2, none⟩ (.int .i64 (s3.reg 1))).setCell ⟨w.heap.size + 1 + 1, 3, none⟩ (.int .i64 (s3.reg 2))).setCell ⟨w.heap.size + 1 + 1, 4, none⟩ (.int .i64 (s3.reg 3))).setCell ⟨w.heap.size + 1 + 1, 5, none⟩ (.int .i64 s3.clock)).setCell ⟨w.heap.size + 1 + 1, 6, none⟩ (.int .i64 s3.heard)) = V at *
    clear hV
    have ky := fun j => cell_of_row V _ j _ 37 (0, 0) (unhide HY7)
    go_wp2
    refine bodyPost_ret (v := .tuple #[.string (recLog (s3, x3)), .slice ua s3.trace.length uc, finV s3, .int .i64 0]) (by simp [results, Tryz.results72, go_sem, ky, finV]) rfl ?_
    refine ⟨unhide HF7, 0, unhide HANS, .inr ⟨rfl, .slice ua s3.trace.length uc, ?_, ?_⟩⟩
    · rw [unhide HR]
    · rw [unhide HR]; exact unhide HR7
  · have hxb : (x == 0) = false := by simpa using hx
    go_wp2
    have y8 := out7 (unhide B8) (.int .i64 0) (.int .i64 0) (.int .i64 0) (.int .i64 0) (.int .i64 0) (.int .i64 0) (.int .i64 0)
    have ky := fun j => cell_of_row _ _ j _ 37 (0, 0) y8
    refine bodyPost_ret (v := .tuple #[.string ⟨#[]⟩, .slice none 0 0, .agg #[.int .i64 0, .int .i64 0, .int .i64 0, .int .i64 0, .int .i64 0, .int .i64 0, .int .i64 0], .int .i64 x]) (by simp [results, Tryz.results72, go_sem, ky]) rfl ?_
    refine ⟨?_, x, unhide HANS, .inl ⟨hx, rfl⟩⟩
    exact (((((((Fr.of_below (unhide HW1)).setCell ⟨w.heap.size + 1 + 1, 0, none⟩ _ (.inr (by show w.heap.size ≤ w.heap.size + 1 + 1; omega))).setCell ⟨w.heap.size + 1 + 1, 1, none⟩ _ (.inr (by show w.heap.size ≤ w.heap.size + 1 + 1; omega))).setCell ⟨w.heap.size + 1 + 1, 2, none⟩ _ (.inr (by show w.heap.size ≤ w.heap.size + 1 + 1; omega))).setCell ⟨w.heap.size + 1 + 1, 3, none⟩ _ (.inr (by show w.heap.size ≤ w.heap.size + 1 + 1; omega))).setCell ⟨w.heap.size + 1 + 1, 4, none⟩ _ (.inr (by show w.heap.size ≤ w.heap.size + 1 + 1; omega))).setCell ⟨w.heap.size + 1 + 1, 5, none⟩ _ (.inr (by show w.heap.size ≤ w.heap.size + 1 + 1; omega))).setCell ⟨w.heap.size + 1 + 1, 6, none⟩ _ (.inr (by show w.heap.size ≤ w.heap.size + 1 + 1; omega))
end Go.Proofs.YtfmbebofllgmoaaGreatDoor
namespace Go.Proofs.YtfmbebofllgmoaaGreatDoor
open Go.RowKit

theorem ValsC.mono {w : World} {v : Value} {l : List Value} {P Q : Nat → Prop} (h : ValsC w v l P) (hp : ∀ q, P q → Q q) : ValsC w v l Q := by
  obtain ⟨a, c, hv, hc, hl⟩ := h
  exact ⟨a, c, hv, hc, hl.imp id fun ⟨q, off, e, hq, hcell⟩ => ⟨q, off, e, hp q hq, hcell⟩⟩
theorem ValsC.vals {w : World} {v : Value} {l : List Value} {P : Nat → Prop} (h : ValsC w v l P) : ValsIn w v l P := by
  obtain ⟨a, c, hv, _, hl⟩ := h
  exact ⟨a, c, hv, hl⟩
theorem IntsC.ints {w : World} {v : Value} {l : List Int} {P : Nat → Prop} (h : IntsC w v l P) : IntsIn w v l P := by
  obtain ⟨a, c, hv, _, hl⟩ := h
  refine ⟨a, c, by simpa using hv, hl.imp (by simp) fun ⟨q, off, e, hq, hcell⟩ => ⟨q, off, e, hq, fun i hi => ?_⟩⟩
  rw [hcell i (by simpa using hi)]
  simp [hi]

/-- A script's world, below a bound. -/
structure WorldC (w : World) (q0 q1 q2 q3 : Value) (lc : List Int) (bs : List (Value × List Int)) (lp ll : List Int) : Prop where
  c0 : IntsC w q0 lc (fun q => q < w.heap.size)
  c1 : ValsC w q1 (bs.map (·.1)) (fun q => q < w.heap.size)
  c2 : IntsC w q2 lp (fun q => q < w.heap.size)
  c3 : IntsC w q3 ll (fun q => q < w.heap.size)
  cb : ∀ b, b ∈ bs → IntsIn w b.1 b.2 (fun q => q < w.heap.size) ∧ b.2.length ≤ 100000000
  n0 : lc.length ≤ 4000000
  n1 : bs.length ≤ 4000000
  n2 : lp.length ≤ 4000000
  n3 : ll.length ≤ 4000000
theorem WorldC.below {w w' : World} {q0 q1 q2 q3 : Value} {lc lp ll : List Int} {bs : List (Value × List Int)} (h : WorldC w q0 q1 q2 q3 lc bs lp ll) (hb : Below w.heap.size w w') : WorldC w' q0 q1 q2 q3 lc bs lp ll := by
  have k : ∀ q, q < w.heap.size → w'.heap[q]? = w.heap[q]? := fun q hq => hb.block q hq
  have m : ∀ q, q < w.heap.size → q < w'.heap.size := fun q hq => Nat.lt_of_lt_of_le hq hb.size
  exact ⟨(ValsC.keep h.c0 k).mono m, (h.c1.keep k).mono m, (ValsC.keep h.c2 k).mono m, (ValsC.keep h.c3 k).mono m, fun b hb => ⟨intsIn_kept (h.cb b hb).1 k m, (h.cb b hb).2⟩, h.n0, h.n1, h.n2, h.n3⟩
theorem WorldC.bats {w : World} {q0 q1 q2 q3 : Value} {lc lp ll : List Int} {bs : List (Value × List Int)} (h : WorldC w q0 q1 q2 q3 lc bs lp ll) : BatsC w q1 (bs.map (·.2)) (fun q => q < w.heap.size) := by
  refine ⟨bs.map (·.1), h.c1, by simp, fun i u l hu hl => ?_⟩
  simp only [List.getElem?_map, Option.map_eq_some_iff] at hu hl
  obtain ⟨b, hb, rfl⟩ := hu
  obtain ⟨b', hb', rfl⟩ := hl
  rw [hb] at hb'
  cases hb'
  exact (h.cb b (List.mem_of_getElem? hb)).1

/-- The lent batches, with their values. -/
def bsOf (G : Nat → Nat) (ls : List (List Int)) : List (Value × List Int) := (List.range ls.length).map (fun i => (sN (G i) (ls.getD i []), ls.getD i []))
theorem bsOf_len (G : Nat → Nat) (ls : List (List Int)) : (bsOf G ls).length = ls.length := by simp [bsOf]
theorem bsOf_snd (G : Nat → Nat) (ls : List (List Int)) : (bsOf G ls).map (·.2) = ls := by
  apply List.ext_getElem
  · simp [bsOf]
  · intro i h1 h2
    simp [bsOf, h2]
theorem OwnN.ints {w : World} {g : Nat} {l : List Int} {P : Nat → Prop} (h : OwnN w g (l.length + 4) l) (hg : P g) : IntsIn w (sN g l) l P := by
  refine ⟨some ⟨g, 0, none⟩, l.length + 4, rfl, .inr ⟨g, 0, rfl, hg, fun i hi => ?_⟩⟩
  rw [Nat.zero_add, h.cells i (by omega)]
  simp [hi]
theorem OwnBt.vals {w : World} {g : Nat} {ls : List (List Int)} {G : Nat → Nat} {P : Nat → Prop} (h : OwnBt w g ls.length ls.length ls G) (hg : P g) : ValsIn w (.slice (some ⟨g, 0, none⟩) ls.length (ls.length + 4)) ((bsOf G ls).map (·.1)) P := by
  refine ⟨some ⟨g, 0, none⟩, ls.length + 4, by simp [bsOf], .inr ⟨g, 0, rfl, hg, fun i hi => ?_⟩⟩
  have hi' : i < ls.length := by simpa [bsOf] using hi
  rw [Nat.zero_add, h.heads i hi' hi']
  simp [bsOf, hi', sN]
theorem OwnBt.each {w : World} {g : Nat} {ls : List (List Int)} {G : Nat → Nat} {L : Nat → Prop} (h : OwnBt w g ls.length ls.length ls G) (hL : ∀ i, i < ls.length → L (G i)) (hn : ∀ l, l ∈ ls → l.length ≤ 100000000) : ∀ b, b ∈ bsOf G ls → IntsIn w b.1 b.2 L ∧ b.2.length ≤ 100000000 := by
  intro b hb
  simp only [bsOf, List.mem_map, List.mem_range] at hb
  obtain ⟨i, hi, rfl⟩ := hb
  refine ⟨(h.own i hi hi).ints (hL i hi), hn _ ?_⟩
  simp only [List.getD_eq_getElem?_getD, List.getElem?_eq_getElem hi, Option.getD_some]
  exact List.getElem_mem hi

section
variable (p : Pg) (f : Int) (lc : List Int) (bs : List (Value × List Int)) (lp ll : List Int) (x : Int)
/-- The log that Record answers, by the error. -/
def routS : ByteArray := if x = 0 then recLog (recM p f lc bs lp ll) else ⟨#[]⟩
/-- Its trace. -/
def routT : List O3 := if x = 0 then (recM p f lc bs lp ll).1.trace else []
/-- Its Final's numbers. -/
def routF : PS := if x = 0 then (recM p f lc bs lp ll).1 else { (recM p f lc bs lp ll).1 with fin := 0, reg := fun _ => 0, clock := 0, heard := 0 }
end
theorem RecPost.out {w w' : World} {p : Pg} {f : Int} {lc lp ll : List Int} {bs : List (Value × List Int)} {e : Ending} (h : RecPost w p f lc bs lp ll e w') :
    Fr (fun _ => False) w w' (fun _ => False) ∧ ∃ x, Ans p.tn p.fn (1 + p.tn + p.fn) (allL p.sn p.tn p.tl p.fl) (allF p.tn p.sf p.tf p.ff) x ∧ ∃ a c,
      e = .returned (.tuple #[.string (routS p f lc bs lp ll x), .slice a (routT p f lc bs lp ll x).length c, finV (routF p f lc bs lp ll x), .int .i64 x]) ∧ w'.ownsRow w.heap.size 72 3 (.slice a (routT p f lc bs lp ll x).length c) (routT p f lc bs lp ll x).length (flatE (routT p f lc bs lp ll x)) := by
  obtain ⟨hf, x, hx, ⟨h0, he⟩ | ⟨h0, vt, he, hr⟩⟩ := h
  · refine ⟨hf, x, hx, none, 0, ?_, ?_⟩
    · rw [he]; simp [routS, routT, routF, h0, finV]
    · simp only [routT, h0, if_false]
      exact World.ownsRow_nil _ _ _ _
  · subst h0
    obtain ⟨a, c, rfl⟩ := row_shape hr
    refine ⟨hf, 0, hx, a, c, ?_, ?_⟩
    · rw [he]; simp [routS, routT, routF]
    · simpa [routT] using hr
theorem routT_le {p : Pg} {f : Int} {lc lp ll : List Int} {bs : List (Value × List Int)} {x : Int} (hx : Ans p.tn p.fn (1 + p.tn + p.fn) (allL p.sn p.tn p.tl p.fl) (allF p.tn p.sf p.tf p.ff) x) : (routT p f lc bs lp ll x).length ≤ 5000 + 16 * (lc.length + 1) := by
  unfold routT
  split
  · next h => subst h; exact recM_trace (pgok_of_ans hx) f lc bs lp ll
  · simp
/-- The log of a Record, as Again knows it. -/
def LogOf (p : Pg) (f : Int) (lc : List Int) (ls : List (List Int)) (lp ll : List Int) (sg : ByteArray) : Prop :=
  (PgOk p → ∃ bs : List (Value × List Int), bs.map (·.2) = ls ∧ sg = recLog (recM p f lc bs lp ll)) ∧ (¬ PgOk p → sg = ⟨#[]⟩)
theorem logOf_rout {p : Pg} {f : Int} {lc lp ll : List Int} {bs : List (Value × List Int)} {x : Int} (hx : Ans p.tn p.fn (1 + p.tn + p.fn) (allL p.sn p.tn p.tl p.fl) (allF p.tn p.sf p.tf p.ff) x) : LogOf p f lc (bs.map (·.2)) lp ll (routS p f lc bs lp ll x) := by
  refine ⟨fun ok => ⟨bs, rfl, ?_⟩, fun h => ?_⟩
  · have : x = 0 := hx.one (ans_of_ok ok)
    subst this; simp [routS]
  · have : x ≠ 0 := fun e => h (by subst e; exact pgok_of_ans hx)
    simp [routS, this]
end Go.Proofs.YtfmbebofllgmoaaGreatDoor
namespace Go.Proofs.YtfmbebofllgmoaaGreatDoor
open Go.RowKit
attribute [local go_sem ↓] Go.wp_at_zero Go.wp_at_succ

theorem OwnN.block {w w' : World} {g k : Nat} {l : List Int} (h : OwnN w g k l) (e : w'.heap[g]? = w.heap[g]?) : OwnN w' g k l :=
  ⟨fun i hi => by rw [World.cell?_of_block (w := w) (a := ⟨g, i, none⟩) e, World.frozen?_of_block (w := w) (a := ⟨g, i, none⟩) e]; exact h.there i hi, fun i hi => by rw [World.cell?_of_block (w := w) (a := ⟨g, i, none⟩) e]; exact h.cells i hi⟩
theorem OwnBt.block {w w' : World} {g n k : Nat} {ls : List (List Int)} {G : Nat → Nat} (h : OwnBt w g n k ls G) (e : w'.heap[g]? = w.heap[g]?) (eG : ∀ i, i < k → i < n → w'.heap[G i]? = w.heap[G i]?) (hz : w.heap.size ≤ w'.heap.size) : OwnBt w' g n k ls G :=
  ⟨fun i hi => by rw [World.cell?_of_block (w := w) (a := ⟨g, i, none⟩) e, World.frozen?_of_block (w := w) (a := ⟨g, i, none⟩) e]; exact h.there i hi, fun i hi hn => by rw [World.cell?_of_block (w := w) (a := ⟨g, i, none⟩) e]; exact h.heads i hi hn,
    fun i hi hn => ⟨(h.far i hi hn).1, Nat.lt_of_lt_of_le (h.far i hi hn).2 hz⟩, fun i hi hn => (h.own i hi hn).block (eG i hi hn)⟩
/-- The Book has one list of events more. -/
def EvKept (w w' : World) (B bb : Nat) (vI vN : Value) (LI LE LN : List Ent) : Prop :=
  ∃ n' vE' LE' K', BookK w' B bb n' vI vE' vN LI LE' LN K' ∧ LE'.length = LE.length + 1 ∧ Below B w w'
theorem KeptE.ev {w w7 w' : World} {B bb : Nat} {n : Int} {vI vE vN lv : Value} {LI LE LN : List Ent} {K : Nat → Prop} (h : KeptE w7 w' B bb n vI vE vN LI LE LN K lv) (hb : Below B w w7) (hbb : B ≤ bb) (hE : ∀ q, own vE q → B ≤ q) (hl : ∀ q, own lv q → B ≤ q) (hBw : B ≤ w7.heap.size) : EvKept w w' B bb vI vN LI LE LN := by
  obtain ⟨vX, e, K', h1, _, _, h4⟩ := h
  refine ⟨n, vX, _, K', h1, by simp, hb.trans (h4.below (fun k hk => ?_) hBw)⟩
  rcases hk with rfl | hk | hk | hk
  · exact hbb
  · exact hE k hk
  · exact hl k hk
  · omega

set_option maxHeartbeats 4000000 in
set_option maxRecDepth 20000 in
theorem recordF_any {w w0 : World} {bb : Nat} {n0 : Int} {vI vE vN : Value} {LI LE LN : List Ent} {K : Nat → Prop} (h : BookK w w0.heap.size bb n0 vI vE vN LI LE LN K) (hbb : w0.heap.size ≤ bb) (hbw : Below w0.heap.size w0 w) (ht : TabIn w0)
    {p1 p2 p3 : Value} {p : Pg} (hpg : PgAt w0 (pvOf p1 p2 p3 undef) p) {q0 q1 q2 q3 : Value} {lc lp ll : List Int} {bs : List (Value × List Int)} (hwo : WorldC w0 q0 q1 q2 q3 lc bs lp ll) (kd lg : Value) (f : Int) (hL : LE.length ≤ 900000000000) :
    Calls Tryz.prog 42 #[.pointer (some ⟨bb, 0, none⟩), .agg #[kd, p1, p2, p3, q0, q1, q2, q3, lg, .int .i64 f]] w fun e w' => ∃ sg, e = .returned (.tuple #[.string sg, .bool true]) ∧ LogOf p f lc (bs.map (·.2)) lp ll sg ∧ EvKept w w' w0.heap.size bb vI vN LI LE LN ∧ ∀ k, k < w.heap.size → k ≠ bb → ¬ own vE k → w'.heap[k]? = w.heap[k]? := by
  have i1 : OpsIn w0 p1 p.sn p.sf := hpg.s
  have i2 : HandsIn w0 p2 p.tn p.tl p.tf := hpg.t
  have i3 : HandsIn w0 p3 p.fn p.fl p.ff := hpg.f
  have n1 := opsIn_len i1
  have n2 := handsIn_len i2
  have n3 := handsIn_len i3
  have e2 := handsIn_each i2
  have e3 := handsIn_each i3
  obtain ⟨W0, hW⟩ : ∃ W0, W0 = w.alloc (.cells #[kd, p1, p2, p3, q0, q1, q2, q3, lg, .int .i64 f] 67) := ⟨_, rfl⟩
  have g0 : Below w.heap.size w W0 := by subst hW; exact (Below.refl _ _).alloc (Nat.le_refl _) _
  have s0 : W0.heap.size = w.heap.size + 1 := by subst hW; simp
  have b0 : W0.heap[w.heap.size]? = some (.cells #[kd, p1, p2, p3, q0, q1, q2, q3, lg, .int .i64 f] 67) := by subst hW; exact heap_alloc_new _ _
  have hsw : w0.heap.size ≤ w.heap.size := hbw.size
  have h00 : Below w0.heap.size w0 W0 := hbw.trans (g0.mono hsw)
  have H39 := hide (program_any p1 p2 p3 p.sn p.tn p.fn p.sf p.tl p.fl p.tf p.ff W0 (opsIn_below h00 i1) (handsIn_below h00 i2) (handsIn_below h00 i3))
  have hbkb : bb < w.heap.size := (Array.getElem?_eq_some_iff.1 h.bk.blk).1
  have hbkE : ∀ q, own vE q → w0.heap.size ≤ q ∧ q < w.heap.size := fun q hq => World.ownsRow.lt h.bk.rE q hq
  have HH := hide h
  have HPG := hide hpg
  have HWO := hide hwo
  have HT := hide ht
  have G0 := hide g0
  have H00 := hide h00
  have HBW := hide hbw
  have B0 := hide b0
  have HW := hide hW
  have I1 := hide i1
  have I2 := hide i2
  have I3 := hide i3
  have N1 := hide n1
  have N2 := hide n2
  have N3 := hide n3
  have E2 := hide e2
  have E3 := hide e3
  have HE := hide hbkE
  have HL := hide hL
  have HBB := hide hbb
  have e35 := eq35
  clear h hpg hwo ht g0 h00 hbw b0 hW i1 i2 i3 n1 n2 n3 e2 e3 hbkE hL hbb
  go_enter Tryz.func42, Tryz.ntmps42
  go_wp2_with fail
  rw [← unhide HW]
  go_at_call 39
  refine (unhide H39).mono ?_
  rintro e w1 ⟨g1, g2, g3, G2, G3, rfl, hb1, m1, m12, m23, mG, o1, o2, o3⟩
  have x1 := keepblk hb1 (unhide B0)
  have z1 : W0.heap.size ≤ w1.heap.size := hb1.size
  obtain ⟨W1, hW1⟩ : ∃ W1, W1 = w1.alloc (.cells #[.slice (some ⟨g1, 0, none⟩) p.sn (p.sn + 4), .slice (some ⟨g2, 0, none⟩) p.tn (p.tn + 4), .slice (some ⟨g3, 0, none⟩) p.fn (p.fn + 4)] 33) := ⟨_, rfl⟩
  have c1 : Below w1.heap.size w1 W1 := by subst hW1; exact (Below.refl _ _).alloc (Nat.le_refl _) _
  have s1 : W1.heap.size = w1.heap.size + 1 := by subst hW1; simp
  have y1 : W1.heap[w1.heap.size]? = some (.cells #[.slice (some ⟨g1, 0, none⟩) p.sn (p.sn + 4), .slice (some ⟨g2, 0, none⟩) p.tn (p.tn + 4), .slice (some ⟨g3, 0, none⟩) p.fn (p.fn + 4)] 33) := by subst hW1; exact heap_alloc_new _ _
  have d1 : Below W0.heap.size W0 W1 := hb1.trans (c1.mono z1)
  have h01 : Below w0.heap.size w0 W1 := (unhide H00).trans (d1.mono (by omega))
  have wc1 := (unhide HWO).below h01
  have l1 : g1 < w1.heap.size := opAt_lt (o1.cells 0 (by omega))
  have l2 : g2 < w1.heap.size := World.block_lt_of_cell? w1 ⟨g2, p.tn, none⟩ (o2.pads p.tn (by omega) (by omega))
  have l3 : g3 < w1.heap.size := World.block_lt_of_cell? w1 ⟨g3, p.fn, none⟩ (o3.pads p.fn (by omega) (by omega))
  have pg1 : PgAt W1 (pvOf (.slice (some ⟨g1, 0, none⟩) p.sn (p.sn + 4)) (.slice (some ⟨g2, 0, none⟩) p.tn (p.tn + 4)) (.slice (some ⟨g3, 0, none⟩) p.fn (p.fn + 4)) undef) p :=
    ⟨(o1.below c1 l1).opsIn (unhide N1), (o2.below c1 l2 (fun i hi => (o2.far i hi).2)).handsIn (unhide N2) (unhide E2), (o3.below c1 l3 (fun i hi => (o3.far i hi).2)).handsIn (unhide N3) (unhide E3)⟩
  obtain ⟨ls, hls⟩ : ∃ ls, ls = bs.map (·.2) := ⟨_, rfl⟩
  have hln : bs.length = ls.length := by rw [hls, List.length_map]
  have h71 := world_any (w := W1) (P := fun q => q < W1.heap.size) (fun _ h => h) wc1.c0.ints wc1.c1.vals wc1.c2.ints wc1.c3.ints (fun b hb => ⟨(wc1.cb b hb).1, by have := (wc1.cb b hb).2; omega⟩) (by have := wc1.n0; omega) (by have := wc1.n1; omega) (by have := wc1.n2; omega) (by have := wc1.n3; omega)
  rw [← hls, hln] at h71
  simp only [sN] at h71
  have H71 := hide h71
  have X1 := hide x1
  have Y1 := hide y1
  have C1 := hide c1
  have D1 := hide d1
  have H01 := hide h01
  have PG1 := hide pg1
  have HW1 := hide hW1
  have O1 := hide o1
  have O2 := hide o2
  have O3 := hide o3
  have HLS := hide hls
  have HLN := hide hln
  have MG := hide mG
  have HB1 := hide hb1
  have k1 := fun j => cell_of_row w1 w.heap.size j _ 67 (0, 0) x1
  have hlt1 : w.heap.size < w1.heap.size := by omega
  clear h71 x1 y1 c1 d1 h01 wc1 pg1 hW1 o1 o2 o3 hls hln mG hb1 H39 HW
  go_wp2_with fail
  rw [← unhide HW1]
  go_at_call 71
  refine (unhide H71).mono ?_
  rintro e w2 ⟨u0, ub, u2, u3, GB, rfl, hb2, v0, vb, v2, v3, on0, on2, on3, onb⟩
  have x2 := keepblk hb2 (keepblk (unhide C1) (unhide X1))
  have y2 := keepblk hb2 (unhide Y1)
  have z2 : W1.heap.size ≤ w2.heap.size := hb2.size
  obtain ⟨W2, hW2⟩ : ∃ W2, W2 = w2.alloc (.cells #[.slice (some ⟨u0, 0, none⟩) lc.length (lc.length + 4), .slice (some ⟨ub, 0, none⟩) ls.length (ls.length + 4), .slice (some ⟨u2, 0, none⟩) lp.length (lp.length + 4), .slice (some ⟨u3, 0, none⟩) ll.length (ll.length + 4)] 29) := ⟨_, rfl⟩
  have c2 : Below w2.heap.size w2 W2 := by subst hW2; exact (Below.refl _ _).alloc (Nat.le_refl _) _
  have s2 : W2.heap.size = w2.heap.size + 1 := by subst hW2; simp
  have y3 : W2.heap[w2.heap.size]? = some (.cells #[.slice (some ⟨u0, 0, none⟩) lc.length (lc.length + 4), .slice (some ⟨ub, 0, none⟩) ls.length (ls.length + 4), .slice (some ⟨u2, 0, none⟩) lp.length (lp.length + 4), .slice (some ⟨u3, 0, none⟩) ll.length (ll.length + 4)] 29) := by subst hW2; exact heap_alloc_new _ _
  have d2 : Below W1.heap.size W1 W2 := hb2.trans (c2.mono z2)
  have r0 : u0 < w2.heap.size := on0.lt (by omega)
  have r2 : u2 < w2.heap.size := on2.lt (by omega)
  have r3 : u3 < w2.heap.size := on3.lt (by omega)
  have rb : ub < w2.heap.size := (by obtain ⟨v, hv⟩ := Option.isSome_iff_exists.1 (onb.there 0 (by omega)).1; exact World.block_lt_of_cell? w2 _ hv)
  have p0 := on0.below c2 r0
  have p2' := on2.below c2 r2
  have p3' := on3.below c2 r3
  have pb := onb.below c2 rb (fun i hi hn => (onb.far i hi hn).2)
  have hWO := unhide HWO
  have hls := unhide HLS
  have hln := unhide HLN
  have hmem : ∀ l, l ∈ ls → l.length ≤ 100000000 := fun l hl => by
    rw [hls, List.mem_map] at hl
    obtain ⟨b, hb, rfl⟩ := hl
    exact (hWO.cb b hb).2
  have hbL := pb.each (L := fun q => W1.heap.size ≤ q ∧ q < W2.heap.size) (fun i hi => ⟨by have := (pb.far i hi hi).1; omega, (pb.far i hi hi).2⟩) hmem
  have hn0 := hWO.n0
  have hn1 := hWO.n1
  have hn2 := hWO.n2
  have hn3 := hWO.n3
  have h22 := record_any (w := W2) (w0 := W1) d2 (tabIn_below d2 (by omega) (tabIn_below (unhide H01) (tabIn_lt (unhide HT)) (unhide HT))) (unhide PG1) f (bs := bsOf GB ls) (L := fun q => W1.heap.size ≤ q ∧ q < W2.heap.size) (P := fun q => q < W2.heap.size) (fun _ h => h) (fun _ h => h)
    (p0.ints (P := fun q => q < W2.heap.size) (by omega)) (pb.vals (P := fun q => q < W2.heap.size) (by omega)) (p2'.ints (P := fun q => q < W2.heap.size) (by omega)) (p3'.ints (P := fun q => q < W2.heap.size) (by omega)) hbL hn0 (by rw [bsOf_len]; omega) hn2 hn3
  simp only [sN] at h22
  have H22 := hide h22
  have X2 := hide x2
  have Y2 := hide y2
  have Y3 := hide y3
  have C2 := hide c2
  have D2 := hide d2
  have P0 := hide p0
  have P2 := hide p2'
  have P3 := hide p3'
  have PB := hide pb
  have HBL := hide hbL
  have HW2 := hide hW2
  have k2 := fun j => cell_of_row w2 w.heap.size j _ 67 (0, 0) x2
  have j2 := fun j => cell_of_row w2 w1.heap.size j _ 33 (0, 0) y2
  have hlt2 : w.heap.size < w2.heap.size := by omega
  have hlt2' : w1.heap.size < w2.heap.size := by omega
  clear h22 x2 y2 y3 c2 d2 p0 p2' p3' pb hbL hW2 hmem hls hln hWO on0 on2 on3 onb hb2 H71 HW1 k1 hlt1
  go_wp2_with fail
  rw [← unhide HW2]
  go_at_call 22
  refine (unhide H22).mono ?_
  rintro e w3 hpost
  obtain ⟨f3, x, hx, a3, c3, rfl, r3⟩ := hpost.out
  obtain ⟨sg, hsg⟩ : ∃ sg, sg = routS p f lc (bsOf GB ls) lp ll x := ⟨_, rfl⟩
  obtain ⟨T, hT⟩ : ∃ T, T = routT p f lc (bsOf GB ls) lp ll x := ⟨_, rfl⟩
  obtain ⟨F, hF⟩ : ∃ F, F = routF p f lc (bsOf GB ls) lp ll x := ⟨_, rfl⟩
  have tle := routT_le (f := f) (lc := lc) (bs := bsOf GB ls) (lp := lp) (ll := ll) hx
  rw [← hT] at r3 tle
  have lof : LogOf p f lc (bs.map (·.2)) lp ll sg := by
    have := logOf_rout (f := f) (lc := lc) (bs := bsOf GB ls) (lp := lp) (ll := ll) hx
    rw [bsOf_snd, ← hsg, unhide HLS] at this
    exact this
  have hb3 : Below W2.heap.size W2 w3 := f3.below (fun k hk => hk.elim) (Nat.le_refl _)
  have x3 := keepblk hb3 (keepblk (unhide C2) (unhide X2))
  have y33 := keepblk hb3 (keepblk (unhide C2) (unhide Y2))
  have y34 := keepblk hb3 (unhide Y3)
  have z3 : W2.heap.size ≤ w3.heap.size := hb3.size
  obtain ⟨W3, hW3⟩ : ∃ W3, W3 = w3.alloc (.cells #[.int .i64 F.fin, .int .i64 (F.reg 0), .int .i64 (F.reg 1), .int .i64 (F.reg 2), .int .i64 (F.reg 3), .int .i64 F.clock, .int .i64 F.heard] 37) := ⟨_, rfl⟩
  have c3b : Below w3.heap.size w3 W3 := by subst hW3; exact (Below.refl _ _).alloc (Nat.le_refl _) _
  have s3 : W3.heap.size = w3.heap.size + 1 := by subst hW3; simp
  have y35 : W3.heap[w3.heap.size]? = some (.cells #[.int .i64 F.fin, .int .i64 (F.reg 0), .int .i64 (F.reg 1), .int .i64 (F.reg 2), .int .i64 (F.reg 3), .int .i64 F.clock, .int .i64 F.heard] 37) := by subst hW3; exact heap_alloc_new _ _
  have d3 : Below W2.heap.size W2 W3 := hb3.trans (c3b.mono z3)
  have h03 : Below w0.heap.size w0 W3 := (unhide H01).trans (((unhide D2).mono (by omega)).trans (d3.mono (by omega)))
  have wc3 := (unhide HWO).below h03
  have h72 := refRecord_any (w := W3) (p1 := p1) (p2 := p2) (p3 := p3) (p := p) ⟨opsIn_below h03 (unhide I1), handsIn_below h03 (unhide I2), handsIn_below h03 (unhide I3)⟩ f (bs := bsOf GB ls) wc3.c0 (by rw [bsOf_snd, unhide HLS]; exact wc3.bats) wc3.c2 wc3.c3 (fun b hb => (unhide HBL b hb).2) hn0 (by rw [bsOf_len]; have := unhide HLN; omega) hn2 hn3
  have H72 := hide h72
  have X3 := hide x3
  have Y33 := hide y33
  have Y34 := hide y34
  have Y35 := hide y35
  have C3 := hide c3b
  have D3 := hide d3
  have R3 := hide r3
  have TLE := hide tle
  have LOF := hide lof
  have HX := hide hx
  have HSG := hide hsg
  have HTT := hide hT
  have HFF := hide hF
  have HW3 := hide hW3
  have k3 := fun j => cell_of_row w3 w.heap.size j _ 67 (0, 0) x3
  have hlt3 : w.heap.size < w3.heap.size := by omega
  rw [← hsg, ← hT, ← hF]
  simp only [finV]
  clear h72 x3 y33 y34 y35 c3b d3 h03 wc3 r3 tle lof hx hsg hT hF hW3 hb3 f3 hpost H22 HW2 k2 j2 hlt2 hlt2'
  go_wp2_with fail
  rw [← unhide HW3]
  go_at_call 72
  refine (unhide H72).mono ?_
  rintro e w4 hpost
  obtain ⟨f4, x', hx', a4, c4, rfl, r4⟩ := hpost.out
  obtain rfl : x = x' := (unhide HX).one hx'
  rw [← unhide HTT] at r4
  have hb4 : Below W3.heap.size W3 w4 := f4.below (fun k hk => hk.elim) (Nat.le_refl _)
  have z4 : W3.heap.size ≤ w4.heap.size := hb4.size
  have x4 := keepblk hb4 (keepblk (unhide C3) (unhide X3))
  have y43 := keepblk hb4 (keepblk (unhide C3) (unhide Y33))
  have y44 := keepblk hb4 (keepblk (unhide C3) (unhide Y34))
  have y45 := keepblk hb4 (unhide Y35)
  obtain ⟨W4, hW4⟩ : ∃ W4, W4 = w4.alloc (.cells #[.int .i64 F.fin, .int .i64 (F.reg 0), .int .i64 (F.reg 1), .int .i64 (F.reg 2), .int .i64 (F.reg 3), .int .i64 F.clock, .int .i64 F.heard] 37) := ⟨_, rfl⟩
  have c4b : Below w4.heap.size w4 W4 := by subst hW4; exact (Below.refl _ _).alloc (Nat.le_refl _) _
  have s4 : W4.heap.size = w4.heap.size + 1 := by subst hW4; simp
  have y46 : W4.heap[w4.heap.size]? = some (.cells #[.int .i64 F.fin, .int .i64 (F.reg 0), .int .i64 (F.reg 1), .int .i64 (F.reg 2), .int .i64 (F.reg 3), .int .i64 F.clock, .int .i64 F.heard] 37) := by subst hW4; exact heap_alloc_new _ _
  have d4 : Below W3.heap.size W3 W4 := hb4.trans (c4b.mono z4)
  have d24 : Below W2.heap.size W2 W4 := (unhide D3).trans (d4.mono (by omega))
  have d14 : Below w1.heap.size w1 W4 := (unhide C1).trans (((unhide D2).mono (by omega)).trans (d24.mono (by omega)))
  have d04 : Below W0.heap.size W0 W4 := (unhide D1).trans (((unhide D2).mono (by omega)).trans (d24.mono (by omega)))
  have h04 : Below w0.heap.size w0 W4 := (unhide H00).trans (d04.mono (by omega))
  have l1 : g1 < w1.heap.size := opAt_lt ((unhide O1).cells 0 (by omega))
  have h40 := stillW_any W0.heap.size w1.heap.size p1 p2 p3 g1 g2 g3 p.sn p.tn p.fn p.sf p.tl p.fl G2 G3 p.tf p.ff W4 (opsIn_below h04 (unhide I1)) (handsIn_below h04 (unhide I2)) (handsIn_below h04 (unhide I3))
    ((unhide O1).below d14 l1) ((unhide O2).below d14 l2 (fun i hi => ((unhide O2).far i hi).2)) ((unhide O3).below d14 l3 (fun i hi => ((unhide O3).far i hi).2)) m1 m12 m23 (unhide MG) (fun i hi => ((unhide O3).far i hi).2)
  have H40 := hide h40
  have X4 := hide x4
  have Y43 := hide y43
  have Y44 := hide y44
  have Y45 := hide y45
  have Y46 := hide y46
  have C4 := hide c4b
  have D4 := hide d4
  have D24 := hide d24
  have D04 := hide d04
  have R4 := hide r4
  have HW4 := hide hW4
  have k4 := fun j => cell_of_row w4 w.heap.size j _ 67 (0, 0) x4
  have j4 := fun j => cell_of_row w4 w1.heap.size j _ 33 (0, 0) y43
  have hlt4 : w.heap.size < w4.heap.size := by omega
  have hlt4' : w1.heap.size < w4.heap.size := by omega
  rw [← unhide HSG, ← unhide HTT, ← unhide HFF]
  simp only [finV]
  clear h40 x4 y43 y44 y45 y46 c4b d4 d24 d14 d04 h04 r4 hW4 hb4 f4 hpost hx' H72 HW3 k3 hlt3 HSG HTT HFF HX
  go_wp2_with fail
  rw [← unhide HW4]
  go_at_call 40
  refine (unhide H40).mono ?_
  rintro e w5 ⟨rfl, hb5, far5⟩
  have z5 : W4.heap.size ≤ w5.heap.size := hb5.size
  have x5 := (hb5.block _ (show w.heap.size < W0.heap.size by omega)).trans (keepblk (unhide C4) (unhide X4))
  have y54 := (far5 w2.heap.size (by omega) (by omega)).trans (keepblk (unhide C4) (unhide Y44))
  have y55 := (far5 w3.heap.size (by omega) (by omega)).trans (keepblk (unhide C4) (unhide Y45))
  have y56 := (far5 w4.heap.size (by omega) (by omega)).trans (unhide Y46)
  have d05 : Below W0.heap.size W0 w5 := (unhide D04).trans hb5
  have h05 : Below w0.heap.size w0 w5 := (unhide H00).trans (d05.mono (by omega))
  have wc5 := (unhide HWO).below h05
  have q0' := ((unhide P0).below (unhide D24) (by omega)).block (far5 u0 (by omega) (by omega))
  have q2' := ((unhide P2).below (unhide D24) (by omega)).block (far5 u2 (by omega) (by omega))
  have q3' := ((unhide P3).below (unhide D24) (by omega)).block (far5 u3 (by omega) (by omega))
  have hpb := (unhide PB).below (unhide D24) (by omega) (fun i hi hn => ((unhide PB).far i hi hn).2)
  have qb' := hpb.block (far5 ub (by omega) (by omega)) (fun i hi hn => far5 (GB i) (by have := (hpb.far i hi hn).1; omega) (hpb.far i hi hn).2) z5
  have h73 := stays_any (w := w5) (P := fun q => q < w5.heap.size) (fun _ h => h) wc5.c0.ints wc5.c1.vals wc5.c2.ints wc5.c3.ints (fun b hb => ⟨(wc5.cb b hb).1, by have := (wc5.cb b hb).2; omega⟩) (by omega) (by omega) (by omega) (by omega) q0' q2' q3' (by rw [← unhide HLS, unhide HLN]; exact qb')
  rw [unhide HLN] at h73
  simp only [sN] at h73
  have H73 := hide h73
  have X5 := hide x5
  have Y54 := hide y54
  have Y55 := hide y55
  have Y56 := hide y56
  have D05 := hide d05
  have FAR5 := hide far5
  have k5 := fun j => cell_of_row w5 w.heap.size j _ 67 (0, 0) x5
  have j5 := fun j => cell_of_row w5 w2.heap.size j _ 29 (0, 0) y54
  clear h73 x5 y54 y55 y56 d05 h05 wc5 q0' q2' q3' hpb qb' hb5 far5 H40 HW4 k4 j4 hlt4 hlt4'
  go_wp2_with fail
  go_at_call 73
  refine (unhide H73).mono ?_
  rintro e w6 ⟨rfl, hb6⟩
  have z6 : w5.heap.size ≤ w6.heap.size := hb6.size
  have blk3 : ∀ q, W2.heap.size ≤ q → q < w3.heap.size → w6.heap[q]? = w3.heap[q]? := fun q h1 h2 =>
    (hb6.block q (by omega)).trans ((unhide FAR5 q (by omega) (by omega)).trans (((unhide D4).block q (by omega)).trans ((unhide C3).block q h2)))
  have blk4 : ∀ q, W3.heap.size ≤ q → q < w4.heap.size → w6.heap[q]? = w4.heap[q]? := fun q h1 h2 =>
    (hb6.block q (by omega)).trans ((unhide FAR5 q (by omega) (by omega)).trans ((unhide C4).block q h2))
  have r36 := ownsRow_of_block (unhide R3) (fun q hq => blk3 q (World.ownsRow.lt (unhide R3) q hq).1 (World.ownsRow.lt (unhide R3) q hq).2)
  have r46 := ownsRow_of_block (unhide R4) (fun q hq => blk4 q (World.ownsRow.lt (unhide R4) q hq).1 (World.ownsRow.lt (unhide R4) q hq).2)
  have tle := unhide TLE
  have h74 := sameEventsL_any T.length _ _ (fun i => T.getD i (0, 0, 0)) w6 (row_ops' r36 (by omega)) (row_ops' r46 (by omega))
  have H74 := hide h74
  have R36 := hide r36
  have HB6 := hide hb6
  clear h74 r36 r46 hb6 tle blk3 blk4 H73 k5 j5
  go_wp2_with fail
  go_at_call 74
  refine (unhide H74).mono ?_
  rintro e w7 ⟨rfl, hd7⟩
  have hb7 : Below w6.heap.size w6 w7 := hd7.below _
  have hb67 : Below w5.heap.size w5 w7 := (unhide HB6).trans (hb7.mono z6)
  have hz7 : w7.heap.size = w6.heap.size := by obtain ⟨m, rfl⟩ := hd7; simp
  have d07 : Below W0.heap.size W0 w7 := (unhide D05).trans (hb67.mono (by omega))
  have hw7 : Below w.heap.size w w7 := (unhide G0).trans (d07.mono (by omega))
  have r37 := ownsRow_of_block (unhide R36) (fun q hq => hb7.block q (World.ownsRow.lt (unhide R36) q hq).2)
  have r3q : ∀ q, own (.slice a3 T.length c3) q → W2.heap.size ≤ q ∧ q < w3.heap.size := fun q hq => World.ownsRow.lt (unhide R3) q hq
  have y75 := keepblk hb67 (unhide Y55)
  have y76 := keepblk hb67 (unhide Y56)
  have tle := unhide TLE
  have h75 := keepEvents_any ((unhide HH).fr (Fr.of_below hw7)) (Nat.le_trans hsw hw7.size) (rowLow r37 (by omega)) (fun q hq hk => by
    have h1 := (r3q q hq).1
    have h2 := ((unhide HH).apart q hk).1
    omega) (by omega) (unhide HL)
  have H75 := hide h75
  have Y75 := hide y75
  have Y76 := hide y76
  have HW7 := hide hw7
  have R3Q := hide r3q
  clear h75 y75 y76 hw7 r3q r37 d07 hb67 hb7 hd7 tle H74
  go_wp2_with fail
  go_at_call 75
  refine (unhide H75).mono ?_
  rintro e w8 ⟨rfl, hk8⟩
  have nin : ∀ q, w3.heap.size ≤ q → q < w7.heap.size → ¬ (q = bb ∨ own vE q ∨ own (.slice a3 T.length c3) q ∨ w7.heap.size ≤ q) := fun q h1 h2 hq => by
    rcases hq with h | h | h | h
    · omega
    · have := (unhide HE q h).2; omega
    · have := (unhide R3Q q h).2; omega
    · omega
  have hev := hk8.ev ((unhide HW7).mono hsw) (unhide HBB) (fun q hq => (unhide HE q hq).1) (fun q hq => by have := (unhide R3Q q hq).1; omega) (by have := (unhide HW7).size; omega)
  obtain ⟨_, _, _, _, _, _, fr8⟩ := hk8
  have y85 := (fr8.same w3.heap.size (by omega) (nin _ (by omega) (by omega))).trans (unhide Y75)
  have y86 := (fr8.same w4.heap.size (by omega) (nin _ (by omega) (by omega))).trans (unhide Y76)
  have k8 := fun j => cell_of_row w8 w3.heap.size j _ 37 (0, 0) y85
  have j8 := fun j => cell_of_row w8 w4.heap.size j _ 37 (0, 0) y86
  have hfar : ∀ k, k < w.heap.size → k ≠ bb → ¬ own vE k → w8.heap[k]? = w.heap[k]? := fun k h1 h2 h3 => (fr8.same k (by have := (unhide HW7).size; omega) (fun hq => by
    rcases hq with h | h | h | h
    · exact h2 h
    · exact h3 h
    · have := (unhide R3Q k h).1; omega
    · have := (unhide HW7).size; omega)).trans ((unhide HW7).block k h1)
  have HFAR := hide hfar
  have HEV := hide hev
  clear hev y85 y86 nin fr8 H75 hfar
  go_wp2
  exact bodyPost_ret (v := .tuple #[.string sg, .bool true]) (by simp [results, Tryz.results42, go_sem]) rfl ⟨sg, rfl, unhide LOF, unhide HEV, unhide HFAR⟩
theorem recordL_any {w w0 : World} {bb : Nat} {n0 : Int} {vI vE vN : Value} {LI LE LN : List Ent} {K : Nat → Prop} (h : BookK w w0.heap.size bb n0 vI vE vN LI LE LN K) (hbb : w0.heap.size ≤ bb) (hbw : Below w0.heap.size w0 w) (ht : TabIn w0)
    {p1 p2 p3 : Value} {p : Pg} (hpg : PgAt w0 (pvOf p1 p2 p3 undef) p) {q0 q1 q2 q3 : Value} {lc lp ll : List Int} {bs : List (Value × List Int)} (hwo : WorldC w0 q0 q1 q2 q3 lc bs lp ll) (kd lg : Value) (f : Int) (hL : LE.length ≤ 900000000000) :
    Calls Tryz.prog 42 #[.pointer (some ⟨bb, 0, none⟩), .agg #[kd, p1, p2, p3, q0, q1, q2, q3, lg, .int .i64 f]] w fun e w' => ∃ sg, e = .returned (.tuple #[.string sg, .bool true]) ∧ LogOf p f lc (bs.map (·.2)) lp ll sg ∧ EvKept w w' w0.heap.size bb vI vN LI LE LN :=
  (recordF_any h hbb hbw ht hpg hwo kd lg f hL).mono fun _ _ ⟨sg, h1, h2, h3, _⟩ => ⟨sg, h1, h2, h3⟩
end Go.Proofs.YtfmbebofllgmoaaGreatDoor
namespace Go.Proofs.YtfmbebofllgmoaaGreatDoor
open Go.RowKit
attribute [local go_sem ↓] Go.wp_at_zero Go.wp_at_succ

theorem EvKept.below {w w1 w' : World} {B bb : Nat} {vI vN : Value} {LI LE LN : List Ent} (h : EvKept w1 w' B bb vI vN LI LE LN) (hb : Below B w w1) : EvKept w w' B bb vI vN LI LE LN := by
  obtain ⟨n', vE', LE', K', h1, h2, h3⟩ := h
  exact ⟨n', vE', LE', K', h1, h2, hb.trans h3⟩
set_option maxHeartbeats 1000000 in
theorem plays_record {w w0 : World} {bb : Nat} {n0 : Int} {vI vE vN : Value} {LI LE LN : List Ent} {K : Nat → Prop} (h : BookK w w0.heap.size bb n0 vI vE vN LI LE LN K) (hbb : w0.heap.size ≤ bb) (hbw : Below w0.heap.size w0 w) (ht : TabIn w0)
    {p1 p2 p3 : Value} {p : Pg} (hpg : PgAt w0 (pvOf p1 p2 p3 undef) p) {q0 q1 q2 q3 : Value} {lc lp ll : List Int} {bs : List (Value × List Int)} (hwo : WorldC w0 q0 q1 q2 q3 lc bs lp ll) (lg : Value) (f : Int) (hL : LE.length ≤ 900000000000) :
    Calls Tryz.prog 23 #[.pointer (some ⟨bb, 0, none⟩), .agg #[.int .i64 2, p1, p2, p3, q0, q1, q2, q3, lg, .int .i64 f]] w fun e w' => e = .returned (.bool true) ∧ EvKept w w' w0.heap.size bb vI vN LI LE LN := by
  obtain ⟨W0, hW⟩ : ∃ W0, W0 = w.alloc (.cells #[.int .i64 2, p1, p2, p3, q0, q1, q2, q3, lg, .int .i64 f] 67) := ⟨_, rfl⟩
  have f0 : Fr (fun _ => False) w W0 (fun _ => False) := by subst hW; exact (Fr.refl _ _).alloc _
  have b0 : Below w0.heap.size w W0 := f0.below (fun k hk => hk.elim) hbw.size
  have H42 := hide (recordL_any (h.fr f0) hbb (hbw.trans b0) ht hpg hwo (.int .i64 2) lg f hL)
  have B0 := hide b0
  have HW := hide hW
  clear h hbw ht hpg hwo b0 hW f0
  go_enter Tryz.func23, Tryz.ntmps23
  go_wp2_with fail
  rw [← unhide HW]
  go_at_call 42
  refine (unhide H42).mono ?_
  rintro e w1 ⟨sg, rfl, _, hev⟩
  have HEV := hide (hev.below (unhide B0))
  clear hev H42 HW
  go_wp2
  go_ret
  exact ⟨by simp, unhide HEV⟩
end Go.Proofs.YtfmbebofllgmoaaGreatDoor
