/-
  PROVED HERE: rerunkeep.Other answers true of everything in memory.
-/
import Derived.Test.YtfmbebofllgmoaaGreatDoorMkoth
namespace Go.Proofs.YtfmbebofllgmoaaGreatDoor
open Go.RowKit
attribute [local go_sem ↓] Go.wp_at_zero Go.wp_at_succ

set_option maxHeartbeats 4000000 in
set_option maxRecDepth 20000 in
theorem other_any {w : World} (htab : TabIn w) {v q0 q1 q2 q3 : Value} {N : Nat} {ln : Nat → Nat} {f : Nat → Nat → O3} (hH : HandsIn w v N ln f) (hin : ∀ i j, i < N → j < ln i → In3 (f i j)) {raw lp ll : List Int} {rb : List Br} {P : Nat → Prop} (hP : ∀ q, P q → q < w.heap.size) (h0 : IntsIn w q0 raw P) (h1 : ValsIn w q1 (rb.map (·.1)) P) (hrb : ∀ b, b ∈ rb → IntsIn w b.1 b.2 P) (h2 : IntsIn w q2 lp P) (h3 : IntsIn w q3 ll P) (hr0 : rng raw) (hr1 : ∀ b, b ∈ rb → rng b.2) (n23 : lp.length + ll.length ≤ 1900000) (fuel : Int) (hfu : inR fuel) {vo : Value} {No : Nat} {lno : Nat → Nat} {fo : Nat → Nat → O3} (hHo : HandsIn w vo No lno fo) (hino : ∀ i j, i < No → j < lno i → In3 (fo i j)) :
    Calls Tryz.prog 10 #[v, .agg #[q0, q1, q2, q3], .int .i64 fuel, vo] w fun e w' => e = .returned (.bool true) ∧ Fr (fun _ => False) w w' (fun _ => False) := by
  obtain ⟨ha, hl, hc, rfl⟩ : ∃ a n c, v = .slice a n c := by obtain ⟨a, c, hv, _⟩ := hH; exact ⟨a, _, c, hv⟩
  obtain ⟨oa, ol, oc, rfl⟩ : ∃ a n c, vo = .slice a n c := by obtain ⟨a, c, hv, _⟩ := hHo; exact ⟨a, _, c, hv⟩
  have HHO := hide hHo
  have HIO := hide hino
  clear hHo hino
  have hfa : Fr (fun _ => False) w (w.alloc (.cells #[q0, q1, q2, q3] 29)) (fun _ => False) := (Fr.refl _ _).alloc _
  have hba := hfa.below (B := w.heap.size) (fun k hk => hk.elim) (Nat.le_refl _)
  have H13 := hide (works_any (w.alloc (.cells #[q0, q1, q2, q3] 29)) (tabIn_below hba (tabIn_lt htab) htab))
  have h14 : ∀ W : World, Fr (fun _ => False) w W (fun _ => False) → _ := fun W hf => kept_any htab hH hin hP h0 h1 hrb h2 h3 hr0 hr1 n23 fuel hfu hf
  have H14 := hide h14
  have HFA := hide hfa
  have HTAB := hide htab
  have hb29 := heap_alloc_new w (.cells #[q0, q1, q2, q3] 29)
  have HB29 := hide hb29
  have hzz : w.heap.size < (w.alloc (.cells #[q0, q1, q2, q3] 29)).heap.size := by simp
  have HZZ := hide hzz
  have e35 := eq35
  clear h14 hfa htab hH hb29 hba hzz h0 h1 hrb h2 h3 hr0 hr1 hin
  go_enter Tryz.func10, Tryz.ntmps10
  go_wp2_with fail
  go_at_call 13
  refine (unhide H13).mono ?_
  rintro e w1 ⟨rfl, f1⟩
  have hf1 := (unhide HFA).trans f1
  have hc29 := fun j => cell_of_row w1 w.heap.size j _ 29 (0, 0) ((f1.same w.heap.size (unhide HZZ) (fun h => h)).trans (unhide HB29))
  have HF1 := hide hf1
  clear hf1 f1
  go_wp2_with fail
  go_at_call 14
  refine (unhide H14 _ (unhide HF1)).mono ?_
  rintro e w2 ⟨s1a, n1, s1c, s2a, n2, s2c, s3a, n3, s3c, ta, tc, p, fu, lg, s, xs, rfl, hk⟩
  have HK := hide hk
  have hz2 : w2.heap.size < (w2.alloc (.cells #[.slice s1a n1 s1c, .slice s2a n2 s2c, .slice s3a n3 s3c, .int .i64 fu, .string lg, .slice ta s.trace.length tc, .int .i64 s.fin, .int .i64 (s.reg 0), .int .i64 (s.reg 1), .int .i64 (s.reg 2), .int .i64 (s.reg 3), .int .i64 s.clock, .int .i64 s.heard, .bool true] 39)).heap.size := by simp
  have hr39 := heap_alloc_new w2 (.cells #[.slice s1a n1 s1c, .slice s2a n2 s2c, .slice s3a n3 s3c, .int .i64 fu, .string lg, .slice ta s.trace.length tc, .int .i64 s.fin, .int .i64 (s.reg 0), .int .i64 (s.reg 1), .int .i64 (s.reg 2), .int .i64 (s.reg 3), .int .i64 s.clock, .int .i64 s.heard, .bool true] 39)
  have hf3 : Fr (fun _ => False) w2 (w2.alloc (.cells #[.slice s1a n1 s1c, .slice s2a n2 s2c, .slice s3a n3 s3c, .int .i64 fu, .string lg, .slice ta s.trace.length tc, .int .i64 s.fin, .int .i64 (s.reg 0), .int .i64 (s.reg 1), .int .i64 (s.reg 2), .int .i64 (s.reg 3), .int .i64 s.clock, .int .i64 s.heard, .bool true] 39)) (fun _ => False) := (Fr.refl _ _).alloc _
  have hkeep : ∀ W : World, Fr (fun _ => False) (w2.alloc (.cells #[.slice s1a n1 s1c, .slice s2a n2 s2c, .slice s3a n3 s3c, .int .i64 fu, .string lg, .slice ta s.trace.length tc, .int .i64 s.fin, .int .i64 (s.reg 0), .int .i64 (s.reg 1), .int .i64 (s.reg 2), .int .i64 (s.reg 3), .int .i64 s.clock, .int .i64 s.heard, .bool true] 39)) W (fun _ => False) → W.heap[w2.heap.size]? = some (.cells #[.slice s1a n1 s1c, .slice s2a n2 s2c, .slice s3a n3 s3c, .int .i64 fu, .string lg, .slice ta s.trace.length tc, .int .i64 s.fin, .int .i64 (s.reg 0), .int .i64 (s.reg 1), .int .i64 (s.reg 2), .int .i64 (s.reg 3), .int .i64 s.clock, .int .i64 s.heard, .bool true] 39) := fun W hf => (hf.same _ hz2 (fun h => h)).trans hr39
  have HKEEP := hide hkeep
  have HF3 := hide hf3
  clear hr39 hkeep hf3 hc29 H13 H14 HB29 HZZ HFA
  have h21 : Calls Tryz.prog 21 #[.slice oa ol oc] (w2.alloc (.cells #[.slice s1a n1 s1c, .slice s2a n2 s2c, .slice s3a n3 s3c, .int .i64 fu, .string lg, .slice ta s.trace.length tc, .int .i64 s.fin, .int .i64 (s.reg 0), .int .i64 (s.reg 1), .int .i64 (s.reg 2), .int .i64 (s.reg 3), .int .i64 s.clock, .int .i64 s.heard, .bool true] 39)) fun e w' => ∃ z1a m1 z1c z2a m2 z2c z3a m3 z3c, e = .returned (.agg #[.slice z1a m1 z1c, .slice z2a m2 z2c, .slice z3a m3 z3c]) ∧ PgAt w' (pvOf (.slice z1a m1 z1c) (.slice z2a m2 z2c) (.slice z3a m3 z3c) undef) (pgK No lno fo) ∧ Fr (fun _ => False) (w2.alloc (.cells #[.slice s1a n1 s1c, .slice s2a n2 s2c, .slice s3a n3 s3c, .int .i64 fu, .string lg, .slice ta s.trace.length tc, .int .i64 s.fin, .int .i64 (s.reg 0), .int .i64 (s.reg 1), .int .i64 (s.reg 2), .int .i64 (s.reg 3), .int .i64 s.clock, .int .i64 s.heard, .bool true] 39)) w' (fun _ => False) := by
    have hb := ((unhide HK).fr.trans (unhide HF3)).below (B := w.heap.size) (fun k hk => hk.elim) (Nat.le_refl _)
    refine (kprogram_any (handsIn_below hb (unhide HHO)) (unhide HIO)).mono ?_
    rintro e w' ⟨v0, v1, v2, rfl, hpw, hf⟩
    have hpg := hpw w' (fun _ _ _ => rfl)
    obtain ⟨s1a, s1c, e1, _⟩ := hpg.s
    obtain ⟨s2a, s2c, e2, _⟩ := hpg.t
    obtain ⟨s3a, s3c, e3, _⟩ := hpg.f
    change v0 = _ at e1
    change v1 = _ at e2
    change v2 = _ at e3
    subst e1 e2 e3
    exact ⟨_, _, _, _, _, _, _, _, _, rfl, hpg, hf⟩
  have h16 : ∀ W : World, Calls Tryz.prog 16 #[.string lg] W fun e w' => ∃ a c, ∃ ps : List (Inp × Value), e = .returned (.tuple #[.slice a (xs.length + 1) c, .int .i64 lg.size, .int .i64 1]) ∧ InsAt w' W.heap.size (.slice a (xs.length + 1) c) ps ∧ ps.map (·.1) = alls xs s.fin.toNat ∧ Fr (fun _ => False) W w' (fun _ => False) := fun W => by
    have hk := unhide HK
    refine (read_ps lg hk.size W).mono ?_
    rintro e w' ⟨a, c, ps, rfl, hi, hp, hf⟩
    rw [hk.rd] at hp ⊢
    have hl : ps.length = xs.length + 1 := by have := congrArg List.length hp; unfold alls at this; simpa using this
    rw [hl] at hi ⊢
    exact ⟨a, c, ps, rfl, hi, hp, hf⟩
  have H21 := hide h21
  have H16 := hide h16
  have hcnt := hk.cnt
  clear h21 h16 hk
  go_wp2_with fail
  go_at_call 21
  refine (unhide H21).mono ?_
  rintro e w4 ⟨z1a, m1, z1c, z2a, m2, z2c, z3a, m3, z3c, rfl, hpg, f4⟩
  have c4 := fun j => cell_of_row w4 _ j _ 39 (0, 0) (unhide HKEEP _ f4)
  have hlt4 : w2.heap.size < w4.heap.size := (Array.getElem?_eq_some_iff.1 (unhide HKEEP _ f4)).1
  have hne4 : w2.heap.size ≠ w4.heap.size := by omega
  have hne4' : ¬ w4.heap.size = w2.heap.size := by omega
  have HPG := hide hpg
  have F4 := hide f4
  have b33 := heap_alloc_new w4 (.cells #[.slice z1a m1 z1c, .slice z2a m2 z2c, .slice z3a m3 z3c] 33)
  have B33 := hide b33
  clear hpg f4 H21 b33
  go_wp2_with fail
  go_at_call 16
  refine (unhide H16 _).mono ?_
  rintro e w5 ⟨ia, ic, ps, rfl, hins, hps, f5⟩
  have f45 : Fr (fun _ => False) w4 w5 (fun _ => False) := ((Fr.refl _ _).alloc (.cells #[.slice z1a m1 z1c, .slice z2a m2 z2c, .slice z3a m3 z3c] 33)).trans f5
  obtain ⟨ig, icc, hv5, hig, hig', hxx⟩ := row_cell hins.row (by have := congrArg List.length hps; unfold alls at this; simp at this; omega)
  injection hv5 with hv5 hx1 hx2
  subst hv5
  have HIG := hide hig'
  clear hig hig' hxx hx1 hx2
  have hlp : ps.length = xs.length + 1 := by have := congrArg List.length hps; unfold alls at this; simpa using this
  have c5 := fun j => cell_of_row w5 _ j _ 39 (0, 0) (unhide HKEEP _ ((unhide F4).trans f45))
  have r33 : w5.heap[w4.heap.size]? = some (.cells #[.slice z1a m1 z1c, .slice z2a m2 z2c, .slice z3a m3 z3c] 33) := (f5.same _ (by simp) (fun h => h)).trans (unhide B33)
  have q5 := fun j => cell_of_row w5 _ j _ 33 (0, 0) r33
  have R33 := hide r33
  have HINS := hide hins
  have HPS := hide hps
  have F45 := hide f45
  have htab5 : TabIn w5 := by
    have hb := ((unhide HK).fr.trans ((unhide HF3).trans ((unhide F4).trans f45))).below (B := w.heap.size) (fun k hk => hk.elim) (Nat.le_refl _)
    exact tabIn_below hb (tabIn_lt (unhide HTAB)) (unhide HTAB)
  have H15 := hide (replayQ (unhide HPG) (pgK_ok No lno fo) f45 htab5 lg (unhide HK).size (fu := fu) (by rw [(unhide HK).rd]; unfold alls; simpa using hcnt) (by rw [(unhide HK).rd]; have := (unhide HK).pos; show lg.size ≠ 0; omega))
  clear hins hps f5 f45 r33 htab5 c4 H16 B33
  go_wp2_with fail
  go_at_call 15
  refine (unhide H15).mono ?_
  rintro e w6 ⟨f6, ra, rc, r, hrr, rfl, ho⟩
  obtain ⟨n, hn1, hn2, hn3⟩ := other_facts (pgK_ok No lno fo) fu lg (by rw [(unhide HK).rd]; unfold alls; simp; omega)
  rw [← hrr] at hn2 hn3
  rw [(unhide HK).rd] at hn1 hn3
  have hnl : n ≤ xs.length + 1 := by unfold alls at hn1; simpa using hn1
  rw [hn2]
  have hn2' : (n : Int) ≤ (xs.length : Int) + 1 := by omega
  have HN3 := hide hn3
  have HRR := hide hrr
  have HO := hide ho
  have F6 := hide f6
  have c6 := fun j => cell_of_row w6 _ j _ 39 (0, 0) (unhide HKEEP _ (((unhide F4).trans (unhide F45)).trans f6))
  have hlt6 : w2.heap.size < w6.heap.size := (Array.getElem?_eq_some_iff.1 (unhide HKEEP _ (((unhide F4).trans (unhide F45)).trans f6))).1
  have hne6 : w2.heap.size ≠ w6.heap.size := by omega
  have hne6' : ¬ w6.heap.size = w2.heap.size := by omega
  clear hn1 hn3 hrr ho f6 c5 q5 H15
  go_wp2
  have hWz : (w6.alloc (.cells #[.int .i64 r.fin, .int .i64 (r.reg 0), .int .i64 (r.reg 1), .int .i64 (r.reg 2), .int .i64 (r.reg 3), .int .i64 r.clock, .int .i64 (n : Int)] 37)).heap.size = w6.heap.size + 1 := by simp
  have hWf : Fr (fun _ => False) w6 (w6.alloc (.cells #[.int .i64 r.fin, .int .i64 (r.reg 0), .int .i64 (r.reg 1), .int .i64 (r.reg 2), .int .i64 (r.reg 3), .int .i64 r.clock, .int .i64 (n : Int)] 37)) (fun _ => False) := (Fr.refl _ _).alloc _
  have hf37 : (w6.alloc (.cells #[.int .i64 r.fin, .int .i64 (r.reg 0), .int .i64 (r.reg 1), .int .i64 (r.reg 2), .int .i64 (r.reg 3), .int .i64 r.clock, .int .i64 (n : Int)] 37)).heap[w6.heap.size]? = some (.cells #[.int .i64 r.fin, .int .i64 (r.reg 0), .int .i64 (r.reg 1), .int .i64 (r.reg 2), .int .i64 (r.reg 3), .int .i64 r.clock, .int .i64 (n : Int)] 37) := heap_alloc_new _ _
  have hst : O1 (w6.alloc (.cells #[.int .i64 r.fin, .int .i64 (r.reg 0), .int .i64 (r.reg 1), .int .i64 (r.reg 2), .int .i64 (r.reg 3), .int .i64 r.clock, .int .i64 (n : Int)] 37)) ((w6.alloc (.cells #[.int .i64 r.fin, .int .i64 (r.reg 0), .int .i64 (r.reg 1), .int .i64 (r.reg 2), .int .i64 (r.reg 3), .int .i64 r.clock, .int .i64 (n : Int)] 37)).alloc (.cells #[.slice none 0 0, .slice none 0 0, .slice none 0 0, .slice none 0 0] 29)) (fun _ => .slice none 0 0) (LO (ps.take 0)) := by
    refine ⟨(Fr.refl _ _).alloc _, heap_alloc_new _ _, fun j _ => World.ownsRow_nil _ _ _ _, fun i j _ _ _ q hq => absurd hq (by simp [own, Value.ownBlock])⟩
  generalize hWb : w6.alloc (.cells #[.int .i64 r.fin, .int .i64 (r.reg 0), .int .i64 (r.reg 1), .int .i64 (r.reg 2), .int .i64 (r.reg 3), .int .i64 r.clock, .int .i64 (n : Int)] 37) = Wb at *
  have HST := hide hst
  have HWZ := hide hWz
  have HWF := hide hWf
  have HF37 := hide hf37
  clear hst hWz hWf hf37 hWb c6
  go_loopw [19] (fun i wr => ∃ k : Nat, k ≤ n ∧ i = .int .i64 k ∧ ∃ F, O1 Wb wr F (LO (ps.take k))) (fun i _ => n - (intOf i).toNat)
  case atStart => exact ⟨0, Nat.zero_le _, rfl, _, unhide HST⟩
  case round =>
    obtain ⟨k, hk, rfl, F, ho1⟩ := hrel
    have c37 := fun j => cell_of_row wr _ j _ 37 (0, 0) ((ho1.fr.same w6.heap.size (by have := unhide HWZ; omega) (fun h => h)).trans (unhide HF37))
    by_cases hlt : k < n
    · have hWr : Fr (fun _ => False) w5 wr (fun _ => False) := (unhide F6).trans ((unhide HWF).trans ho1.fr)
      have hinr := (unhide HINS).fr hWr
      obtain ⟨ig', ic', x, fv, e1, _, hp, m0, m1, m2, m3, mo⟩ := hinr.cells (i := k) (by omega)
      injection e1 with e1 hx1 hx2
      injection e1 with e1
      injection e1 with e1 hx3 hx4
      subst e1
      clear hx1 hx2
      obtain ⟨fa, fn, fc, rfl⟩ := ownI_shape mo
      have hfit : Fit x := by
        have := (rdV lg).2
        refine this x ?_
        show x ∈ (readL (bs lg)).1
        rw [(unhide HK).rd]
        show x ∈ alls xs s.fin.toNat
        rw [← unhide HPS]
        exact List.mem_map_of_mem (List.mem_of_getElem? hp)
      have htk : ps.take (k + 1) = ps.take k ++ [(x, .slice fa fn fc)] := by rw [List.take_add_one, hp]; rfl
      obtain ⟨xk, xo, xn, xf⟩ := x
      have hkind : xk = 1 ∨ xk = 2 ∨ xk = 3 ∨ xk = 4 ∨ xk = 5 := by
        rcases hfit with ⟨e, _⟩ | ⟨e, _⟩ | ⟨e, _⟩ | ⟨e, _⟩ | ⟨e, _⟩ <;> simp only at e <;> omega
      have hk0 : (0 : Int) ≤ (k : Int) := by omega
      have hk1 : (k : Int) < (xs.length : Int) + 1 := by omega
      have hkn : (k : Int) < (n : Int) := by omega
      have hll : ∀ j, (LO (ps.take k) j).length + 1 ≤ 10000000 := fun j => by have := LO_len (ps.take k) j; rw [List.length_take] at this; omega
      have hzz := unhide HWZ
      have hgl : ig < wr.heap.size := by have := hWr.size; have := unhide HIG; omega
      have hgw : ig < Wb.heap.size := by have := (unhide F6).size; have := unhide HIG; omega
      have hq0 := fun o => (Below.heap_alloc wr o ig hgl)
      obtain ⟨igc, hgc⟩ : ∃ c, wr.heap[ig]? = some (.cells c 49 (0, 0)) := by
        have := row_cells hinr.row (q := ig) (by simp [own, Value.ownBlock])
        exact this
      have HKW := hide ho1
      have HTK := hide htk
      have HLL := hide hll
      have HGC := hide hgc
      have HGW := hide hgw
      have vb := ho1.vb
      rw [hzz] at vb
      have hbl : w6.heap.size + 1 < wr.heap.size := (Array.getElem?_eq_some_iff.1 vb).1
      have HVB := hide vb
      have hgne : ig ≠ w6.heap.size + 1 := by omega
      have hgne' : ¬ w6.heap.size + 1 = ig := by omega
      clear hWr hinr mo hfit htk hll hp hgc hgw vb hgl hq0
      rcases hkind with rfl | rfl | rfl | rfl | rfl
      · obtain ⟨a0, c0, ef⟩ := row_shape ((unhide HKW).row 0 (by omega))
        have vbj : wr.cell? ⟨w6.heap.size + 1, 0, none⟩ = some (.slice a0 (LO (ps.take k) 0).length c0) := by rw [← ef]; exact cell_of_row _ _ 0 _ 29 (0, 0) (unhide HVB)
        have vbq : ∀ o, (wr.alloc o).drew.cell? ⟨w6.heap.size + 1, 0, none⟩ = some (.slice a0 (LO (ps.take k) 0).length c0) := fun o => by
          have h : (wr.alloc o).drew.heap[w6.heap.size + 1]? = some (.cells #[F 0, F 1, F 2, F 3] 29) := (Below.heap_alloc wr o _ hbl).trans (unhide HVB)
          rw [← ef]; exact cell_of_row _ _ 0 _ 29 (0, 0) h
        have gq : ∀ o, (wr.alloc o).drew.cell? ⟨ig, k * 4 + 2, none⟩ = some (.int .i64 (xn : Int)) := fun o => by
          have h : (wr.alloc o).drew.heap[ig]? = wr.heap[ig]? := Below.heap_alloc wr o _ (Array.getElem?_eq_some_iff.1 (unhide HGC)).1
          rw [unhide HGC] at h
          rw [← m2, cell_of_row _ _ _ _ 49 (0, 0) h, cell_of_row _ _ _ _ 49 (0, 0) (unhide HGC)]
        go_wp2_with fail
        refine wp_region_held_drew (S := fun w' => w'.cell? ⟨ig, k * 4 + 2, none⟩ = some (.int .i64 (xn : Int))) (by kernel_rfl) ?_ (fun hHeld => ?_)
        · simp [go_sem, m2]
        refine wpAnyH_take (i := 0) (oi := { dst := some 80, op := Op.fieldAddr 29 (Operand.tmp 18) 0, type := 0, pos := "keep.go:250", after := #[], guard := none }) (v := ?_) rfl (by kernel_rfl) (by kernel_rfl) (by kernel_rfl) (fun _ _ _ h => h) (Or.inl ⟨by rfl, ?_⟩) (by assumption) ?_
        rotate_left
        · intro w hSw; (try dsimp only at hSw); go_simp; try with_reducible rfl
        simp only [Act.put, List.setIfInBounds_toArray, List.set_cons_zero, List.set_cons_succ]
        refine wpAnyH_take (i := 2) (oi := { dst := some 82, op := Op.move (Operand.tmp 12), type := 44, pos := "keep.go:250", after := #[], guard := none }) (v := ?_) rfl (by kernel_rfl) (by kernel_rfl) (by kernel_rfl) (fun _ _ _ h => h) (Or.inl ⟨by rfl, ?_⟩) (by assumption) ?_
        rotate_left
        · intro w hSw; (try dsimp only at hSw); go_simp; try with_reducible rfl
        simp only [Act.put, List.setIfInBounds_toArray, List.set_cons_zero, List.set_cons_succ]
        refine wpAnyH_take (i := 3) (oi := { dst := some 83, op := Op.move (Operand.tmp 19), type := 3, pos := "keep.go:250", after := #[], guard := none }) (v := ?_) rfl (by kernel_rfl) (by kernel_rfl) (by kernel_rfl) (fun _ _ _ h => h) (Or.inl ⟨by rfl, ?_⟩) (by assumption) ?_
        rotate_left
        · intro w hSw; (try dsimp only at hSw); go_simp; try with_reducible rfl
        simp only [Act.put, List.setIfInBounds_toArray, List.set_cons_zero, List.set_cons_succ]
        refine wpAnyH_take (i := 4) (oi := { dst := some 84, op := Op.indexAddr 44 (Operand.tmp 82) (Operand.tmp 83), type := 0, pos := "keep.go:250", after := #[{ on := 2, ground := Ground.data }, { on := 3, ground := Ground.data }], guard := none }) (v := ?_) rfl (by kernel_rfl) (by kernel_rfl) (by kernel_rfl) (fun _ _ _ h => h) (Or.inl ⟨by rfl, ?_⟩) (by assumption) ?_
        rotate_left
        · intro w hSw; (try dsimp only at hSw); go_simp; try with_reducible rfl
        simp only [Act.put, List.setIfInBounds_toArray, List.set_cons_zero, List.set_cons_succ]
        refine wpAnyH_take (i := 5) (oi := { dst := some 85, op := Op.fieldAddr 49 (Operand.tmp 84) 2, type := 0, pos := "keep.go:250", after := #[{ on := 4, ground := Ground.data }], guard := none }) (v := ?_) rfl (by kernel_rfl) (by kernel_rfl) (by kernel_rfl) (fun _ _ _ h => h) (Or.inl ⟨by rfl, ?_⟩) (by assumption) ?_
        rotate_left
        · intro w hSw; (try dsimp only at hSw); go_simp; try with_reducible rfl
        simp only [Act.put, List.setIfInBounds_toArray, List.set_cons_zero, List.set_cons_succ]
        refine wpAnyH_take (i := 6) (oi := { dst := some 86, op := Op.load 3 (Operand.tmp 85), type := 3, pos := "keep.go:250", after := #[{ on := 5, ground := Ground.data }], guard := none }) (v := ?_) rfl (by kernel_rfl) (by kernel_rfl) (by kernel_rfl) (fun _ _ _ h => h) (Or.inl ⟨by rfl, ?_⟩) (by assumption) ?_
        rotate_left
        · intro w hSw; (try dsimp only at hSw); go_simp; try with_reducible rfl
        simp only [Act.put, List.setIfInBounds_toArray, List.set_cons_zero, List.set_cons_succ]
        refine wpAnyH_ready (rs := [1, 7]) (by kernel_rfl) (by simp) ?_
        refine AllReadyH.cons (o := { dst := some 81, op := Op.load 26 (Operand.tmp 80), type := 26, pos := "keep.go:250", after := #[{ on := 0, ground := Ground.data }], guard := none }) rfl (fun K' hK' => ?_) (AllReadyH.cons (o := { dst := some 87, op := Op.buildSlice 26 1 #[(0, Operand.tmp 86)], type := 26, pos := "keep.go:250", after := #[{ on := 6, ground := Ground.data }], guard := none }) rfl (fun K' hK' => ?_) AllReadyH.nil)
        · go_simp
          refine hK'.out _ _ ?_ (fun hHeld => ?_)
          · simp [go_sem, m2]
          clear hK' K'
          try simp only [Act.put, List.setIfInBounds_toArray, List.set_cons_zero, List.set_cons_succ]
          refine wpAnyH_ready (rs := [7]) (by kernel_rfl) (by simp) ?_
          refine AllReadyH.cons (o := { dst := some 87, op := Op.buildSlice 26 1 #[(0, Operand.tmp 86)], type := 26, pos := "keep.go:250", after := #[{ on := 6, ground := Ground.data }], guard := none }) rfl (fun K' hK' => ?_) AllReadyH.nil
          go_simp
          refine hK'.out _ _ ?_ (fun hHeld => ?_)
          · exact gq _
          clear hK' K'
          try simp only [Act.put, List.setIfInBounds_toArray, List.set_cons_zero, List.set_cons_succ]
          refine wpAnyH_ready (rs := [8]) (by kernel_rfl) (by simp) ?_
          refine AllReadyH.cons (o := { dst := some 88, op := Op.call { callee := Callee.builtin Builtin.append, args := #[Operand.tmp 81, Operand.tmp 87], argTypes := #[26, 26] }, type := 26, pos := "keep.go:250", after := #[{ on := 1, ground := Ground.data }, { on := 7, ground := Ground.data }], guard := none }) rfl (fun K' hK' => ?_) AllReadyH.nil
          refine step_growb_at (d := 88) rfl elemI (by decide) (by decide) (v := .slice a0 (LO (ps.take k) 0).length c0) (n := (LO (ps.take k) 0).length) (m := 1) (xs := LO (ps.take k) 0) (news := [.int .i64 (xn : Int)]) (B := Wb.heap.size) (ad := ⟨wr.heap.size, 0, none⟩) (cap := 1) rfl (.tmp 81) (.tmp 87) rfl rfl rfl (by have h := ((unhide HKW).keep ((Fr.refl _ _).alloc (.cells #[.int .i64 (xn : Int)] 3)).drew).row 0 (by omega); rw [ef] at h; exact h) rfl (World.news_of_block (heap_alloc_new wr _)) (by simp [Value.oneCell']) (by omega) (unhide HLL 0) (by have := (unhide HKW).fr.size; simp; omega) ?_
          intro v3 w3 o3 f3 sh3
          obtain ⟨av, cv, rfl⟩ := sh3
          have f3' : Fr (own (F 0)) (wr.alloc (.cells #[.int .i64 (xn : Int)] 3)).drew w3 (own (.slice av ((LO (ps.take k) 0).length + 1) cv)) := by rw [ef]; exact f3
          have pr := ((unhide HKW).keep ((Fr.refl _ _).alloc (.cells #[.int .i64 (xn : Int)] 3)).drew).pb (j := 0) (by omega) f3'
          rw [hzz] at pr
          have pc : w3.cell? ⟨w6.heap.size + 1, 0, none⟩ = some (.slice a0 (LO (ps.take k) 0).length c0) := by rw [← ef]; exact cell_of_row _ _ 0 _ 29 (0, 0) pr
          have pz : w3.frozen? ⟨w6.heap.size + 1, 0, none⟩ = false := frozen_rowE pr 0
          have gg : w3.cell? ⟨ig, k * 4 + 2, none⟩ = some (.int .i64 (xn : Int)) := (f3'.cell ig _ (by have := (Array.getElem?_eq_some_iff.1 (unhide HGC)).1; simp; omega) (fun hq => by have h := (World.ownsRow.lt ((unhide HKW).row 0 (by omega)) ig hq).1; have := unhide HGW; omega)).trans (gq _)
          have O3 := hide (((unhide HKW).keep ((Fr.refl _ _).alloc (.cells #[.int .i64 (xn : Int)] 3)).drew).grow (j := 0) (by omega) (v' := .slice av ((LO (ps.take k) 0).length + 1) cv) (u := .int .i64 (xn : Int)) o3 f3')
          clear o3 f3 f3' pr
          refine hK'.out _ _ gg (fun hHeld => ?_)
          clear hK' K'
          simp only [List.setIfInBounds_toArray, List.set_cons_zero, List.set_cons_succ]
          refine wpAnyH_take (i := 9) (oi := { dst := some 89, op := Op.fieldAddr 29 (Operand.tmp 18) 0, type := 0, pos := "keep.go:250", after := #[{ on := 0, ground := Ground.phase }, { on := 1, ground := Ground.phase }, { on := 2, ground := Ground.phase }, { on := 3, ground := Ground.phase }, { on := 4, ground := Ground.phase }, { on := 5, ground := Ground.phase }, { on := 6, ground := Ground.phase }, { on := 7, ground := Ground.phase }, { on := 8, ground := Ground.phase }], guard := none }) (v := ?_) rfl (by kernel_rfl) (by kernel_rfl) (by kernel_rfl) (fun _ _ _ h => h) (Or.inl ⟨by rfl, ?_⟩) (by assumption) ?_
          rotate_left
          · intro w hSw; (try dsimp only at hSw); go_simp; try with_reducible rfl
          simp only [Act.put, List.setIfInBounds_toArray, List.set_cons_zero, List.set_cons_succ]
          refine wpAnyH_ready (rs := [10]) (by kernel_rfl) (by simp) ?_
          refine AllReadyH.cons (o := { dst := none, op := Op.store 26 (Operand.tmp 89) (Operand.tmp 88), type := 0, pos := "keep.go:250", after := #[{ on := 9, ground := Ground.data }, { on := 8, ground := Ground.data }, { on := 8, ground := Ground.chain }, { on := 0, ground := Ground.phase }, { on := 1, ground := Ground.phase }, { on := 2, ground := Ground.phase }, { on := 3, ground := Ground.phase }, { on := 4, ground := Ground.phase }, { on := 5, ground := Ground.phase }, { on := 6, ground := Ground.phase }, { on := 7, ground := Ground.phase }, { on := 8, ground := Ground.phase }], guard := none }) rfl (fun K' hK' => ?_) AllReadyH.nil
          go_simp
          refine hK'.out _ _ ?_ (fun hHeld => ?_)
          · simp [go_sem, gg]
          clear hK' K'
          try simp only [Act.put, List.setIfInBounds_toArray, List.set_cons_zero, List.set_cons_succ]
          refine wpAnyH_done (by kernel_rfl) ?_ _
          go_wp2
          go_roundw
          case rel =>
            refine ⟨k + 1, by omega, by go_num, updO F 0 (.slice av ((LO (ps.take k) 0).length + 1) cv), ?_⟩
            rw [unhide HTK, LO_snoc _ _ 0 rfl]
            have h := unhide O3
            rw [hzz] at h
            exact h
          case measure => simp [intOf]; omega
        · go_simp
          refine hK'.out _ _ ?_ (fun hHeld => ?_)
          · exact gq _
          clear hK' K'
          try simp only [Act.put, List.setIfInBounds_toArray, List.set_cons_zero, List.set_cons_succ]
          refine wpAnyH_ready (rs := [1]) (by kernel_rfl) (by simp) ?_
          refine AllReadyH.cons (o := { dst := some 81, op := Op.load 26 (Operand.tmp 80), type := 26, pos := "keep.go:250", after := #[{ on := 0, ground := Ground.data }], guard := none }) rfl (fun K' hK' => ?_) AllReadyH.nil
          go_simp
          refine hK'.out _ _ ?_ (fun hHeld => ?_)
          · exact gq _
          clear hK' K'
          try simp only [Act.put, List.setIfInBounds_toArray, List.set_cons_zero, List.set_cons_succ]
          refine wpAnyH_ready (rs := [8]) (by kernel_rfl) (by simp) ?_
          refine AllReadyH.cons (o := { dst := some 88, op := Op.call { callee := Callee.builtin Builtin.append, args := #[Operand.tmp 81, Operand.tmp 87], argTypes := #[26, 26] }, type := 26, pos := "keep.go:250", after := #[{ on := 1, ground := Ground.data }, { on := 7, ground := Ground.data }], guard := none }) rfl (fun K' hK' => ?_) AllReadyH.nil
          refine step_growb_at (d := 88) rfl elemI (by decide) (by decide) (v := .slice a0 (LO (ps.take k) 0).length c0) (n := (LO (ps.take k) 0).length) (m := 1) (xs := LO (ps.take k) 0) (news := [.int .i64 (xn : Int)]) (B := Wb.heap.size) (ad := ⟨wr.heap.size, 0, none⟩) (cap := 1) rfl (.tmp 81) (.tmp 87) rfl rfl rfl (by have h := ((unhide HKW).keep ((Fr.refl _ _).alloc (.cells #[.int .i64 (xn : Int)] 3)).drew).row 0 (by omega); rw [ef] at h; exact h) rfl (World.news_of_block (heap_alloc_new wr _)) (by simp [Value.oneCell']) (by omega) (unhide HLL 0) (by have := (unhide HKW).fr.size; simp; omega) ?_
          intro v3 w3 o3 f3 sh3
          obtain ⟨av, cv, rfl⟩ := sh3
          have f3' : Fr (own (F 0)) (wr.alloc (.cells #[.int .i64 (xn : Int)] 3)).drew w3 (own (.slice av ((LO (ps.take k) 0).length + 1) cv)) := by rw [ef]; exact f3
          have pr := ((unhide HKW).keep ((Fr.refl _ _).alloc (.cells #[.int .i64 (xn : Int)] 3)).drew).pb (j := 0) (by omega) f3'
          rw [hzz] at pr
          have pc : w3.cell? ⟨w6.heap.size + 1, 0, none⟩ = some (.slice a0 (LO (ps.take k) 0).length c0) := by rw [← ef]; exact cell_of_row _ _ 0 _ 29 (0, 0) pr
          have pz : w3.frozen? ⟨w6.heap.size + 1, 0, none⟩ = false := frozen_rowE pr 0
          have gg : w3.cell? ⟨ig, k * 4 + 2, none⟩ = some (.int .i64 (xn : Int)) := (f3'.cell ig _ (by have := (Array.getElem?_eq_some_iff.1 (unhide HGC)).1; simp; omega) (fun hq => by have h := (World.ownsRow.lt ((unhide HKW).row 0 (by omega)) ig hq).1; have := unhide HGW; omega)).trans (gq _)
          have O3 := hide (((unhide HKW).keep ((Fr.refl _ _).alloc (.cells #[.int .i64 (xn : Int)] 3)).drew).grow (j := 0) (by omega) (v' := .slice av ((LO (ps.take k) 0).length + 1) cv) (u := .int .i64 (xn : Int)) o3 f3')
          clear o3 f3 f3' pr
          refine hK'.out _ _ gg (fun hHeld => ?_)
          clear hK' K'
          simp only [List.setIfInBounds_toArray, List.set_cons_zero, List.set_cons_succ]
          refine wpAnyH_take (i := 9) (oi := { dst := some 89, op := Op.fieldAddr 29 (Operand.tmp 18) 0, type := 0, pos := "keep.go:250", after := #[{ on := 0, ground := Ground.phase }, { on := 1, ground := Ground.phase }, { on := 2, ground := Ground.phase }, { on := 3, ground := Ground.phase }, { on := 4, ground := Ground.phase }, { on := 5, ground := Ground.phase }, { on := 6, ground := Ground.phase }, { on := 7, ground := Ground.phase }, { on := 8, ground := Ground.phase }], guard := none }) (v := ?_) rfl (by kernel_rfl) (by kernel_rfl) (by kernel_rfl) (fun _ _ _ h => h) (Or.inl ⟨by rfl, ?_⟩) (by assumption) ?_
          rotate_left
          · intro w hSw; (try dsimp only at hSw); go_simp; try with_reducible rfl
          simp only [Act.put, List.setIfInBounds_toArray, List.set_cons_zero, List.set_cons_succ]
          refine wpAnyH_ready (rs := [10]) (by kernel_rfl) (by simp) ?_
          refine AllReadyH.cons (o := { dst := none, op := Op.store 26 (Operand.tmp 89) (Operand.tmp 88), type := 0, pos := "keep.go:250", after := #[{ on := 9, ground := Ground.data }, { on := 8, ground := Ground.data }, { on := 8, ground := Ground.chain }, { on := 0, ground := Ground.phase }, { on := 1, ground := Ground.phase }, { on := 2, ground := Ground.phase }, { on := 3, ground := Ground.phase }, { on := 4, ground := Ground.phase }, { on := 5, ground := Ground.phase }, { on := 6, ground := Ground.phase }, { on := 7, ground := Ground.phase }, { on := 8, ground := Ground.phase }], guard := none }) rfl (fun K' hK' => ?_) AllReadyH.nil
          go_simp
          refine hK'.out _ _ ?_ (fun hHeld => ?_)
          · simp [go_sem, gg]
          clear hK' K'
          try simp only [Act.put, List.setIfInBounds_toArray, List.set_cons_zero, List.set_cons_succ]
          refine wpAnyH_done (by kernel_rfl) ?_ _
          go_wp2
          go_roundw
          case rel =>
            refine ⟨k + 1, by omega, by go_num, updO F 0 (.slice av ((LO (ps.take k) 0).length + 1) cv), ?_⟩
            rw [unhide HTK, LO_snoc _ _ 0 rfl]
            have h := unhide O3
            rw [hzz] at h
            exact h
          case measure => simp [intOf]; omega
      · obtain ⟨a1, c1, ef⟩ := row_shape ((unhide HKW).row 1 (by omega))
        have vbj : wr.cell? ⟨w6.heap.size + 1, 1, none⟩ = some (.slice a1 (LO (ps.take k) 1).length c1) := by rw [← ef]; exact cell_of_row _ _ 1 _ 29 (0, 0) (unhide HVB)
        have vbq : ∀ o, (wr.alloc o).drew.cell? ⟨w6.heap.size + 1, 1, none⟩ = some (.slice a1 (LO (ps.take k) 1).length c1) := fun o => by
          have h : (wr.alloc o).drew.heap[w6.heap.size + 1]? = some (.cells #[F 0, F 1, F 2, F 3] 29) := (Below.heap_alloc wr o _ hbl).trans (unhide HVB)
          rw [← ef]; exact cell_of_row _ _ 1 _ 29 (0, 0) h
        have gq : ∀ o, (wr.alloc o).drew.cell? ⟨ig, k * 4 + 3, none⟩ = some (.slice fa fn fc) := fun o => by
          have h : (wr.alloc o).drew.heap[ig]? = wr.heap[ig]? := Below.heap_alloc wr o _ (Array.getElem?_eq_some_iff.1 (unhide HGC)).1
          rw [unhide HGC] at h
          rw [← m3, cell_of_row _ _ _ _ 49 (0, 0) h, cell_of_row _ _ _ _ 49 (0, 0) (unhide HGC)]
        go_wp2_with fail
        refine wp_region_held_drew (S := fun w' => w'.cell? ⟨ig, k * 4 + 3, none⟩ = some (.slice fa fn fc)) (by kernel_rfl) ?_ (fun hHeld => ?_)
        · simp [go_sem, m3]
        refine wpAnyH_take (i := 0) (oi := { dst := some 92, op := Op.fieldAddr 29 (Operand.tmp 18) 1, type := 0, pos := "keep.go:252", after := #[], guard := none }) (v := ?_) rfl (by kernel_rfl) (by kernel_rfl) (by kernel_rfl) (fun _ _ _ h => h) (Or.inl ⟨by rfl, ?_⟩) (by assumption) ?_
        rotate_left
        · intro w hSw; (try dsimp only at hSw); go_simp; try with_reducible rfl
        simp only [Act.put, List.setIfInBounds_toArray, List.set_cons_zero, List.set_cons_succ]
        refine wpAnyH_take (i := 2) (oi := { dst := some 94, op := Op.move (Operand.tmp 12), type := 44, pos := "keep.go:252", after := #[], guard := none }) (v := ?_) rfl (by kernel_rfl) (by kernel_rfl) (by kernel_rfl) (fun _ _ _ h => h) (Or.inl ⟨by rfl, ?_⟩) (by assumption) ?_
        rotate_left
        · intro w hSw; (try dsimp only at hSw); go_simp; try with_reducible rfl
        simp only [Act.put, List.setIfInBounds_toArray, List.set_cons_zero, List.set_cons_succ]
        refine wpAnyH_take (i := 3) (oi := { dst := some 95, op := Op.move (Operand.tmp 19), type := 3, pos := "keep.go:252", after := #[], guard := none }) (v := ?_) rfl (by kernel_rfl) (by kernel_rfl) (by kernel_rfl) (fun _ _ _ h => h) (Or.inl ⟨by rfl, ?_⟩) (by assumption) ?_
        rotate_left
        · intro w hSw; (try dsimp only at hSw); go_simp; try with_reducible rfl
        simp only [Act.put, List.setIfInBounds_toArray, List.set_cons_zero, List.set_cons_succ]
        refine wpAnyH_take (i := 4) (oi := { dst := some 96, op := Op.indexAddr 44 (Operand.tmp 94) (Operand.tmp 95), type := 0, pos := "keep.go:252", after := #[{ on := 2, ground := Ground.data }, { on := 3, ground := Ground.data }], guard := none }) (v := ?_) rfl (by kernel_rfl) (by kernel_rfl) (by kernel_rfl) (fun _ _ _ h => h) (Or.inl ⟨by rfl, ?_⟩) (by assumption) ?_
        rotate_left
        · intro w hSw; (try dsimp only at hSw); go_simp; try with_reducible rfl
        simp only [Act.put, List.setIfInBounds_toArray, List.set_cons_zero, List.set_cons_succ]
        refine wpAnyH_take (i := 5) (oi := { dst := some 97, op := Op.fieldAddr 49 (Operand.tmp 96) 3, type := 0, pos := "keep.go:252", after := #[{ on := 4, ground := Ground.data }], guard := none }) (v := ?_) rfl (by kernel_rfl) (by kernel_rfl) (by kernel_rfl) (fun _ _ _ h => h) (Or.inl ⟨by rfl, ?_⟩) (by assumption) ?_
        rotate_left
        · intro w hSw; (try dsimp only at hSw); go_simp; try with_reducible rfl
        simp only [Act.put, List.setIfInBounds_toArray, List.set_cons_zero, List.set_cons_succ]
        refine wpAnyH_take (i := 6) (oi := { dst := some 98, op := Op.load 26 (Operand.tmp 97), type := 26, pos := "keep.go:252", after := #[{ on := 5, ground := Ground.data }], guard := none }) (v := ?_) rfl (by kernel_rfl) (by kernel_rfl) (by kernel_rfl) (fun _ _ _ h => h) (Or.inl ⟨by rfl, ?_⟩) (by assumption) ?_
        rotate_left
        · intro w hSw; (try dsimp only at hSw); go_simp; try with_reducible rfl
        simp only [Act.put, List.setIfInBounds_toArray, List.set_cons_zero, List.set_cons_succ]
        refine wpAnyH_ready (rs := [1, 7]) (by kernel_rfl) (by simp) ?_
        refine AllReadyH.cons (o := { dst := some 93, op := Op.load 27 (Operand.tmp 92), type := 27, pos := "keep.go:252", after := #[{ on := 0, ground := Ground.data }], guard := none }) rfl (fun K' hK' => ?_) (AllReadyH.cons (o := { dst := some 99, op := Op.buildSlice 27 1 #[(0, Operand.tmp 98)], type := 27, pos := "keep.go:252", after := #[{ on := 6, ground := Ground.data }], guard := none }) rfl (fun K' hK' => ?_) AllReadyH.nil)
        · go_simp
          refine hK'.out _ _ ?_ (fun hHeld => ?_)
          · simp [go_sem, m3]
          clear hK' K'
          try simp only [Act.put, List.setIfInBounds_toArray, List.set_cons_zero, List.set_cons_succ]
          refine wpAnyH_ready (rs := [7]) (by kernel_rfl) (by simp) ?_
          refine AllReadyH.cons (o := { dst := some 99, op := Op.buildSlice 27 1 #[(0, Operand.tmp 98)], type := 27, pos := "keep.go:252", after := #[{ on := 6, ground := Ground.data }], guard := none }) rfl (fun K' hK' => ?_) AllReadyH.nil
          go_simp
          refine hK'.out _ _ ?_ (fun hHeld => ?_)
          · exact gq _
          clear hK' K'
          try simp only [Act.put, List.setIfInBounds_toArray, List.set_cons_zero, List.set_cons_succ]
          refine wpAnyH_ready (rs := [8]) (by kernel_rfl) (by simp) ?_
          refine AllReadyH.cons (o := { dst := some 100, op := Op.call { callee := Callee.builtin Builtin.append, args := #[Operand.tmp 93, Operand.tmp 99], argTypes := #[27, 27] }, type := 27, pos := "keep.go:252", after := #[{ on := 1, ground := Ground.data }, { on := 7, ground := Ground.data }], guard := none }) rfl (fun K' hK' => ?_) AllReadyH.nil
          refine step_growb_at (d := 100) rfl elemB (by decide) (by decide) (v := .slice a1 (LO (ps.take k) 1).length c1) (n := (LO (ps.take k) 1).length) (m := 1) (xs := LO (ps.take k) 1) (news := [.slice fa fn fc]) (B := Wb.heap.size) (ad := ⟨wr.heap.size, 0, none⟩) (cap := 1) rfl (.tmp 93) (.tmp 99) rfl rfl rfl (by have h := ((unhide HKW).keep ((Fr.refl _ _).alloc (.cells #[.slice fa fn fc] 26)).drew).row 1 (by omega); rw [ef] at h; exact h) rfl (World.news_of_block (heap_alloc_new wr _)) (by simp [Value.oneCell']) (by omega) (unhide HLL 1) (by have := (unhide HKW).fr.size; simp; omega) ?_
          intro v3 w3 o3 f3 sh3
          obtain ⟨av, cv, rfl⟩ := sh3
          have f3' : Fr (own (F 1)) (wr.alloc (.cells #[.slice fa fn fc] 26)).drew w3 (own (.slice av ((LO (ps.take k) 1).length + 1) cv)) := by rw [ef]; exact f3
          have pr := ((unhide HKW).keep ((Fr.refl _ _).alloc (.cells #[.slice fa fn fc] 26)).drew).pb (j := 1) (by omega) f3'
          rw [hzz] at pr
          have pc : w3.cell? ⟨w6.heap.size + 1, 1, none⟩ = some (.slice a1 (LO (ps.take k) 1).length c1) := by rw [← ef]; exact cell_of_row _ _ 1 _ 29 (0, 0) pr
          have pz : w3.frozen? ⟨w6.heap.size + 1, 1, none⟩ = false := frozen_rowE pr 1
          have gg : w3.cell? ⟨ig, k * 4 + 3, none⟩ = some (.slice fa fn fc) := (f3'.cell ig _ (by have := (Array.getElem?_eq_some_iff.1 (unhide HGC)).1; simp; omega) (fun hq => by have h := (World.ownsRow.lt ((unhide HKW).row 1 (by omega)) ig hq).1; have := unhide HGW; omega)).trans (gq _)
          have O3 := hide (((unhide HKW).keep ((Fr.refl _ _).alloc (.cells #[.slice fa fn fc] 26)).drew).grow (j := 1) (by omega) (v' := .slice av ((LO (ps.take k) 1).length + 1) cv) (u := .slice fa fn fc) o3 f3')
          clear o3 f3 f3' pr
          refine hK'.out _ _ gg (fun hHeld => ?_)
          clear hK' K'
          simp only [List.setIfInBounds_toArray, List.set_cons_zero, List.set_cons_succ]
          refine wpAnyH_take (i := 9) (oi := { dst := some 101, op := Op.fieldAddr 29 (Operand.tmp 18) 1, type := 0, pos := "keep.go:252", after := #[{ on := 0, ground := Ground.phase }, { on := 1, ground := Ground.phase }, { on := 2, ground := Ground.phase }, { on := 3, ground := Ground.phase }, { on := 4, ground := Ground.phase }, { on := 5, ground := Ground.phase }, { on := 6, ground := Ground.phase }, { on := 7, ground := Ground.phase }, { on := 8, ground := Ground.phase }], guard := none }) (v := ?_) rfl (by kernel_rfl) (by kernel_rfl) (by kernel_rfl) (fun _ _ _ h => h) (Or.inl ⟨by rfl, ?_⟩) (by assumption) ?_
          rotate_left
          · intro w hSw; (try dsimp only at hSw); go_simp; try with_reducible rfl
          simp only [Act.put, List.setIfInBounds_toArray, List.set_cons_zero, List.set_cons_succ]
          refine wpAnyH_ready (rs := [10]) (by kernel_rfl) (by simp) ?_
          refine AllReadyH.cons (o := { dst := none, op := Op.store 27 (Operand.tmp 101) (Operand.tmp 100), type := 0, pos := "keep.go:252", after := #[{ on := 9, ground := Ground.data }, { on := 8, ground := Ground.data }, { on := 8, ground := Ground.chain }, { on := 0, ground := Ground.phase }, { on := 1, ground := Ground.phase }, { on := 2, ground := Ground.phase }, { on := 3, ground := Ground.phase }, { on := 4, ground := Ground.phase }, { on := 5, ground := Ground.phase }, { on := 6, ground := Ground.phase }, { on := 7, ground := Ground.phase }, { on := 8, ground := Ground.phase }], guard := none }) rfl (fun K' hK' => ?_) AllReadyH.nil
          go_simp
          refine hK'.out _ _ ?_ (fun hHeld => ?_)
          · simp [go_sem, gg]
          clear hK' K'
          try simp only [Act.put, List.setIfInBounds_toArray, List.set_cons_zero, List.set_cons_succ]
          refine wpAnyH_done (by kernel_rfl) ?_ _
          go_wp2
          go_roundw
          case rel =>
            refine ⟨k + 1, by omega, by go_num, updO F 1 (.slice av ((LO (ps.take k) 1).length + 1) cv), ?_⟩
            rw [unhide HTK, LO_snoc _ _ 1 rfl]
            have h := unhide O3
            rw [hzz] at h
            exact h
          case measure => simp [intOf]; omega
        · go_simp
          refine hK'.out _ _ ?_ (fun hHeld => ?_)
          · exact gq _
          clear hK' K'
          try simp only [Act.put, List.setIfInBounds_toArray, List.set_cons_zero, List.set_cons_succ]
          refine wpAnyH_ready (rs := [1]) (by kernel_rfl) (by simp) ?_
          refine AllReadyH.cons (o := { dst := some 93, op := Op.load 27 (Operand.tmp 92), type := 27, pos := "keep.go:252", after := #[{ on := 0, ground := Ground.data }], guard := none }) rfl (fun K' hK' => ?_) AllReadyH.nil
          go_simp
          refine hK'.out _ _ ?_ (fun hHeld => ?_)
          · exact gq _
          clear hK' K'
          try simp only [Act.put, List.setIfInBounds_toArray, List.set_cons_zero, List.set_cons_succ]
          refine wpAnyH_ready (rs := [8]) (by kernel_rfl) (by simp) ?_
          refine AllReadyH.cons (o := { dst := some 100, op := Op.call { callee := Callee.builtin Builtin.append, args := #[Operand.tmp 93, Operand.tmp 99], argTypes := #[27, 27] }, type := 27, pos := "keep.go:252", after := #[{ on := 1, ground := Ground.data }, { on := 7, ground := Ground.data }], guard := none }) rfl (fun K' hK' => ?_) AllReadyH.nil
          refine step_growb_at (d := 100) rfl elemB (by decide) (by decide) (v := .slice a1 (LO (ps.take k) 1).length c1) (n := (LO (ps.take k) 1).length) (m := 1) (xs := LO (ps.take k) 1) (news := [.slice fa fn fc]) (B := Wb.heap.size) (ad := ⟨wr.heap.size, 0, none⟩) (cap := 1) rfl (.tmp 93) (.tmp 99) rfl rfl rfl (by have h := ((unhide HKW).keep ((Fr.refl _ _).alloc (.cells #[.slice fa fn fc] 26)).drew).row 1 (by omega); rw [ef] at h; exact h) rfl (World.news_of_block (heap_alloc_new wr _)) (by simp [Value.oneCell']) (by omega) (unhide HLL 1) (by have := (unhide HKW).fr.size; simp; omega) ?_
          intro v3 w3 o3 f3 sh3
          obtain ⟨av, cv, rfl⟩ := sh3
          have f3' : Fr (own (F 1)) (wr.alloc (.cells #[.slice fa fn fc] 26)).drew w3 (own (.slice av ((LO (ps.take k) 1).length + 1) cv)) := by rw [ef]; exact f3
          have pr := ((unhide HKW).keep ((Fr.refl _ _).alloc (.cells #[.slice fa fn fc] 26)).drew).pb (j := 1) (by omega) f3'
          rw [hzz] at pr
          have pc : w3.cell? ⟨w6.heap.size + 1, 1, none⟩ = some (.slice a1 (LO (ps.take k) 1).length c1) := by rw [← ef]; exact cell_of_row _ _ 1 _ 29 (0, 0) pr
          have pz : w3.frozen? ⟨w6.heap.size + 1, 1, none⟩ = false := frozen_rowE pr 1
          have gg : w3.cell? ⟨ig, k * 4 + 3, none⟩ = some (.slice fa fn fc) := (f3'.cell ig _ (by have := (Array.getElem?_eq_some_iff.1 (unhide HGC)).1; simp; omega) (fun hq => by have h := (World.ownsRow.lt ((unhide HKW).row 1 (by omega)) ig hq).1; have := unhide HGW; omega)).trans (gq _)
          have O3 := hide (((unhide HKW).keep ((Fr.refl _ _).alloc (.cells #[.slice fa fn fc] 26)).drew).grow (j := 1) (by omega) (v' := .slice av ((LO (ps.take k) 1).length + 1) cv) (u := .slice fa fn fc) o3 f3')
          clear o3 f3 f3' pr
          refine hK'.out _ _ gg (fun hHeld => ?_)
          clear hK' K'
          simp only [List.setIfInBounds_toArray, List.set_cons_zero, List.set_cons_succ]
          refine wpAnyH_take (i := 9) (oi := { dst := some 101, op := Op.fieldAddr 29 (Operand.tmp 18) 1, type := 0, pos := "keep.go:252", after := #[{ on := 0, ground := Ground.phase }, { on := 1, ground := Ground.phase }, { on := 2, ground := Ground.phase }, { on := 3, ground := Ground.phase }, { on := 4, ground := Ground.phase }, { on := 5, ground := Ground.phase }, { on := 6, ground := Ground.phase }, { on := 7, ground := Ground.phase }, { on := 8, ground := Ground.phase }], guard := none }) (v := ?_) rfl (by kernel_rfl) (by kernel_rfl) (by kernel_rfl) (fun _ _ _ h => h) (Or.inl ⟨by rfl, ?_⟩) (by assumption) ?_
          rotate_left
          · intro w hSw; (try dsimp only at hSw); go_simp; try with_reducible rfl
          simp only [Act.put, List.setIfInBounds_toArray, List.set_cons_zero, List.set_cons_succ]
          refine wpAnyH_ready (rs := [10]) (by kernel_rfl) (by simp) ?_
          refine AllReadyH.cons (o := { dst := none, op := Op.store 27 (Operand.tmp 101) (Operand.tmp 100), type := 0, pos := "keep.go:252", after := #[{ on := 9, ground := Ground.data }, { on := 8, ground := Ground.data }, { on := 8, ground := Ground.chain }, { on := 0, ground := Ground.phase }, { on := 1, ground := Ground.phase }, { on := 2, ground := Ground.phase }, { on := 3, ground := Ground.phase }, { on := 4, ground := Ground.phase }, { on := 5, ground := Ground.phase }, { on := 6, ground := Ground.phase }, { on := 7, ground := Ground.phase }, { on := 8, ground := Ground.phase }], guard := none }) rfl (fun K' hK' => ?_) AllReadyH.nil
          go_simp
          refine hK'.out _ _ ?_ (fun hHeld => ?_)
          · simp [go_sem, gg]
          clear hK' K'
          try simp only [Act.put, List.setIfInBounds_toArray, List.set_cons_zero, List.set_cons_succ]
          refine wpAnyH_done (by kernel_rfl) ?_ _
          go_wp2
          go_roundw
          case rel =>
            refine ⟨k + 1, by omega, by go_num, updO F 1 (.slice av ((LO (ps.take k) 1).length + 1) cv), ?_⟩
            rw [unhide HTK, LO_snoc _ _ 1 rfl]
            have h := unhide O3
            rw [hzz] at h
            exact h
          case measure => simp [intOf]; omega
      · obtain ⟨a2, c2, ef⟩ := row_shape ((unhide HKW).row 2 (by omega))
        have vbj : wr.cell? ⟨w6.heap.size + 1, 2, none⟩ = some (.slice a2 (LO (ps.take k) 2).length c2) := by rw [← ef]; exact cell_of_row _ _ 2 _ 29 (0, 0) (unhide HVB)
        have vbq : ∀ o, (wr.alloc o).drew.cell? ⟨w6.heap.size + 1, 2, none⟩ = some (.slice a2 (LO (ps.take k) 2).length c2) := fun o => by
          have h : (wr.alloc o).drew.heap[w6.heap.size + 1]? = some (.cells #[F 0, F 1, F 2, F 3] 29) := (Below.heap_alloc wr o _ hbl).trans (unhide HVB)
          rw [← ef]; exact cell_of_row _ _ 2 _ 29 (0, 0) h
        have gq : ∀ o, (wr.alloc o).drew.cell? ⟨ig, k * 4 + 2, none⟩ = some (.int .i64 (xn : Int)) := fun o => by
          have h : (wr.alloc o).drew.heap[ig]? = wr.heap[ig]? := Below.heap_alloc wr o _ (Array.getElem?_eq_some_iff.1 (unhide HGC)).1
          rw [unhide HGC] at h
          rw [← m2, cell_of_row _ _ _ _ 49 (0, 0) h, cell_of_row _ _ _ _ 49 (0, 0) (unhide HGC)]
        go_wp2_with fail
        refine wp_region_held_drew (S := fun w' => w'.cell? ⟨ig, k * 4 + 2, none⟩ = some (.int .i64 (xn : Int))) (by kernel_rfl) ?_ (fun hHeld => ?_)
        · simp [go_sem, m2]
        refine wpAnyH_take (i := 0) (oi := { dst := some 104, op := Op.fieldAddr 29 (Operand.tmp 18) 2, type := 0, pos := "keep.go:254", after := #[], guard := none }) (v := ?_) rfl (by kernel_rfl) (by kernel_rfl) (by kernel_rfl) (fun _ _ _ h => h) (Or.inl ⟨by rfl, ?_⟩) (by assumption) ?_
        rotate_left
        · intro w hSw; (try dsimp only at hSw); go_simp; try with_reducible rfl
        simp only [Act.put, List.setIfInBounds_toArray, List.set_cons_zero, List.set_cons_succ]
        refine wpAnyH_take (i := 2) (oi := { dst := some 106, op := Op.move (Operand.tmp 12), type := 44, pos := "keep.go:254", after := #[], guard := none }) (v := ?_) rfl (by kernel_rfl) (by kernel_rfl) (by kernel_rfl) (fun _ _ _ h => h) (Or.inl ⟨by rfl, ?_⟩) (by assumption) ?_
        rotate_left
        · intro w hSw; (try dsimp only at hSw); go_simp; try with_reducible rfl
        simp only [Act.put, List.setIfInBounds_toArray, List.set_cons_zero, List.set_cons_succ]
        refine wpAnyH_take (i := 3) (oi := { dst := some 107, op := Op.move (Operand.tmp 19), type := 3, pos := "keep.go:254", after := #[], guard := none }) (v := ?_) rfl (by kernel_rfl) (by kernel_rfl) (by kernel_rfl) (fun _ _ _ h => h) (Or.inl ⟨by rfl, ?_⟩) (by assumption) ?_
        rotate_left
        · intro w hSw; (try dsimp only at hSw); go_simp; try with_reducible rfl
        simp only [Act.put, List.setIfInBounds_toArray, List.set_cons_zero, List.set_cons_succ]
        refine wpAnyH_take (i := 4) (oi := { dst := some 108, op := Op.indexAddr 44 (Operand.tmp 106) (Operand.tmp 107), type := 0, pos := "keep.go:254", after := #[{ on := 2, ground := Ground.data }, { on := 3, ground := Ground.data }], guard := none }) (v := ?_) rfl (by kernel_rfl) (by kernel_rfl) (by kernel_rfl) (fun _ _ _ h => h) (Or.inl ⟨by rfl, ?_⟩) (by assumption) ?_
        rotate_left
        · intro w hSw; (try dsimp only at hSw); go_simp; try with_reducible rfl
        simp only [Act.put, List.setIfInBounds_toArray, List.set_cons_zero, List.set_cons_succ]
        refine wpAnyH_take (i := 5) (oi := { dst := some 109, op := Op.fieldAddr 49 (Operand.tmp 108) 2, type := 0, pos := "keep.go:254", after := #[{ on := 4, ground := Ground.data }], guard := none }) (v := ?_) rfl (by kernel_rfl) (by kernel_rfl) (by kernel_rfl) (fun _ _ _ h => h) (Or.inl ⟨by rfl, ?_⟩) (by assumption) ?_
        rotate_left
        · intro w hSw; (try dsimp only at hSw); go_simp; try with_reducible rfl
        simp only [Act.put, List.setIfInBounds_toArray, List.set_cons_zero, List.set_cons_succ]
        refine wpAnyH_take (i := 6) (oi := { dst := some 110, op := Op.load 3 (Operand.tmp 109), type := 3, pos := "keep.go:254", after := #[{ on := 5, ground := Ground.data }], guard := none }) (v := ?_) rfl (by kernel_rfl) (by kernel_rfl) (by kernel_rfl) (fun _ _ _ h => h) (Or.inl ⟨by rfl, ?_⟩) (by assumption) ?_
        rotate_left
        · intro w hSw; (try dsimp only at hSw); go_simp; try with_reducible rfl
        simp only [Act.put, List.setIfInBounds_toArray, List.set_cons_zero, List.set_cons_succ]
        refine wpAnyH_ready (rs := [1, 7]) (by kernel_rfl) (by simp) ?_
        refine AllReadyH.cons (o := { dst := some 105, op := Op.load 26 (Operand.tmp 104), type := 26, pos := "keep.go:254", after := #[{ on := 0, ground := Ground.data }], guard := none }) rfl (fun K' hK' => ?_) (AllReadyH.cons (o := { dst := some 111, op := Op.buildSlice 26 1 #[(0, Operand.tmp 110)], type := 26, pos := "keep.go:254", after := #[{ on := 6, ground := Ground.data }], guard := none }) rfl (fun K' hK' => ?_) AllReadyH.nil)
        · go_simp
          refine hK'.out _ _ ?_ (fun hHeld => ?_)
          · simp [go_sem, m2]
          clear hK' K'
          try simp only [Act.put, List.setIfInBounds_toArray, List.set_cons_zero, List.set_cons_succ]
          refine wpAnyH_ready (rs := [7]) (by kernel_rfl) (by simp) ?_
          refine AllReadyH.cons (o := { dst := some 111, op := Op.buildSlice 26 1 #[(0, Operand.tmp 110)], type := 26, pos := "keep.go:254", after := #[{ on := 6, ground := Ground.data }], guard := none }) rfl (fun K' hK' => ?_) AllReadyH.nil
          go_simp
          refine hK'.out _ _ ?_ (fun hHeld => ?_)
          · exact gq _
          clear hK' K'
          try simp only [Act.put, List.setIfInBounds_toArray, List.set_cons_zero, List.set_cons_succ]
          refine wpAnyH_ready (rs := [8]) (by kernel_rfl) (by simp) ?_
          refine AllReadyH.cons (o := { dst := some 112, op := Op.call { callee := Callee.builtin Builtin.append, args := #[Operand.tmp 105, Operand.tmp 111], argTypes := #[26, 26] }, type := 26, pos := "keep.go:254", after := #[{ on := 1, ground := Ground.data }, { on := 7, ground := Ground.data }], guard := none }) rfl (fun K' hK' => ?_) AllReadyH.nil
          refine step_growb_at (d := 112) rfl elemI (by decide) (by decide) (v := .slice a2 (LO (ps.take k) 2).length c2) (n := (LO (ps.take k) 2).length) (m := 1) (xs := LO (ps.take k) 2) (news := [.int .i64 (xn : Int)]) (B := Wb.heap.size) (ad := ⟨wr.heap.size, 0, none⟩) (cap := 1) rfl (.tmp 105) (.tmp 111) rfl rfl rfl (by have h := ((unhide HKW).keep ((Fr.refl _ _).alloc (.cells #[.int .i64 (xn : Int)] 3)).drew).row 2 (by omega); rw [ef] at h; exact h) rfl (World.news_of_block (heap_alloc_new wr _)) (by simp [Value.oneCell']) (by omega) (unhide HLL 2) (by have := (unhide HKW).fr.size; simp; omega) ?_
          intro v3 w3 o3 f3 sh3
          obtain ⟨av, cv, rfl⟩ := sh3
          have f3' : Fr (own (F 2)) (wr.alloc (.cells #[.int .i64 (xn : Int)] 3)).drew w3 (own (.slice av ((LO (ps.take k) 2).length + 1) cv)) := by rw [ef]; exact f3
          have pr := ((unhide HKW).keep ((Fr.refl _ _).alloc (.cells #[.int .i64 (xn : Int)] 3)).drew).pb (j := 2) (by omega) f3'
          rw [hzz] at pr
          have pc : w3.cell? ⟨w6.heap.size + 1, 2, none⟩ = some (.slice a2 (LO (ps.take k) 2).length c2) := by rw [← ef]; exact cell_of_row _ _ 2 _ 29 (0, 0) pr
          have pz : w3.frozen? ⟨w6.heap.size + 1, 2, none⟩ = false := frozen_rowE pr 2
          have gg : w3.cell? ⟨ig, k * 4 + 2, none⟩ = some (.int .i64 (xn : Int)) := (f3'.cell ig _ (by have := (Array.getElem?_eq_some_iff.1 (unhide HGC)).1; simp; omega) (fun hq => by have h := (World.ownsRow.lt ((unhide HKW).row 2 (by omega)) ig hq).1; have := unhide HGW; omega)).trans (gq _)
          have O3 := hide (((unhide HKW).keep ((Fr.refl _ _).alloc (.cells #[.int .i64 (xn : Int)] 3)).drew).grow (j := 2) (by omega) (v' := .slice av ((LO (ps.take k) 2).length + 1) cv) (u := .int .i64 (xn : Int)) o3 f3')
          clear o3 f3 f3' pr
          refine hK'.out _ _ gg (fun hHeld => ?_)
          clear hK' K'
          simp only [List.setIfInBounds_toArray, List.set_cons_zero, List.set_cons_succ]
          refine wpAnyH_take (i := 9) (oi := { dst := some 113, op := Op.fieldAddr 29 (Operand.tmp 18) 2, type := 0, pos := "keep.go:254", after := #[{ on := 0, ground := Ground.phase }, { on := 1, ground := Ground.phase }, { on := 2, ground := Ground.phase }, { on := 3, ground := Ground.phase }, { on := 4, ground := Ground.phase }, { on := 5, ground := Ground.phase }, { on := 6, ground := Ground.phase }, { on := 7, ground := Ground.phase }, { on := 8, ground := Ground.phase }], guard := none }) (v := ?_) rfl (by kernel_rfl) (by kernel_rfl) (by kernel_rfl) (fun _ _ _ h => h) (Or.inl ⟨by rfl, ?_⟩) (by assumption) ?_
          rotate_left
          · intro w hSw; (try dsimp only at hSw); go_simp; try with_reducible rfl
          simp only [Act.put, List.setIfInBounds_toArray, List.set_cons_zero, List.set_cons_succ]
          refine wpAnyH_ready (rs := [10]) (by kernel_rfl) (by simp) ?_
          refine AllReadyH.cons (o := { dst := none, op := Op.store 26 (Operand.tmp 113) (Operand.tmp 112), type := 0, pos := "keep.go:254", after := #[{ on := 9, ground := Ground.data }, { on := 8, ground := Ground.data }, { on := 8, ground := Ground.chain }, { on := 0, ground := Ground.phase }, { on := 1, ground := Ground.phase }, { on := 2, ground := Ground.phase }, { on := 3, ground := Ground.phase }, { on := 4, ground := Ground.phase }, { on := 5, ground := Ground.phase }, { on := 6, ground := Ground.phase }, { on := 7, ground := Ground.phase }, { on := 8, ground := Ground.phase }], guard := none }) rfl (fun K' hK' => ?_) AllReadyH.nil
          go_simp
          refine hK'.out _ _ ?_ (fun hHeld => ?_)
          · simp [go_sem, gg]
          clear hK' K'
          try simp only [Act.put, List.setIfInBounds_toArray, List.set_cons_zero, List.set_cons_succ]
          refine wpAnyH_done (by kernel_rfl) ?_ _
          go_wp2
          go_roundw
          case rel =>
            refine ⟨k + 1, by omega, by go_num, updO F 2 (.slice av ((LO (ps.take k) 2).length + 1) cv), ?_⟩
            rw [unhide HTK, LO_snoc _ _ 2 rfl]
            have h := unhide O3
            rw [hzz] at h
            exact h
          case measure => simp [intOf]; omega
        · go_simp
          refine hK'.out _ _ ?_ (fun hHeld => ?_)
          · exact gq _
          clear hK' K'
          try simp only [Act.put, List.setIfInBounds_toArray, List.set_cons_zero, List.set_cons_succ]
          refine wpAnyH_ready (rs := [1]) (by kernel_rfl) (by simp) ?_
          refine AllReadyH.cons (o := { dst := some 105, op := Op.load 26 (Operand.tmp 104), type := 26, pos := "keep.go:254", after := #[{ on := 0, ground := Ground.data }], guard := none }) rfl (fun K' hK' => ?_) AllReadyH.nil
          go_simp
          refine hK'.out _ _ ?_ (fun hHeld => ?_)
          · exact gq _
          clear hK' K'
          try simp only [Act.put, List.setIfInBounds_toArray, List.set_cons_zero, List.set_cons_succ]
          refine wpAnyH_ready (rs := [8]) (by kernel_rfl) (by simp) ?_
          refine AllReadyH.cons (o := { dst := some 112, op := Op.call { callee := Callee.builtin Builtin.append, args := #[Operand.tmp 105, Operand.tmp 111], argTypes := #[26, 26] }, type := 26, pos := "keep.go:254", after := #[{ on := 1, ground := Ground.data }, { on := 7, ground := Ground.data }], guard := none }) rfl (fun K' hK' => ?_) AllReadyH.nil
          refine step_growb_at (d := 112) rfl elemI (by decide) (by decide) (v := .slice a2 (LO (ps.take k) 2).length c2) (n := (LO (ps.take k) 2).length) (m := 1) (xs := LO (ps.take k) 2) (news := [.int .i64 (xn : Int)]) (B := Wb.heap.size) (ad := ⟨wr.heap.size, 0, none⟩) (cap := 1) rfl (.tmp 105) (.tmp 111) rfl rfl rfl (by have h := ((unhide HKW).keep ((Fr.refl _ _).alloc (.cells #[.int .i64 (xn : Int)] 3)).drew).row 2 (by omega); rw [ef] at h; exact h) rfl (World.news_of_block (heap_alloc_new wr _)) (by simp [Value.oneCell']) (by omega) (unhide HLL 2) (by have := (unhide HKW).fr.size; simp; omega) ?_
          intro v3 w3 o3 f3 sh3
          obtain ⟨av, cv, rfl⟩ := sh3
          have f3' : Fr (own (F 2)) (wr.alloc (.cells #[.int .i64 (xn : Int)] 3)).drew w3 (own (.slice av ((LO (ps.take k) 2).length + 1) cv)) := by rw [ef]; exact f3
          have pr := ((unhide HKW).keep ((Fr.refl _ _).alloc (.cells #[.int .i64 (xn : Int)] 3)).drew).pb (j := 2) (by omega) f3'
          rw [hzz] at pr
          have pc : w3.cell? ⟨w6.heap.size + 1, 2, none⟩ = some (.slice a2 (LO (ps.take k) 2).length c2) := by rw [← ef]; exact cell_of_row _ _ 2 _ 29 (0, 0) pr
          have pz : w3.frozen? ⟨w6.heap.size + 1, 2, none⟩ = false := frozen_rowE pr 2
          have gg : w3.cell? ⟨ig, k * 4 + 2, none⟩ = some (.int .i64 (xn : Int)) := (f3'.cell ig _ (by have := (Array.getElem?_eq_some_iff.1 (unhide HGC)).1; simp; omega) (fun hq => by have h := (World.ownsRow.lt ((unhide HKW).row 2 (by omega)) ig hq).1; have := unhide HGW; omega)).trans (gq _)
          have O3 := hide (((unhide HKW).keep ((Fr.refl _ _).alloc (.cells #[.int .i64 (xn : Int)] 3)).drew).grow (j := 2) (by omega) (v' := .slice av ((LO (ps.take k) 2).length + 1) cv) (u := .int .i64 (xn : Int)) o3 f3')
          clear o3 f3 f3' pr
          refine hK'.out _ _ gg (fun hHeld => ?_)
          clear hK' K'
          simp only [List.setIfInBounds_toArray, List.set_cons_zero, List.set_cons_succ]
          refine wpAnyH_take (i := 9) (oi := { dst := some 113, op := Op.fieldAddr 29 (Operand.tmp 18) 2, type := 0, pos := "keep.go:254", after := #[{ on := 0, ground := Ground.phase }, { on := 1, ground := Ground.phase }, { on := 2, ground := Ground.phase }, { on := 3, ground := Ground.phase }, { on := 4, ground := Ground.phase }, { on := 5, ground := Ground.phase }, { on := 6, ground := Ground.phase }, { on := 7, ground := Ground.phase }, { on := 8, ground := Ground.phase }], guard := none }) (v := ?_) rfl (by kernel_rfl) (by kernel_rfl) (by kernel_rfl) (fun _ _ _ h => h) (Or.inl ⟨by rfl, ?_⟩) (by assumption) ?_
          rotate_left
          · intro w hSw; (try dsimp only at hSw); go_simp; try with_reducible rfl
          simp only [Act.put, List.setIfInBounds_toArray, List.set_cons_zero, List.set_cons_succ]
          refine wpAnyH_ready (rs := [10]) (by kernel_rfl) (by simp) ?_
          refine AllReadyH.cons (o := { dst := none, op := Op.store 26 (Operand.tmp 113) (Operand.tmp 112), type := 0, pos := "keep.go:254", after := #[{ on := 9, ground := Ground.data }, { on := 8, ground := Ground.data }, { on := 8, ground := Ground.chain }, { on := 0, ground := Ground.phase }, { on := 1, ground := Ground.phase }, { on := 2, ground := Ground.phase }, { on := 3, ground := Ground.phase }, { on := 4, ground := Ground.phase }, { on := 5, ground := Ground.phase }, { on := 6, ground := Ground.phase }, { on := 7, ground := Ground.phase }, { on := 8, ground := Ground.phase }], guard := none }) rfl (fun K' hK' => ?_) AllReadyH.nil
          go_simp
          refine hK'.out _ _ ?_ (fun hHeld => ?_)
          · simp [go_sem, gg]
          clear hK' K'
          try simp only [Act.put, List.setIfInBounds_toArray, List.set_cons_zero, List.set_cons_succ]
          refine wpAnyH_done (by kernel_rfl) ?_ _
          go_wp2
          go_roundw
          case rel =>
            refine ⟨k + 1, by omega, by go_num, updO F 2 (.slice av ((LO (ps.take k) 2).length + 1) cv), ?_⟩
            rw [unhide HTK, LO_snoc _ _ 2 rfl]
            have h := unhide O3
            rw [hzz] at h
            exact h
          case measure => simp [intOf]; omega
      · obtain ⟨a3, c3, ef⟩ := row_shape ((unhide HKW).row 3 (by omega))
        have vbj : wr.cell? ⟨w6.heap.size + 1, 3, none⟩ = some (.slice a3 (LO (ps.take k) 3).length c3) := by rw [← ef]; exact cell_of_row _ _ 3 _ 29 (0, 0) (unhide HVB)
        have vbq : ∀ o, (wr.alloc o).drew.cell? ⟨w6.heap.size + 1, 3, none⟩ = some (.slice a3 (LO (ps.take k) 3).length c3) := fun o => by
          have h : (wr.alloc o).drew.heap[w6.heap.size + 1]? = some (.cells #[F 0, F 1, F 2, F 3] 29) := (Below.heap_alloc wr o _ hbl).trans (unhide HVB)
          rw [← ef]; exact cell_of_row _ _ 3 _ 29 (0, 0) h
        have gq : ∀ o, (wr.alloc o).drew.cell? ⟨ig, k * 4 + 2, none⟩ = some (.int .i64 (xn : Int)) := fun o => by
          have h : (wr.alloc o).drew.heap[ig]? = wr.heap[ig]? := Below.heap_alloc wr o _ (Array.getElem?_eq_some_iff.1 (unhide HGC)).1
          rw [unhide HGC] at h
          rw [← m2, cell_of_row _ _ _ _ 49 (0, 0) h, cell_of_row _ _ _ _ 49 (0, 0) (unhide HGC)]
        go_wp2_with fail
        refine wp_region_held_drew (S := fun w' => w'.cell? ⟨ig, k * 4 + 2, none⟩ = some (.int .i64 (xn : Int))) (by kernel_rfl) ?_ (fun hHeld => ?_)
        · simp [go_sem, m2]
        refine wpAnyH_take (i := 0) (oi := { dst := some 116, op := Op.fieldAddr 29 (Operand.tmp 18) 3, type := 0, pos := "keep.go:256", after := #[], guard := none }) (v := ?_) rfl (by kernel_rfl) (by kernel_rfl) (by kernel_rfl) (fun _ _ _ h => h) (Or.inl ⟨by rfl, ?_⟩) (by assumption) ?_
        rotate_left
        · intro w hSw; (try dsimp only at hSw); go_simp; try with_reducible rfl
        simp only [Act.put, List.setIfInBounds_toArray, List.set_cons_zero, List.set_cons_succ]
        refine wpAnyH_take (i := 2) (oi := { dst := some 118, op := Op.move (Operand.tmp 12), type := 44, pos := "keep.go:256", after := #[], guard := none }) (v := ?_) rfl (by kernel_rfl) (by kernel_rfl) (by kernel_rfl) (fun _ _ _ h => h) (Or.inl ⟨by rfl, ?_⟩) (by assumption) ?_
        rotate_left
        · intro w hSw; (try dsimp only at hSw); go_simp; try with_reducible rfl
        simp only [Act.put, List.setIfInBounds_toArray, List.set_cons_zero, List.set_cons_succ]
        refine wpAnyH_take (i := 3) (oi := { dst := some 119, op := Op.move (Operand.tmp 19), type := 3, pos := "keep.go:256", after := #[], guard := none }) (v := ?_) rfl (by kernel_rfl) (by kernel_rfl) (by kernel_rfl) (fun _ _ _ h => h) (Or.inl ⟨by rfl, ?_⟩) (by assumption) ?_
        rotate_left
        · intro w hSw; (try dsimp only at hSw); go_simp; try with_reducible rfl
        simp only [Act.put, List.setIfInBounds_toArray, List.set_cons_zero, List.set_cons_succ]
        refine wpAnyH_take (i := 4) (oi := { dst := some 120, op := Op.indexAddr 44 (Operand.tmp 118) (Operand.tmp 119), type := 0, pos := "keep.go:256", after := #[{ on := 2, ground := Ground.data }, { on := 3, ground := Ground.data }], guard := none }) (v := ?_) rfl (by kernel_rfl) (by kernel_rfl) (by kernel_rfl) (fun _ _ _ h => h) (Or.inl ⟨by rfl, ?_⟩) (by assumption) ?_
        rotate_left
        · intro w hSw; (try dsimp only at hSw); go_simp; try with_reducible rfl
        simp only [Act.put, List.setIfInBounds_toArray, List.set_cons_zero, List.set_cons_succ]
        refine wpAnyH_take (i := 5) (oi := { dst := some 121, op := Op.fieldAddr 49 (Operand.tmp 120) 2, type := 0, pos := "keep.go:256", after := #[{ on := 4, ground := Ground.data }], guard := none }) (v := ?_) rfl (by kernel_rfl) (by kernel_rfl) (by kernel_rfl) (fun _ _ _ h => h) (Or.inl ⟨by rfl, ?_⟩) (by assumption) ?_
        rotate_left
        · intro w hSw; (try dsimp only at hSw); go_simp; try with_reducible rfl
        simp only [Act.put, List.setIfInBounds_toArray, List.set_cons_zero, List.set_cons_succ]
        refine wpAnyH_take (i := 6) (oi := { dst := some 122, op := Op.load 3 (Operand.tmp 121), type := 3, pos := "keep.go:256", after := #[{ on := 5, ground := Ground.data }], guard := none }) (v := ?_) rfl (by kernel_rfl) (by kernel_rfl) (by kernel_rfl) (fun _ _ _ h => h) (Or.inl ⟨by rfl, ?_⟩) (by assumption) ?_
        rotate_left
        · intro w hSw; (try dsimp only at hSw); go_simp; try with_reducible rfl
        simp only [Act.put, List.setIfInBounds_toArray, List.set_cons_zero, List.set_cons_succ]
        refine wpAnyH_ready (rs := [1, 7]) (by kernel_rfl) (by simp) ?_
        refine AllReadyH.cons (o := { dst := some 117, op := Op.load 26 (Operand.tmp 116), type := 26, pos := "keep.go:256", after := #[{ on := 0, ground := Ground.data }], guard := none }) rfl (fun K' hK' => ?_) (AllReadyH.cons (o := { dst := some 123, op := Op.buildSlice 26 1 #[(0, Operand.tmp 122)], type := 26, pos := "keep.go:256", after := #[{ on := 6, ground := Ground.data }], guard := none }) rfl (fun K' hK' => ?_) AllReadyH.nil)
        · go_simp
          refine hK'.out _ _ ?_ (fun hHeld => ?_)
          · simp [go_sem, m2]
          clear hK' K'
          try simp only [Act.put, List.setIfInBounds_toArray, List.set_cons_zero, List.set_cons_succ]
          refine wpAnyH_ready (rs := [7]) (by kernel_rfl) (by simp) ?_
          refine AllReadyH.cons (o := { dst := some 123, op := Op.buildSlice 26 1 #[(0, Operand.tmp 122)], type := 26, pos := "keep.go:256", after := #[{ on := 6, ground := Ground.data }], guard := none }) rfl (fun K' hK' => ?_) AllReadyH.nil
          go_simp
          refine hK'.out _ _ ?_ (fun hHeld => ?_)
          · exact gq _
          clear hK' K'
          try simp only [Act.put, List.setIfInBounds_toArray, List.set_cons_zero, List.set_cons_succ]
          refine wpAnyH_ready (rs := [8]) (by kernel_rfl) (by simp) ?_
          refine AllReadyH.cons (o := { dst := some 124, op := Op.call { callee := Callee.builtin Builtin.append, args := #[Operand.tmp 117, Operand.tmp 123], argTypes := #[26, 26] }, type := 26, pos := "keep.go:256", after := #[{ on := 1, ground := Ground.data }, { on := 7, ground := Ground.data }], guard := none }) rfl (fun K' hK' => ?_) AllReadyH.nil
          refine step_growb_at (d := 124) rfl elemI (by decide) (by decide) (v := .slice a3 (LO (ps.take k) 3).length c3) (n := (LO (ps.take k) 3).length) (m := 1) (xs := LO (ps.take k) 3) (news := [.int .i64 (xn : Int)]) (B := Wb.heap.size) (ad := ⟨wr.heap.size, 0, none⟩) (cap := 1) rfl (.tmp 117) (.tmp 123) rfl rfl rfl (by have h := ((unhide HKW).keep ((Fr.refl _ _).alloc (.cells #[.int .i64 (xn : Int)] 3)).drew).row 3 (by omega); rw [ef] at h; exact h) rfl (World.news_of_block (heap_alloc_new wr _)) (by simp [Value.oneCell']) (by omega) (unhide HLL 3) (by have := (unhide HKW).fr.size; simp; omega) ?_
          intro v3 w3 o3 f3 sh3
          obtain ⟨av, cv, rfl⟩ := sh3
          have f3' : Fr (own (F 3)) (wr.alloc (.cells #[.int .i64 (xn : Int)] 3)).drew w3 (own (.slice av ((LO (ps.take k) 3).length + 1) cv)) := by rw [ef]; exact f3
          have pr := ((unhide HKW).keep ((Fr.refl _ _).alloc (.cells #[.int .i64 (xn : Int)] 3)).drew).pb (j := 3) (by omega) f3'
          rw [hzz] at pr
          have pc : w3.cell? ⟨w6.heap.size + 1, 3, none⟩ = some (.slice a3 (LO (ps.take k) 3).length c3) := by rw [← ef]; exact cell_of_row _ _ 3 _ 29 (0, 0) pr
          have pz : w3.frozen? ⟨w6.heap.size + 1, 3, none⟩ = false := frozen_rowE pr 3
          have gg : w3.cell? ⟨ig, k * 4 + 2, none⟩ = some (.int .i64 (xn : Int)) := (f3'.cell ig _ (by have := (Array.getElem?_eq_some_iff.1 (unhide HGC)).1; simp; omega) (fun hq => by have h := (World.ownsRow.lt ((unhide HKW).row 3 (by omega)) ig hq).1; have := unhide HGW; omega)).trans (gq _)
          have O3 := hide (((unhide HKW).keep ((Fr.refl _ _).alloc (.cells #[.int .i64 (xn : Int)] 3)).drew).grow (j := 3) (by omega) (v' := .slice av ((LO (ps.take k) 3).length + 1) cv) (u := .int .i64 (xn : Int)) o3 f3')
          clear o3 f3 f3' pr
          refine hK'.out _ _ gg (fun hHeld => ?_)
          clear hK' K'
          simp only [List.setIfInBounds_toArray, List.set_cons_zero, List.set_cons_succ]
          refine wpAnyH_take (i := 9) (oi := { dst := some 125, op := Op.fieldAddr 29 (Operand.tmp 18) 3, type := 0, pos := "keep.go:256", after := #[{ on := 0, ground := Ground.phase }, { on := 1, ground := Ground.phase }, { on := 2, ground := Ground.phase }, { on := 3, ground := Ground.phase }, { on := 4, ground := Ground.phase }, { on := 5, ground := Ground.phase }, { on := 6, ground := Ground.phase }, { on := 7, ground := Ground.phase }, { on := 8, ground := Ground.phase }], guard := none }) (v := ?_) rfl (by kernel_rfl) (by kernel_rfl) (by kernel_rfl) (fun _ _ _ h => h) (Or.inl ⟨by rfl, ?_⟩) (by assumption) ?_
          rotate_left
          · intro w hSw; (try dsimp only at hSw); go_simp; try with_reducible rfl
          simp only [Act.put, List.setIfInBounds_toArray, List.set_cons_zero, List.set_cons_succ]
          refine wpAnyH_ready (rs := [10]) (by kernel_rfl) (by simp) ?_
          refine AllReadyH.cons (o := { dst := none, op := Op.store 26 (Operand.tmp 125) (Operand.tmp 124), type := 0, pos := "keep.go:256", after := #[{ on := 9, ground := Ground.data }, { on := 8, ground := Ground.data }, { on := 8, ground := Ground.chain }, { on := 0, ground := Ground.phase }, { on := 1, ground := Ground.phase }, { on := 2, ground := Ground.phase }, { on := 3, ground := Ground.phase }, { on := 4, ground := Ground.phase }, { on := 5, ground := Ground.phase }, { on := 6, ground := Ground.phase }, { on := 7, ground := Ground.phase }, { on := 8, ground := Ground.phase }], guard := none }) rfl (fun K' hK' => ?_) AllReadyH.nil
          go_simp
          refine hK'.out _ _ ?_ (fun hHeld => ?_)
          · simp [go_sem, gg]
          clear hK' K'
          try simp only [Act.put, List.setIfInBounds_toArray, List.set_cons_zero, List.set_cons_succ]
          refine wpAnyH_done (by kernel_rfl) ?_ _
          go_wp2
          go_roundw
          case rel =>
            refine ⟨k + 1, by omega, by go_num, updO F 3 (.slice av ((LO (ps.take k) 3).length + 1) cv), ?_⟩
            rw [unhide HTK, LO_snoc _ _ 3 rfl]
            have h := unhide O3
            rw [hzz] at h
            exact h
          case measure => simp [intOf]; omega
        · go_simp
          refine hK'.out _ _ ?_ (fun hHeld => ?_)
          · exact gq _
          clear hK' K'
          try simp only [Act.put, List.setIfInBounds_toArray, List.set_cons_zero, List.set_cons_succ]
          refine wpAnyH_ready (rs := [1]) (by kernel_rfl) (by simp) ?_
          refine AllReadyH.cons (o := { dst := some 117, op := Op.load 26 (Operand.tmp 116), type := 26, pos := "keep.go:256", after := #[{ on := 0, ground := Ground.data }], guard := none }) rfl (fun K' hK' => ?_) AllReadyH.nil
          go_simp
          refine hK'.out _ _ ?_ (fun hHeld => ?_)
          · exact gq _
          clear hK' K'
          try simp only [Act.put, List.setIfInBounds_toArray, List.set_cons_zero, List.set_cons_succ]
          refine wpAnyH_ready (rs := [8]) (by kernel_rfl) (by simp) ?_
          refine AllReadyH.cons (o := { dst := some 124, op := Op.call { callee := Callee.builtin Builtin.append, args := #[Operand.tmp 117, Operand.tmp 123], argTypes := #[26, 26] }, type := 26, pos := "keep.go:256", after := #[{ on := 1, ground := Ground.data }, { on := 7, ground := Ground.data }], guard := none }) rfl (fun K' hK' => ?_) AllReadyH.nil
          refine step_growb_at (d := 124) rfl elemI (by decide) (by decide) (v := .slice a3 (LO (ps.take k) 3).length c3) (n := (LO (ps.take k) 3).length) (m := 1) (xs := LO (ps.take k) 3) (news := [.int .i64 (xn : Int)]) (B := Wb.heap.size) (ad := ⟨wr.heap.size, 0, none⟩) (cap := 1) rfl (.tmp 117) (.tmp 123) rfl rfl rfl (by have h := ((unhide HKW).keep ((Fr.refl _ _).alloc (.cells #[.int .i64 (xn : Int)] 3)).drew).row 3 (by omega); rw [ef] at h; exact h) rfl (World.news_of_block (heap_alloc_new wr _)) (by simp [Value.oneCell']) (by omega) (unhide HLL 3) (by have := (unhide HKW).fr.size; simp; omega) ?_
          intro v3 w3 o3 f3 sh3
          obtain ⟨av, cv, rfl⟩ := sh3
          have f3' : Fr (own (F 3)) (wr.alloc (.cells #[.int .i64 (xn : Int)] 3)).drew w3 (own (.slice av ((LO (ps.take k) 3).length + 1) cv)) := by rw [ef]; exact f3
          have pr := ((unhide HKW).keep ((Fr.refl _ _).alloc (.cells #[.int .i64 (xn : Int)] 3)).drew).pb (j := 3) (by omega) f3'
          rw [hzz] at pr
          have pc : w3.cell? ⟨w6.heap.size + 1, 3, none⟩ = some (.slice a3 (LO (ps.take k) 3).length c3) := by rw [← ef]; exact cell_of_row _ _ 3 _ 29 (0, 0) pr
          have pz : w3.frozen? ⟨w6.heap.size + 1, 3, none⟩ = false := frozen_rowE pr 3
          have gg : w3.cell? ⟨ig, k * 4 + 2, none⟩ = some (.int .i64 (xn : Int)) := (f3'.cell ig _ (by have := (Array.getElem?_eq_some_iff.1 (unhide HGC)).1; simp; omega) (fun hq => by have h := (World.ownsRow.lt ((unhide HKW).row 3 (by omega)) ig hq).1; have := unhide HGW; omega)).trans (gq _)
          have O3 := hide (((unhide HKW).keep ((Fr.refl _ _).alloc (.cells #[.int .i64 (xn : Int)] 3)).drew).grow (j := 3) (by omega) (v' := .slice av ((LO (ps.take k) 3).length + 1) cv) (u := .int .i64 (xn : Int)) o3 f3')
          clear o3 f3 f3' pr
          refine hK'.out _ _ gg (fun hHeld => ?_)
          clear hK' K'
          simp only [List.setIfInBounds_toArray, List.set_cons_zero, List.set_cons_succ]
          refine wpAnyH_take (i := 9) (oi := { dst := some 125, op := Op.fieldAddr 29 (Operand.tmp 18) 3, type := 0, pos := "keep.go:256", after := #[{ on := 0, ground := Ground.phase }, { on := 1, ground := Ground.phase }, { on := 2, ground := Ground.phase }, { on := 3, ground := Ground.phase }, { on := 4, ground := Ground.phase }, { on := 5, ground := Ground.phase }, { on := 6, ground := Ground.phase }, { on := 7, ground := Ground.phase }, { on := 8, ground := Ground.phase }], guard := none }) (v := ?_) rfl (by kernel_rfl) (by kernel_rfl) (by kernel_rfl) (fun _ _ _ h => h) (Or.inl ⟨by rfl, ?_⟩) (by assumption) ?_
          rotate_left
          · intro w hSw; (try dsimp only at hSw); go_simp; try with_reducible rfl
          simp only [Act.put, List.setIfInBounds_toArray, List.set_cons_zero, List.set_cons_succ]
          refine wpAnyH_ready (rs := [10]) (by kernel_rfl) (by simp) ?_
          refine AllReadyH.cons (o := { dst := none, op := Op.store 26 (Operand.tmp 125) (Operand.tmp 124), type := 0, pos := "keep.go:256", after := #[{ on := 9, ground := Ground.data }, { on := 8, ground := Ground.data }, { on := 8, ground := Ground.chain }, { on := 0, ground := Ground.phase }, { on := 1, ground := Ground.phase }, { on := 2, ground := Ground.phase }, { on := 3, ground := Ground.phase }, { on := 4, ground := Ground.phase }, { on := 5, ground := Ground.phase }, { on := 6, ground := Ground.phase }, { on := 7, ground := Ground.phase }, { on := 8, ground := Ground.phase }], guard := none }) rfl (fun K' hK' => ?_) AllReadyH.nil
          go_simp
          refine hK'.out _ _ ?_ (fun hHeld => ?_)
          · simp [go_sem, gg]
          clear hK' K'
          try simp only [Act.put, List.setIfInBounds_toArray, List.set_cons_zero, List.set_cons_succ]
          refine wpAnyH_done (by kernel_rfl) ?_ _
          go_wp2
          go_roundw
          case rel =>
            refine ⟨k + 1, by omega, by go_num, updO F 3 (.slice av ((LO (ps.take k) 3).length + 1) cv), ?_⟩
            rw [unhide HTK, LO_snoc _ _ 3 rfl]
            have h := unhide O3
            rw [hzz] at h
            exact h
          case measure => simp [intOf]; omega
      · go_wp2
        go_roundw
        case rel => exact ⟨k + 1, by omega, by go_num, F, (by rw [unhide HTK]; exact (unhide HKW).congr (LO_other _ _ rfl))⟩
        case measure => simp [intOf]; omega
    · have hkn : ¬ (k : Int) < (n : Int) := by omega
      have hkk : k = n := by omega
      subst hkk
      have hWr : Fr (fun _ => False) w5 wr (fun _ => False) := (unhide F6).trans ((unhide HWF).trans ho1.fr)
      have hlt5 : w4.heap.size < w5.heap.size := (Array.getElem?_eq_some_iff.1 (unhide R33)).1
      have c33 := fun j => cell_of_row wr _ j _ 33 (0, 0) ((hWr.same w4.heap.size hlt5 (fun h => h)).trans (unhide R33))
      have c39 := fun j => cell_of_row wr _ j _ 39 (0, 0) (unhide HKEEP _ (((unhide F4).trans (unhide F45)).trans hWr))
      obtain ⟨a0, c0, e0⟩ := row_shape (ho1.row 0 (by omega))
      obtain ⟨a1, c1, e1⟩ := row_shape (ho1.row 1 (by omega))
      obtain ⟨a2, c2, e2⟩ := row_shape (ho1.row 2 (by omega))
      obtain ⟨a3, c3, e3⟩ := row_shape (ho1.row 3 (by omega))
      have hzz := unhide HWZ
      have vb := ho1.vb
      rw [hzz, e0, e1, e2, e3] at vb
      have cv := fun j => cell_of_row wr _ j _ 29 (0, 0) vb
      have h22 : Calls Tryz.prog 22 #[.agg #[.slice z1a m1 z1c, .slice z2a m2 z2c, .slice z3a m3 z3c], .agg #[.slice a0 (LO (ps.take k) 0).length c0, .slice a1 (LO (ps.take k) 1).length c1, .slice a2 (LO (ps.take k) 2).length c2, .slice a3 (LO (ps.take k) 3).length c3], .int .i64 fu] wr fun e w' => ∃ lg' ga gc gf, e = .returned (.tuple #[.string lg', .slice ga r.trace.length gc, .agg #[.int .i64 gf, .int .i64 (r.reg 0), .int .i64 (r.reg 1), .int .i64 (r.reg 2), .int .i64 (r.reg 3), .int .i64 r.clock, .int .i64 (k : Int)], .int .i64 0]) ∧ w'.ownsRow wr.heap.size 72 3 (.slice ga r.trace.length gc) r.trace.length (flatE r.trace) ∧ (r.fin = 6 ∨ r.fin = gf) ∧ Fr (fun _ => False) wr w' (fun _ => False) := by
        have hinr := (unhide HINS).fr hWr
        have hw4 : w4.heap.size ≤ Wb.heap.size := by have h1 := (unhide F45).size; have h2 := (unhide F6).size; have h3 := (unhide HWF).size; omega
        have ho0 : OwnI wr w4.heap.size (F 0) (clocksOf ((ps.take k).map (·.1))) := by
          have h := rowLow (ho1.row 0 (by omega)) hw4
          rw [LO_ints (ps.take k) 0 (by omega) (clocksOf ((ps.take k).map (·.1))) rfl, List.length_map] at h
          exact h
        have ho2 : OwnI wr w4.heap.size (F 2) (picksOf ((ps.take k).map (·.1))) := by
          have h := rowLow (ho1.row 2 (by omega)) hw4
          rw [LO_ints (ps.take k) 2 (by omega) (picksOf ((ps.take k).map (·.1))) rfl, List.length_map] at h
          exact h
        have ho3 : OwnI wr w4.heap.size (F 3) (lotsOf ((ps.take k).map (·.1))) := by
          have h := rowLow (ho1.row 3 (by omega)) hw4
          rw [LO_ints (ps.take k) 3 (by omega) (lotsOf ((ps.take k).map (·.1))) rfl, List.length_map] at h
          exact h
        have hob : wr.ownsRow w4.heap.size 26 1 (F 1) (btO (ps.take k)).length ((btO (ps.take k)).map (·.1)) := by
          have h := rowLow (ho1.row 1 (by omega)) hw4
          rw [LO_bt, List.length_map] at h
          exact h
        have hmem : ∀ b, b ∈ btO (ps.take k) → ∃ p, p ∈ ps ∧ b = (p.2, zs p.1.2.2.2) := fun b hb => by
          obtain ⟨p, hp, rfl⟩ := List.mem_map.1 hb
          exact ⟨p, List.mem_of_mem_take (List.mem_filter.1 hp).1, rfl⟩
        have hall : ∀ b, b ∈ btO (ps.take k) → OwnI wr w4.heap.size b.1 b.2 := fun b hb => by
          obtain ⟨p, hp, rfl⟩ := hmem b hb
          exact rowLow (hinr.fl p hp) (by simp)
        have hshort : ∀ b, b ∈ btO (ps.take k) → b.2.length ≤ 100000000 := fun b hb => by
          obtain ⟨p, hp, rfl⟩ := hmem b hb
          have hfit : Fit p.1 := by
            refine (rdV lg).2 p.1 ?_
            show p.1 ∈ (readL (bs lg)).1
            rw [(unhide HK).rd]
            show p.1 ∈ alls xs s.fin.toNat
            rw [← unhide HPS]
            exact List.mem_map_of_mem hp
          show (zs p.1.2.2.2).length ≤ _
          rw [zs_len]
          exact Nat.le_trans (fit_files hfit) (by omega)
        have htl : ((ps.take k).map (·.1)).length ≤ 2000000 := by rw [List.length_map, List.length_take]; omega
        have hfl : ∀ j, ((((ps.take k).map (·.1)).filter fun i => i.1 == j).map fun i => (i.2.2.1 : Int)).length ≤ 4000000 := fun j => by
          rw [List.length_map]; have := List.length_filter_le (fun i : Inp => i.1 == j) ((ps.take k).map (·.1)); omega
        have mono : ∀ {v : Value} {l : List Int}, OwnI wr w4.heap.size v l → IntsIn wr v l (fun q => q < wr.heap.size) := fun h => by
          obtain ⟨a, c, hv, hc⟩ := ownI_ints h
          exact ⟨a, c, hv, hc.imp id fun ⟨q, off, e, hp, hh⟩ => ⟨q, off, e, hp.2.2, hh⟩⟩
        have htabr : TabIn wr := by
          have hb := ((unhide HK).fr.trans ((unhide HF3).trans ((unhide F4).trans ((unhide F45).trans hWr)))).below (B := w.heap.size) (fun k hk => hk.elim) (Nat.le_refl _)
          exact tabIn_below hb (tabIn_lt (unhide HTAB)) (unhide HTAB)
        obtain ⟨g, hg, g1, g2, g3, g4, g5⟩ := unhide HN3 (ps.take k) (by rw [← unhide HPS, List.map_take])
        have h := recordK (wp := w4) (W := wr) (unhide HPG) (pgK_ok No lno fo) ((unhide F45).trans hWr) htabr ho0 hob hall hshort (P := fun q => q < wr.heap.size) (fun _ h => h) (mono ho2) (mono ho3) (hfl 1) (by
          have : (btO (ps.take k)).length ≤ (ps.take k).length := by unfold btO; rw [List.length_map]; exact List.length_filter_le _ _
          rw [List.length_take] at this; omega) (hfl 3) (hfl 4) fu
        rw [e0, e1, e2, e3] at h
        refine h.mono ?_
        rintro e w' ⟨hf, vt, rfl, hr⟩
        obtain ⟨ga, gc, rfl⟩ := row_shape hr
        rw [← hg, g1] at hr
        rw [← hg, g1]
        have hfv : finV g = .agg #[.int .i64 g.fin, .int .i64 (r.reg 0), .int .i64 (r.reg 1), .int .i64 (r.reg 2), .int .i64 (r.reg 3), .int .i64 r.clock, .int .i64 (k : Int)] := by
          unfold finV
          rw [g2, g3, g4, hn2]
        rw [hfv]
        exact ⟨_, ga, gc, g.fin, rfl, hr, g5, hf⟩
      have H22 := hide h22
      have r37 : wr.heap[w6.heap.size]? = some (.cells #[.int .i64 r.fin, .int .i64 (r.reg 0), .int .i64 (r.reg 1), .int .i64 (r.reg 2), .int .i64 (r.reg 3), .int .i64 r.clock, .int .i64 (k : Int)] 37) := (ho1.fr.same w6.heap.size (by omega) (fun h => h)).trans (unhide HF37)
      have R37 := hide r37
      have FW := hide hWr
      have FB := hide ho1.fr
      clear h22 ho1 vb e0 e1 e2 e3 hWr r37
      go_wp2_with fail
      go_at_call 22
      refine (unhide H22).mono ?_
      rintro e w8 ⟨lg', ga, gc, gf, rfl, ho8, hfe, f8⟩
      have r8 : w8.heap[w6.heap.size]? = some (.cells #[.int .i64 r.fin, .int .i64 (r.reg 0), .int .i64 (r.reg 1), .int .i64 (r.reg 2), .int .i64 (r.reg 3), .int .i64 r.clock, .int .i64 (k : Int)] 37) := (f8.same _ (Array.getElem?_eq_some_iff.1 (unhide R37)).1 (fun h => h)).trans (unhide R37)
      have hlt8 : w6.heap.size < w8.heap.size := (Array.getElem?_eq_some_iff.1 r8).1
      have hne8 : w6.heap.size ≠ w8.heap.size := by omega
      have hne8' : ¬ w8.heap.size = w6.heap.size := by omega
      have f9 : Fr (fun _ => False) w8 (w8.alloc (.cells #[.int .i64 gf, .int .i64 (r.reg 0), .int .i64 (r.reg 1), .int .i64 (r.reg 2), .int .i64 (r.reg 3), .int .i64 r.clock, .int .i64 (k : Int)] 37)) (fun _ => False) := (Fr.refl _ _).alloc _
      have K6 := hide ((Below.heap_alloc w8 (.cells #[.int .i64 gf, .int .i64 (r.reg 0), .int .i64 (r.reg 1), .int .i64 (r.reg 2), .int .i64 (r.reg 3), .int .i64 r.clock, .int .i64 (k : Int)] 37) _ hlt8).trans r8)
      have K8 := hide (heap_alloc_new w8 (.cells #[.int .i64 gf, .int .i64 (r.reg 0), .int .i64 (r.reg 1), .int .i64 (r.reg 2), .int .i64 (r.reg 3), .int .i64 r.clock, .int .i64 (k : Int)] 37))
      have hrb : r.trace.length ≤ 50000000 := by
        rw [unhide HRR]
        have h := runM_trace repAsk_ok (pgK_ok No lno fo) ((rdV lg).1.length + 1) fu (rdV lg)
        have h2 : (rdV lg).1.length = xs.length + 1 := by show (readL (bs lg)).1.length = _; rw [(unhide HK).rd]; unfold alls; simp
        show (repM (pgK No lno fo) fu (rdV lg)).1.trace.length ≤ _
        unfold repM
        omega
      have o1 : OpsIn (w8.alloc (.cells #[.int .i64 gf, .int .i64 (r.reg 0), .int .i64 (r.reg 1), .int .i64 (r.reg 2), .int .i64 (r.reg 3), .int .i64 r.clock, .int .i64 (k : Int)] 37)) (.slice ra r.trace.length rc) r.trace.length (fun i => r.trace.getD i (0, 0, 0)) := row_ops' (ownsRow_of_block (unhide HO) (fun q hq => ((unhide HWF).trans ((unhide FB).trans (f8.trans f9))).same q (World.ownsRow.lt (unhide HO) q hq).2 (fun h => h))) (by omega)
      have o2 : OpsIn (w8.alloc (.cells #[.int .i64 gf, .int .i64 (r.reg 0), .int .i64 (r.reg 1), .int .i64 (r.reg 2), .int .i64 (r.reg 3), .int .i64 r.clock, .int .i64 (k : Int)] 37)) (.slice ga r.trace.length gc) r.trace.length (fun i => r.trace.getD i (0, 0, 0)) := row_ops' (ownsRow_of_block ho8 (fun q hq => f9.same q (World.ownsRow.lt ho8 q hq).2 (fun h => h))) (by omega)
      have H17 := hide (sameEvents_any r.trace.length _ _ _ _ o1 o2)
      have FE := hide ((unhide HK).fr.trans ((unhide HF3).trans ((unhide F4).trans ((unhide F45).trans ((unhide FW).trans (f8.trans f9))))))
      clear ho8 f8 f9 r8 o1 o2 c33 c39 cv hrb
      by_cases h6 : r.fin = 6
      · go_wp2_with (go_at_call 17; refine (unhide H17).mono ?_; rintro e w9 ⟨rfl, d9⟩; have x6 : w9.heap[w6.heap.size]? = some (.cells #[.int .i64 r.fin, .int .i64 (r.reg 0), .int .i64 (r.reg 1), .int .i64 (r.reg 2), .int .i64 (r.reg 3), .int .i64 r.clock, .int .i64 (k : Int)] 37) := (by obtain ⟨m, rfl⟩ := d9; exact unhide K6); have x8 : w9.heap[w8.heap.size]? = some (.cells #[.int .i64 gf, .int .i64 (r.reg 0), .int .i64 (r.reg 1), .int .i64 (r.reg 2), .int .i64 (r.reg 3), .int .i64 r.clock, .int .i64 (k : Int)] 37) := (by obtain ⟨m, rfl⟩ := d9; exact unhide K8); have t6 := fun j => cell_of_row w9 _ j _ 37 (0, 0) x6; have t8 := fun j => cell_of_row w9 _ j _ 37 (0, 0) x8; have fz := frozen_rowE x6 0; have D9 := hide d9; clear d9 x6 x8)
        go_ret
        refine ⟨rfl, ?_⟩
        obtain ⟨m, rfl⟩ := unhide D9
        refine ((unhide FE).drewN m).setCell _ _ (.inr ?_)
        have h1 := (unhide HK).fr.size; have h2 := (unhide HF3).size; have h3 := (unhide F4).size; have h4 := (unhide F45).size; have h5 := (unhide F6).size
        show w.heap.size ≤ w6.heap.size
        omega
      · have hgf : gf = r.fin := by rcases hfe with h | h; exact absurd h h6; exact h.symm
        have h6b : (r.fin == 6) = false := by simpa using h6
        subst hgf
        go_wp2_with (go_at_call 17; refine (unhide H17).mono ?_; rintro e w9 ⟨rfl, d9⟩; have x6 : w9.heap[w6.heap.size]? = some (.cells #[.int .i64 r.fin, .int .i64 (r.reg 0), .int .i64 (r.reg 1), .int .i64 (r.reg 2), .int .i64 (r.reg 3), .int .i64 r.clock, .int .i64 (k : Int)] 37) := (by obtain ⟨m, rfl⟩ := d9; exact unhide K6); have x8 : w9.heap[w8.heap.size]? = some (.cells #[.int .i64 r.fin, .int .i64 (r.reg 0), .int .i64 (r.reg 1), .int .i64 (r.reg 2), .int .i64 (r.reg 3), .int .i64 r.clock, .int .i64 (k : Int)] 37) := (by obtain ⟨m, rfl⟩ := d9; exact unhide K8); have t6 := fun j => cell_of_row w9 _ j _ 37 (0, 0) x6; have t8 := fun j => cell_of_row w9 _ j _ 37 (0, 0) x8; have D9 := hide d9; clear d9 x6 x8)
        go_ret
        refine ⟨rfl, ?_⟩
        obtain ⟨m, rfl⟩ := unhide D9
        exact (unhide FE).drewN m
end Go.Proofs.YtfmbebofllgmoaaGreatDoor

