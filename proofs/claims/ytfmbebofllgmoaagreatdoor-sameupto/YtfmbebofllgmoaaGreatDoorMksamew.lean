/-
  PROVED HERE: rerunkeep.Same answers true of everything in memory.
-/
import Derived.Test.YtfmbebofllgmoaaGreatDoorMkept
namespace Go.Proofs.YtfmbebofllgmoaaGreatDoor
open Go.RowKit
attribute [local go_sem ↓] Go.wp_at_zero Go.wp_at_succ

set_option maxHeartbeats 4000000 in
set_option maxRecDepth 20000 in
theorem same_any {w : World} (htab : TabIn w) {v q0 q1 q2 q3 : Value} {N : Nat} {ln : Nat → Nat} {f : Nat → Nat → O3} (hH : HandsIn w v N ln f) (hin : ∀ i j, i < N → j < ln i → In3 (f i j)) {raw lp ll : List Int} {rb : List Br} {P : Nat → Prop} (hP : ∀ q, P q → q < w.heap.size) (h0 : IntsIn w q0 raw P) (h1 : ValsIn w q1 (rb.map (·.1)) P) (hrb : ∀ b, b ∈ rb → IntsIn w b.1 b.2 P) (h2 : IntsIn w q2 lp P) (h3 : IntsIn w q3 ll P) (hr0 : rng raw) (hr1 : ∀ b, b ∈ rb → rng b.2) (n23 : lp.length + ll.length ≤ 1900000) (fuel : Int) (hfu : inR fuel) :
    Calls Tryz.prog 7 #[v, .agg #[q0, q1, q2, q3], .int .i64 fuel] w fun e w' => e = .returned (.bool true) ∧ Fr (fun _ => False) w w' (fun _ => False) := by
  obtain ⟨ha, hl, hc, rfl⟩ : ∃ a n c, v = .slice a n c := by obtain ⟨a, c, hv, _⟩ := hH; exact ⟨a, _, c, hv⟩
  have hfa : Fr (fun _ => False) w (w.alloc (.cells #[q0, q1, q2, q3] 29)) (fun _ => False) := (Fr.refl _ _).alloc _
  have hba := hfa.below (B := w.heap.size) (fun k hk => hk.elim) (Nat.le_refl _)
  have H13 := hide (works_any (w.alloc (.cells #[q0, q1, q2, q3] 29)) (tabIn_below hba (tabIn_lt htab) htab))
  have h14 : ∀ W : World, Fr (fun _ => False) w W (fun _ => False) → _ := fun W hf => kept_any htab hH hin hP h0 h1 hrb h2 h3 hr0 hr1 n23 fuel hfu hf
  have H14 := hide h14
  have HFA := hide hfa
  have HTAB := hide htab
  have hb29 := heap_alloc_new w (.cells #[q0, q1, q2, q3] 29)
  have HB29 := hide hb29
  have hzz : w.heap.size < (w.alloc (.cells #[q0, q1, q2, q3] 29)).heap.size := by simp
  have HZZ := hide hzz
  have e35 := eq35
  clear h14 hfa htab hH hb29 hba hzz h0 h1 hrb h2 h3 hr0 hr1 hin
  go_enter Tryz.func7, Tryz.ntmps7
  go_wp2_with fail
  go_at_call 13
  refine (unhide H13).mono ?_
  rintro e w1 ⟨rfl, f1⟩
  have hf1 := (unhide HFA).trans f1
  have hc29 := fun j => cell_of_row w1 w.heap.size j _ 29 (0, 0) ((f1.same w.heap.size (unhide HZZ) (fun h => h)).trans (unhide HB29))
  have HF1 := hide hf1
  clear hf1 f1
  go_wp2_with fail
  go_at_call 14
  refine (unhide H14 _ (unhide HF1)).mono ?_
  rintro e w2 ⟨s1a, n1, s1c, s2a, n2, s2c, s3a, n3, s3c, ta, tc, p, fu, lg, s, xs, rfl, hk⟩
  have HK := hide hk
  have hz2 : w2.heap.size < (w2.alloc (.cells #[.slice s1a n1 s1c, .slice s2a n2 s2c, .slice s3a n3 s3c, .int .i64 fu, .string lg, .slice ta s.trace.length tc, .int .i64 s.fin, .int .i64 (s.reg 0), .int .i64 (s.reg 1), .int .i64 (s.reg 2), .int .i64 (s.reg 3), .int .i64 s.clock, .int .i64 s.heard, .bool true] 39)).heap.size := by simp
  have hr39 := heap_alloc_new w2 (.cells #[.slice s1a n1 s1c, .slice s2a n2 s2c, .slice s3a n3 s3c, .int .i64 fu, .string lg, .slice ta s.trace.length tc, .int .i64 s.fin, .int .i64 (s.reg 0), .int .i64 (s.reg 1), .int .i64 (s.reg 2), .int .i64 (s.reg 3), .int .i64 s.clock, .int .i64 s.heard, .bool true] 39)
  have hf3 : Fr (fun _ => False) w2 (w2.alloc (.cells #[.slice s1a n1 s1c, .slice s2a n2 s2c, .slice s3a n3 s3c, .int .i64 fu, .string lg, .slice ta s.trace.length tc, .int .i64 s.fin, .int .i64 (s.reg 0), .int .i64 (s.reg 1), .int .i64 (s.reg 2), .int .i64 (s.reg 3), .int .i64 s.clock, .int .i64 s.heard, .bool true] 39)) (fun _ => False) := (Fr.refl _ _).alloc _
  have hkeep : ∀ W : World, Fr (fun _ => False) (w2.alloc (.cells #[.slice s1a n1 s1c, .slice s2a n2 s2c, .slice s3a n3 s3c, .int .i64 fu, .string lg, .slice ta s.trace.length tc, .int .i64 s.fin, .int .i64 (s.reg 0), .int .i64 (s.reg 1), .int .i64 (s.reg 2), .int .i64 (s.reg 3), .int .i64 s.clock, .int .i64 s.heard, .bool true] 39)) W (fun _ => False) → W.heap[w2.heap.size]? = some (.cells #[.slice s1a n1 s1c, .slice s2a n2 s2c, .slice s3a n3 s3c, .int .i64 fu, .string lg, .slice ta s.trace.length tc, .int .i64 s.fin, .int .i64 (s.reg 0), .int .i64 (s.reg 1), .int .i64 (s.reg 2), .int .i64 (s.reg 3), .int .i64 s.clock, .int .i64 s.heard, .bool true] 39) := fun W hf => (hf.same _ hz2 (fun h => h)).trans hr39
  have HKEEP := hide hkeep
  have HF3 := hide hf3
  clear hr39 hkeep hf3 hc29 H13 H14 HB29 HZZ HFA
  have h15 : Calls Tryz.prog 15 #[.agg #[.slice s1a n1 s1c, .slice s2a n2 s2c, .slice s3a n3 s3c], .string lg, .int .i64 fu] (w2.alloc (.cells #[.slice s1a n1 s1c, .slice s2a n2 s2c, .slice s3a n3 s3c, .int .i64 fu, .string lg, .slice ta s.trace.length tc, .int .i64 s.fin, .int .i64 (s.reg 0), .int .i64 (s.reg 1), .int .i64 (s.reg 2), .int .i64 (s.reg 3), .int .i64 s.clock, .int .i64 s.heard, .bool true] 39)) fun e w' => ∃ a c, e = .returned (.tuple #[.slice a s.trace.length c, .agg #[.int .i64 s.fin, .int .i64 (s.reg 0), .int .i64 (s.reg 1), .int .i64 (s.reg 2), .int .i64 (s.reg 3), .int .i64 s.clock, .int .i64 s.heard], .int .i64 0]) ∧ w'.ownsRow (w2.alloc (.cells #[.slice s1a n1 s1c, .slice s2a n2 s2c, .slice s3a n3 s3c, .int .i64 fu, .string lg, .slice ta s.trace.length tc, .int .i64 s.fin, .int .i64 (s.reg 0), .int .i64 (s.reg 1), .int .i64 (s.reg 2), .int .i64 (s.reg 3), .int .i64 s.clock, .int .i64 s.heard, .bool true] 39)).heap.size 72 3 (.slice a s.trace.length c) s.trace.length (flatE s.trace) ∧ Fr (fun _ => False) (w2.alloc (.cells #[.slice s1a n1 s1c, .slice s2a n2 s2c, .slice s3a n3 s3c, .int .i64 fu, .string lg, .slice ta s.trace.length tc, .int .i64 s.fin, .int .i64 (s.reg 0), .int .i64 (s.reg 1), .int .i64 (s.reg 2), .int .i64 (s.reg 3), .int .i64 s.clock, .int .i64 s.heard, .bool true] 39)) w' (fun _ => False) := by
    have hk := unhide HK
    refine (hk.replay (unhide HTAB) (unhide HF3) lg hk.size (by rw [hk.rd]; unfold alls; simpa using hk.cnt)).mono ?_
    rintro e w' ⟨hf, ⟨h0, _⟩ | ⟨_, a, c, r, hr, he, ho⟩⟩
    · rw [hk.rd] at h0; have := hk.pos; change lg.size = 0 at h0; omega
    · rw [hk.all] at hr
      subst hr
      exact ⟨a, c, he, ho, hf⟩
  have h16 : ∀ W : World, Calls Tryz.prog 16 #[.string lg] W fun e w' => ∃ a c, ∃ ps : List (Inp × Value), e = .returned (.tuple #[.slice a (xs.length + 1) c, .int .i64 lg.size, .int .i64 1]) ∧ InsAt w' W.heap.size (.slice a (xs.length + 1) c) ps ∧ ps.map (·.1) = alls xs s.fin.toNat ∧ Fr (fun _ => False) W w' (fun _ => False) := fun W => by
    have hk := unhide HK
    refine (read_ps lg hk.size W).mono ?_
    rintro e w' ⟨a, c, ps, rfl, hi, hp, hf⟩
    rw [hk.rd] at hp ⊢
    have hl : ps.length = xs.length + 1 := by have := congrArg List.length hp; unfold alls at this; simpa using this
    rw [hl] at hi ⊢
    exact ⟨a, c, ps, rfl, hi, hp, hf⟩
  have H15 := hide h15
  have H16 := hide h16
  have hfn : ((s.fin.toNat : Nat) : Int) = s.fin := by have := hk.fin; omega
  have HFN := hide hfn
  have hwr : IntKind.i64.wrap ((xs.length : Int) + 1) = (xs.length : Int) + 1 := by rw [IntKind.wrap_i64]; have := hk.cnt; omega
  have hheard : s.heard = (xs.length : Int) := hk.heard
  have HHE := hide hheard
  clear h15 h16 hfn hheard hk
  go_wp2_with fail
  go_at_call 15
  refine (unhide H15).mono ?_
  rintro e w4 ⟨ta', tc', rfl, tr4, f4⟩
  have c4 := fun j => cell_of_row w4 _ j _ 39 (0, 0) (unhide HKEEP _ f4)
  have hlt4 : w2.heap.size < w4.heap.size := (Array.getElem?_eq_some_iff.1 (unhide HKEEP _ f4)).1
  have hne4 : w2.heap.size ≠ w4.heap.size := by omega
  have hne4' : ¬ w4.heap.size = w2.heap.size := by omega
  have T4 := hide tr4
  have F4 := hide f4
  have H16' := hide (unhide H16 (w4.alloc (.cells #[.int .i64 s.fin, .int .i64 (s.reg 0), .int .i64 (s.reg 1), .int .i64 (s.reg 2), .int .i64 (s.reg 3), .int .i64 s.clock, .int .i64 s.heard] 37)))
  clear tr4 f4 H15 H16
  go_wp2_with fail
  go_at_call 16
  refine (unhide H16').mono ?_
  rintro e w5 ⟨ia, ic, ps, rfl, hins, hps, f5⟩
  have f45 := ((unhide F4).alloc (.cells #[.int .i64 s.fin, .int .i64 (s.reg 0), .int .i64 (s.reg 1), .int .i64 (s.reg 2), .int .i64 (s.reg 3), .int .i64 s.clock, .int .i64 s.heard] 37)).trans f5
  have c5 := fun j => cell_of_row w5 _ j _ 39 (0, 0) (unhide HKEEP _ f45)
  have r37 : w5.heap[w4.heap.size]? = some (.cells #[.int .i64 s.fin, .int .i64 (s.reg 0), .int .i64 (s.reg 1), .int .i64 (s.reg 2), .int .i64 (s.reg 3), .int .i64 s.clock, .int .i64 s.heard] 37) := (f5.same w4.heap.size (by simp) (fun h => h)).trans (heap_alloc_new _ _)
  have d5 := fun j => cell_of_row w5 _ j _ 37 (0, 0) r37
  have o1 : OpsIn w5 (.slice ta' s.trace.length tc') s.trace.length (fun i => s.trace.getD i (0, 0, 0)) := row_ops' (ownsRow_of_block (w' := w5) (unhide T4) (fun q hq => (f5.same q (by have := (World.ownsRow.lt (unhide T4) q hq).2; simp; omega) (fun h => h)).trans (Below.heap_alloc _ _ _ (World.ownsRow.lt (unhide T4) q hq).2))) (by have := (unhide HK).trb; omega)
  have H17 := hide (sameEvents_any s.trace.length _ _ _ w5 o1 ((unhide HK).ops ((unhide HF3).trans f45)))
  have hlp : ps.length = xs.length + 1 := by have := congrArg List.length hps; unfold alls at this; simpa using this
  have hlast : ∃ g c x fv, ia = some ⟨g, 0, none⟩ ∧ c = ic ∧ x = (5, 0, s.fin.toNat, []) ∧ w5.cell? ⟨g, xs.length * 4, none⟩ = some (.int .i64 ((x : Inp).1 : Nat)) ∧ w5.cell? ⟨g, xs.length * 4 + 1, none⟩ = some (.int .i64 (x.2.1 : Nat)) ∧ w5.cell? ⟨g, xs.length * 4 + 2, none⟩ = some (.int .i64 (x.2.2.1 : Nat)) ∧ w5.cell? ⟨g, xs.length * 4 + 3, none⟩ = some fv ∧ ∃ a n c, fv = .slice a n c := by
    obtain ⟨g, c, x, fv, e1, _, e2, m0, m1, m2, m3, mo⟩ := hins.cells (i := xs.length) (by omega)
    injection e1 with e1 _ e3
    have hx : x = (5, 0, s.fin.toNat, []) := by
      have q1 : (ps.map (·.1))[xs.length]? = some x := by rw [List.getElem?_map, e2]; rfl
      rw [hps] at q1
      unfold alls at q1
      simpa using q1.symm
    exact ⟨g, c, x, fv, e1, e3.symm, hx, m0, m1, m2, m3, ownI_shape mo⟩
  obtain ⟨ig, _, x, fv, rfl, rfl, hx, m0, m1, m2, m3, fa, fn, fc, rfl⟩ := hlast
  rw [hx] at m0 m1 m2
  simp only [unhide HFN] at m2
  have F45 := hide f45
  have hxl : (0 : Int) ≤ (xs.length : Int) := by omega
  have hxl' : (xs.length : Int) < (xs.length : Int) + 1 := by omega
  have hwr2 : IntKind.i64.wrap ((xs.length : Int) + 1 - 1) = (xs.length : Int) := by rw [IntKind.wrap_i64]; have := (unhide HK).cnt; omega
  have hw64 : wrap64 (xs.length : Int) = (xs.length : Int) := by unfold wrap64; have := (unhide HK).cnt; omega
  have hhe := unhide HHE
  simp only [hhe] at c5 d5 ⊢
  clear hins hps f5 f45 o1 r37 c4 H16' hx hlp
  go_wp2_with (go_at_call 17; refine (unhide H17).mono ?_; rintro e w6 ⟨rfl, d6⟩; have D6 := hide d6; have c6 := fun j => (d6.cell ⟨w2.heap.size, j, none⟩).trans (c5 j); have d7 := fun j => (d6.cell ⟨w4.heap.size, j, none⟩).trans (d5 j); have hlt6 : w4.heap.size < w6.heap.size := (World.block_lt_of_cell? w6 ⟨w4.heap.size, 0, none⟩ (d7 0)); have hne6 : w4.heap.size ≠ w6.heap.size := (by omega); have hne6b : ¬ w6.heap.size = w4.heap.size := (by omega); have l0 := (d6.cell _).trans m0; have l1 := (d6.cell _).trans m1; have l2 := (d6.cell _).trans m2; have l3 := (d6.cell _).trans m3; clear d6)
  go_ret
  refine ⟨rfl, ?_⟩
  have e1 := (unhide HK).fr.trans ((unhide HF3).trans (unhide F45))
  obtain ⟨m, rfl⟩ := unhide D6
  exact (e1.drewN m).alloc _
end Go.Proofs.YtfmbebofllgmoaaGreatDoor

